/-
  container/heap over the ids that may come in: Push, Pop.
-/
import Derived.Test.YtlfncnnfpniigaaRegB
import Derived.Test.YtlfncnnfpniigaaXF
import Derived.Test.YtlfncnnfpniigaaXH
namespace Go.Proofs.Ytlfncnnfpniigaa.Dq
open Go Go.RowKit Kt Kg Lw Tr

theorem wp_pushT {T : TypeId} (hT : Try.prog.underlying T = some (.slice tId)) {o : Oper} {a : Act} {K : Act → World → Prop} {Q : Exit → Act → World → Prop} {W : World} (s x : Operand)
    (ho : o.op = .call { callee := .builtin .append, args := #[s, x], argTypes := #[T, T] })
    (B : Nat) (w0 : World) (v : Value) (l : List Bs) (y : List UInt8) (cs : Array Value) (hs : a.eval s = v) (hx : a.eval x = .slice (some ⟨W.heap.size, 0, none⟩) 1 1) (hc : cs = #[.string ⟨y.toArray⟩])
    (hown : OwT W B tId v l) (hlen : l.length + 1 ≤ 1000000000) (hb : Below B w0 W) (hbase : B ≤ W.heap.size)
    (h : ∀ v' w', OwT w' B tId v' (l ++ [y]) → Below B w0 w' → W.grownBy w' v.ownBlock → (v'.ownBlock = v.ownBlock ∨ v'.ownBlock = some (W.heap.size + 1)) → K (a.put o.dst v') w') : o.wp Try.prog a (W.alloc (.cells cs tId)) K Q := by
  obtain ⟨i0, hi0, hz0, hz1, hz2⟩ := info_parts infoId
  subst hc
  have hown' : (W.alloc (.cells #[.string ⟨y.toArray⟩] tId)).ownsRow B tId 1 v l.length (texts l) := World.ownsRow.alloc hown _
  have hnews : ∀ j u, (texts [y])[j]? = some u → (W.alloc (.cells #[.string ⟨y.toArray⟩] tId)).cell? ((⟨W.heap.size, 0, none⟩ : Addr).add j) = some u := fun j u hu => by
    rw [Addr.add_mid, (Row.fresh W tId #[.string ⟨y.toArray⟩]).cell, Nat.zero_add]
    exact hu
  obtain ⟨v', w', hr, h1, h2, _⟩ := run_append_own (P := Try.prog) (W.alloc (.cells #[.string ⟨y.toArray⟩] tId)) B T o.type tId i0 (.string ⟨#[]⟩) 1 16 hT hi0 hz0 hz1 hz2 rfl (by omega) v l.length (texts l) hown'
    ⟨W.heap.size, 0, none⟩ 1 1 (texts [y]) rfl hnews (texts_one [y]) (by unfold maxLen; omega) (by omega) (by simp; omega)
  have hg := grownBy_back _ h2
  have hbl : v'.ownBlock = v.ownBlock ∨ v'.ownBlock = some (W.heap.size + 1) := by
    rcases hown'.2 with ⟨rfl, h0⟩ | ⟨g, cap, cur, rfl, _, hgg, hnc, _, hcs, htake⟩
    · have hr2 := run_append_nil (P := Try.prog) (W.alloc (.cells #[.string ⟨y.toArray⟩] tId)) T o.type tId i0 (.string ⟨#[]⟩) hT hi0 hz0 ⟨W.heap.size, 0, none⟩ 1 1 (texts [y]) (by rw [hz1]; rfl) hnews (by omega) (by omega) (by rw [hz2]; omega)
      rw [hr] at hr2
      injection hr2 with e1 _
      right
      rw [e1]
      simp [Value.ownBlock]
    · by_cases hroom : l.length + 1 ≤ cap
      · have hr2 := run_append_room (P := Try.prog) (W.alloc (.cells #[.string ⟨y.toArray⟩] tId)) T o.type tId i0 hT hi0 g l.length cap cur hgg ⟨W.heap.size, 0, none⟩ 1 1 (texts [y]) (by rw [hz1]; rfl) hnews (texts_one [y]) hroom (by rw [hz1, hcs]; simp [texts]; omega)
        rw [hr] at hr2
        injection hr2 with e1 _
        left
        rw [e1]
        rfl
      · have hr2 := run_append_grow (P := Try.prog) (W.alloc (.cells #[.string ⟨y.toArray⟩] tId)) T o.type tId i0 (.string ⟨#[]⟩) hT hi0 hz0 ⟨g, 0, none⟩ l.length cap (texts l) (by rw [hz1, texts_len]; omega) (World.ownsRow.cells hown' rfl)
          ⟨W.heap.size, 0, none⟩ 1 1 (texts [y]) (by rw [hz1]; rfl) hnews (by omega) (by omega) (growslice_fits (by omega) (by rw [hz2]; omega))
        rw [hr] at hr2
        injection hr2 with e1 _
        right
        rw [e1]
        simp [Value.ownBlock]
  unfold Oper.wp execOp
  simp only [ho, resolve, invoke, builtin, Sem.run_bind, Sem.run_pure, Result.andThen_ok, List.map_toArray, List.map_cons, List.map_nil, hs, hx, hr]
  refine h v' w' ?_ (hb.grown hg hbase fun k hk => (World.ownsRow.lt hown k hk).1) hg hbl
  unfold OwT
  rw [List.length_append, texts_append]
  exact h1

theorem assert_id (x : Bs) (w : World) : (Instr.typeAssert (.iface tId (kS x)) 20 tId false).run Try.prog w = .ok (kS x) w := by kernel_rfl
theorem set_heap {w : World} {q : Nat} {t : TypeId} {v u : Value} (h : w.heap[q]? = some (.cells #[v] t (0, 0))) : (w.setCell ⟨q, 0, none⟩ u).heap[q]? = some (.cells #[u] t (0, 0)) := by
  rw [Go.Sort.setCell_eq]
  show (w.heap.modify q _)[q]? = _
  rw [Array.getElem?_modify, if_pos rfl, h]
  rfl
theorem OwT.off {w : World} {B q i : Nat} {v u : Value} {l : List Bs} (h : OwT w B tId v l) (hq : ∀ g, v.ownBlock = some g → g ≠ q) : OwT (w.setCell ⟨q, i, none⟩ u) B tId v l := by
  refine ⟨h.1, ?_⟩
  rcases h.2 with k | ⟨g, cap, cur, hv, k1, k2, k3⟩
  · exact .inl k
  · exact .inr ⟨g, cap, cur, hv, k1, (Below.heap_setCell w ⟨q, i, none⟩ u g (hq g (by rw [hv]; rfl))).trans k2, k3⟩
set_option maxRecDepth 100000 in
set_option maxHeartbeats 2000000 in
theorem rlen_any (A : Option Addr) (n c : Nat) (w : World) : Calls Try.prog 95 #[.slice A n c] w fun y w' => y = .returned (.int .i64 n) ∧ w' = w := by
  go_enter Try.func95, Try.ntmps95
  go_wp2
  go_ret
  exact ⟨rfl, rfl⟩
theorem wpList_pushT {T : TypeId} (hT : Try.prog.underlying T = some (.slice tId)) {ops : Array Oper} {rest : List Oper} {o : Oper} {a : Act} {Q : Exit → Act → World → Prop} {W : World} (hgd : o.guard = none) (s x : Operand)
    (ho : o.op = .call { callee := .builtin .append, args := #[s, x], argTypes := #[T, T] })
    (B : Nat) (w0 : World) (v : Value) (l : List Bs) (y : List UInt8) (cs : Array Value) (hs : a.eval s = v) (hx : a.eval x = .slice (some ⟨W.heap.size, 0, none⟩) 1 1) (hc : cs = #[.string ⟨y.toArray⟩])
    (hown : OwT W B tId v l) (hlen : l.length + 1 ≤ 1000000000) (hb : Below B w0 W) (hbase : B ≤ W.heap.size)
    (h : ∀ v' w', OwT w' B tId v' (l ++ [y]) → Below B w0 w' → W.grownBy w' v.ownBlock → (v'.ownBlock = v.ownBlock ∨ v'.ownBlock = some (W.heap.size + 1)) → wpList Try.prog ops Q rest (a.put o.dst v') w') : wpList Try.prog ops Q (o :: rest) a (W.alloc (.cells cs tId)) :=
  wpList_plain hgd fun _ hK => wp_pushT hT s x ho B w0 v l y cs hs hx hc hown hlen hb hbase fun v' w' h1 h2 h3 h4 => hK _ _ (h v' w' h1 h2 h3 h4)
/-- what ready.Push leaves -/
def PushPost (w : World) (S : Nat → Prop) (q : Nat) (l : List Bs) (y : Ending) (w' : World) : Prop :=
  y = .returned (.tuple #[]) ∧ ∃ S' : Nat → Prop, HpIn w' S' q l ∧ Oth S w w' ∧ ∀ k, S' k → S k ∨ w.heap.size ≤ k
set_option maxRecDepth 100000 in
set_option maxHeartbeats 2000000 in
theorem rpush_any {w : World} {S : Nat → Prop} {q : Nat} {l : List Bs} (h : HpIn w S q l) (x : Bs) (hl : l.length ≤ 1000) :
    Calls Try.prog 99 #[pt q, .iface tId (kS x)] w (PushPost w S q (l ++ [x])) := by
  have hta := assert_id x
  obtain ⟨A, c, hcell, hfr, hown, hrow, hS, _⟩ := h.cell
  have hql := h.lt q h.own
  have c0 : w.drew.cell? ⟨q, 0, none⟩ = some (.slice A l.length c) := hcell
  have H := hide h
  have HO := hide hown
  have HS := hide hS
  have HR := hide hrow
  have HQ := hide hql
  obtain ⟨n, hn⟩ : ∃ n, n = l.length := ⟨_, rfl⟩
  rw [← hn] at c0 HO HR HS
  have HN := hide hn
  have HLe := hide hl
  clear h hcell hfr hown hrow hS hn hl hql
  go_enter Try.func99, Try.ntmps99
  go_wp2
  refine Rg.wp_region_ord (fun w' => w'.cell? ⟨q, 0, none⟩ = some (.slice A n c)) [(0, true), (1, true), (2, true), (3, true), (4, true), (5, true), (6, false), (7, false), (8, true), (9, false)] (by kernel_rfl) (by kernel_rfl) ?_
  simp only [Rg.pick, List.map_cons, List.map_nil, List.getD_cons_zero, List.getD_cons_succ]
  iterate 6 (refine Rg.ord_quiet (v := ?_) rfl (fun w' hS => ?_) c0 ?_; rotate_left; (go_simp; with_reducible rfl); simp only [Act.put, List.setIfInBounds_toArray, List.set_cons_succ, List.set_cons_zero])
  refine Rg.ord_loud rfl (fun K hK => ?_)
  go_simp
  have hr1 : (w.drew.alloc (.cells #[kS x] tId)).heap[q]? = some (.cells #[.slice A n c] tRdy (0, 0)) := (Below.heap_alloc w.drew (.cells #[kS x] tId) q HQ.out).trans HR.out
  have g0 : (w.drew.alloc (.cells #[kS x] tId)).cell? ⟨q, 0, none⟩ = some (.slice A n c) := by simp [World.cell?, hr1]
  refine hK _ _ (fun _ => g0) ?_
  clear hK K
  refine Rg.ord_loud rfl (fun K hK => ?_)
  refine wp_pushT (W := w.drew) Try.underlying74 (.tmp 7) (.tmp 10) rfl 0 w.drew (.slice A n c) l x _ rfl rfl rfl (show OwT w.drew 0 tId (.slice A n c) l from HO.out) (by have := HLe.out; omega) (Below.refl 0 w.drew) (Nat.zero_le _) ?_
  intro v' w5 hown5 _ hg5 hor5
  have hr5 : w5.heap[q]? = some (.cells #[.slice A n c] tRdy (0, 0)) := (hg5.block q HQ.out (fun e => (HS.out q e.symm).2 rfl)).trans HR.out
  have e0 : w5.cell? ⟨q, 0, none⟩ = some (.slice A n c) := by simp [World.cell?, hr5]
  have f0 : w5.frozen? ⟨q, 0, none⟩ = false := by simp [World.frozen?, hr5]
  have hvq : ∀ g, v'.ownBlock = some g → g ≠ q := fun g hg => by
    rcases hor5 with k | k
    · exact (HS.out g (by rw [← k]; exact hg)).2
    · rw [k] at hg
      injection hg with hg
      have h1 : w.drew.heap.size = w.heap.size := rfl
      have := HQ.out
      omega
  have HF := hide (show PushPost w S q (l ++ [x]) (.returned (.tuple #[])) (w5.setCell ⟨q, 0, none⟩ v') from by
    have hgd : w.grownBy w5 (Value.ownBlock (.slice A n c)) := ⟨hg5.os, hg5.tape, hg5.output, hg5.size, hg5.block⟩
    refine ⟨rfl, fun k => S k ∨ v'.ownBlock = some k, ⟨⟨v', set_heap hr5, OwT.off hown5 hvq, fun g hg => .inr hg⟩, .inl H.out.own, fun k hk => ?_⟩, ?_, fun k hk => ?_⟩
    · have e : (w5.setCell ⟨q, 0, none⟩ v').heap.size = w5.heap.size := by simp [World.setCell]
      rw [e]
      rcases hk with hk | hk
      · exact Nat.lt_of_lt_of_le (H.out.lt k hk) hgd.size
      · exact (World.ownsRow.lt hown5 k hk).2
    · exact (Oth.of_grown (S := S) hgd fun g e => (HS.out g e).1).put (.inl H.out.own) v'
    · rcases hk with hk | hk
      · exact .inl hk
      · rcases hor5 with z | z
        · exact .inl (HS.out k (by rw [← z]; exact hk)).1
        · rw [z] at hk
          injection hk with hk
          have h1 : w.drew.heap.size = w.heap.size := rfl
          exact .inr (by omega))
  obtain ⟨A5, c5, hv5, _⟩ := hown5.vs
  clear hown5 hg5 hor5 hr5 hvq c0 g0 hr1
  subst hv5
  generalize (l ++ [x]).length = n5 at HF ⊢
  refine hK _ _ (fun _ => e0) ?_
  clear hK K
  iterate 1 (refine Rg.ord_quiet (v := ?_) rfl (fun w' hS => ?_) e0 ?_; rotate_left; (go_simp; with_reducible rfl); simp only [Act.put, List.setIfInBounds_toArray, List.set_cons_succ, List.set_cons_zero])
  refine Rg.ord_loud rfl (fun K hK => ?_)
  go_simp
  refine hK _ _ (fun hf => absurd (show Rg.sink _ 9 = true from by kernel_rfl) (by rw [hf]; decide)) ?_
  clear hK K
  refine Rg.ord_nil ?_
  go_wp2
  refine bodyPost_end (results_none rfl _ _ _) rfl ?_
  exact HF.out
set_option maxRecDepth 100000 in
set_option maxHeartbeats 2000000 in
theorem rpop_any {w : World} {S : Nat → Prop} {q : Nat} {l : List Bs} {m : Nat} (h : HpIn w S q l) (hm : l.length = m + 1) (hl : l.length ≤ 1000) :
    Calls Try.prog 98 #[pt q] w fun y w' => y = .returned (.iface tId (kS (l.getD m []))) ∧ HpIn w' S q (l.take m) ∧ Oth S w w' := by
  obtain ⟨A, c, hcell, hfr, hown, hrow, hS, hne⟩ := h.cell
  obtain ⟨g, rfl⟩ := hne (fun e => by rw [e] at hm; simp at hm)
  have hlast := (rdy_cell hown (k := m) (by omega)).1
  have HF := hide (show HpIn (w.setCell ⟨q, 0, none⟩ (.slice (some ⟨g, 0, none⟩) m c)) S q (l.take m) ∧ Oth S w (w.setCell ⟨q, 0, none⟩ (.slice (some ⟨g, 0, none⟩) m c)) from by
    have hc := OwT.cut hown (m := m) (by omega)
    have e : (l.take m).length = m := by rw [List.length_take]; omega
    rw [e] at hc
    refine ⟨⟨⟨_, set_heap hrow, OwT.off hc fun g' hg' => (hS g' hg').2, fun g' hg' => (hS g' hg').1⟩, h.own, fun k hk => ?_⟩, (Oth.refl S w).put (.inl h.own) _⟩
    have e2 : (w.setCell ⟨q, 0, none⟩ (.slice (some ⟨g, 0, none⟩) m c)).heap.size = w.heap.size := by simp [World.setCell]
    rw [e2]
    exact h.lt k hk)
  obtain ⟨c2, hc2⟩ : ∃ c2 : Nat, c2 = c := ⟨_, rfl⟩
  have hmc : m ≤ c := by
    obtain ⟨_, _, k3, _⟩ := row_holds hown
    omega
  obtain ⟨x, hx⟩ : ∃ x, x = l.getD m [] := ⟨_, rfl⟩
  obtain ⟨l2, hl2⟩ : ∃ l2, l2 = l.take m := ⟨_, rfl⟩
  rw [← hx] at hlast ⊢
  rw [← hl2] at HF ⊢
  have e1 : ((m + 1 : Nat) : Int) - 1 = ((m : Nat) : Int) := by omega
  rw [hm] at hcell hl
  clear h hown hrow hS hne hx hl2 hm hc2
  go_enter Try.func98, Try.ntmps98
  go_wp2
  go_ret
  exact ⟨rfl, HF.out⟩
theorem Oth.two {S S' : Nat → Prop} {a b c : World} (h : Oth S a b) (k : Oth S' b c) (hS : ∀ i, S' i → S i ∨ a.heap.size ≤ i) : Oth S a c :=
  Oth.trans h k fun i hi hs => (hS i hs).resolve_right (by omega)
/-- what heap.Push leaves -/
def HeapPost (w : World) (S : Nat → Prop) (q : Nat) (l : List Bs) (y : Ending) (w' : World) : Prop :=
  y = .returned (.tuple #[]) ∧ ∃ (S' : Nat → Prop) (l' : List Bs), HpIn w' S' q l' ∧ l'.Perm l ∧ Hp l' l'.length ∧ Oth S w w' ∧ ∀ k, S' k → S k ∨ w.heap.size ≤ k
set_option maxRecDepth 100000 in
set_option maxHeartbeats 2000000 in
theorem hpush_any {w : World} {S : Nat → Prop} {q : Nat} {l : List Bs} (h : HpIn w S q l) (hh : Hp l l.length) (x : Bs) (hl : l.length ≤ 900) :
    Calls Try.prog 48 #[.iface 76 (pt q), .iface tId (kS x)] w (HeapPost w S q (l ++ [x])) := by
  have HPu := hide (rpush_any h x (by omega))
  have HH := hide hh
  obtain ⟨n, hn⟩ : ∃ n, n = l.length := ⟨_, rfl⟩
  have HN := hide hn
  rw [← hn] at hl
  have mP := fun w => meth_ptr mrow_push w q 229
  have eP := enPush
  have eL := enLen
  have e1 : ((n + 1 : Nat) : Int) - 1 = ((n : Nat) : Int) := by omega
  clear h hh hn
  go_enter Try.func48, Try.ntmps48
  go_wp2_with (go_at_fn 99; refine HPu.out.mono ?_; clear mP eP; rintro y w1 ⟨rfl, S1, h1, h2, h3⟩; obtain ⟨A1, c1, hc1, _⟩ := h1.cell; (have hlen1 : (l ++ [x]).length = n + 1 := by rw [List.length_append, HN.out]; rfl); rw [hlen1] at hc1; have mL := meth_val mrow_len hc1 229; have H1 := hide h1; have H2 := hide h2; have H3 := hide h3; clear h1 h2 h3 hlen1)
  have hlen1 : (l ++ [x]).length = n + 1 := by rw [List.length_append, HN.out]; rfl
  have HU := hide (up_any H1.out (j0 := n) (by rw [HN.out]; exact UpAt.start HH.out x) (by rw [hlen1]; omega) (by rw [hlen1]; omega))
  clear hlen1
  refine (rlen_any A1 (n + 1) c1 w1).mono ?_
  rintro y w2 ⟨rfl, rfl⟩
  go_wp2_with fail
  refine HU.out.mono ?_
  rintro y w3 ⟨rfl, l3, k1, k2, k3, k4⟩
  have HF := hide (show HeapPost w S q (l ++ [x]) (.returned (.tuple #[])) w3 from ⟨rfl, S1, l3, k1, k2, k3, Oth.two H2.out k4 H3.out, H3.out⟩)
  clear k1 k2 k3 k4
  go_wp2
  refine bodyPost_end (results_none rfl _ _ _) rfl ?_
  exact HF.out
/-- what heap.Pop leaves -/
def PopPost (w : World) (S : Nat → Prop) (q : Nat) (l : List Bs) (y : Ending) (w' : World) : Prop :=
  ∃ (x : Bs) (l' : List Bs), y = .returned (.iface tId (kS x)) ∧ HpIn w' S q l' ∧ Hp l' l'.length ∧ l.Perm (x :: l') ∧ (∀ y ∈ l', lt y x = false) ∧ Oth S w w'
set_option maxRecDepth 100000 in
set_option maxHeartbeats 2000000 in
theorem hpop_any {w : World} {S : Nat → Prop} {q : Nat} {l : List Bs} {n : Nat} (h : HpIn w S q l) (hh : Hp l l.length) (hn : l.length = n + 1) (hl : l.length ≤ 900) :
    Calls Try.prog 49 #[.iface 76 (pt q)] w (PopPost w S q l) := by
  obtain ⟨A, c, hcell, _, hown, hrow, hS, hne⟩ := h.cell
  obtain ⟨g, rfl⟩ := hne (fun e => by rw [e] at hn; simp at hn)
  rw [hn] at hcell
  have mL := meth_val mrow_len hcell 229
  have eL := enLen
  have mS := meth_val mrow_swap hcell 229
  have eS := enSwap
  have eP := enPop
  have e1 : ((n + 1 : Nat) : Int) - 1 = ((n : Nat) : Int) := by omega
  have HLen := hide (rlen_any (some ⟨g, 0, none⟩) (n + 1) c w)
  have HSw := hide (hpswap_any hown 0 n (by omega) (by omega) (by omega))
  rw [hn] at HSw
  have HT := hide (show ∀ w1, OwT w1 0 tId (.slice (some ⟨g, 0, none⟩) (n + 1) c) (swp l 0 n) → w.grownBy w1 (some g) → HpIn w1 S q (swp l 0 n) ∧ Oth S w w1 from fun w1 ho hg =>
    ⟨h.turn (by rw [hn] at hrow; exact hrow) (hS g rfl) ho hg, Oth.of_grown (S := S) hg fun g' e => by injection e with e; rw [← e]; exact (hS g rfl).1⟩)
  have HD := hide (show DownAt (swp l 0 n) 0 n from DownAt.start (by rw [← hn]; exact hh) hn)
  have HLn := hide hn
  have HH := hide hh
  rw [hn] at hl
  clear h hown hrow hS hne hcell hn hh
  go_enter Try.func49, Try.ntmps49
  go_wp2_with (go_at_fn 95; refine HLen.out.mono ?_; clear mL eL; rintro y w1 ⟨rfl, rfl⟩)
  refine HSw.out.mono ?_
  rintro y w1 ⟨rfl, ho, hg⟩
  obtain ⟨h1, h2⟩ := HT.out w1 ho hg
  have hlen1 : (swp l 0 n).length = n + 1 := by rw [swp_len, HLn.out]
  have HDn := hide (down_any h1 HD.out (by rw [hlen1]; omega) (by rw [hlen1]; omega))
  have H2 := hide h2
  clear ho hg h1 h2 mS eS HSw HT hlen1
  go_wp2_with fail
  refine HDn.out.mono ?_
  rintro y w2 ⟨⟨bd, rfl⟩, l2, k1, k2, k3, k4, k5⟩
  have hlen2 : l2.length = n + 1 := by rw [k2.length_eq, swp_len, HLn.out]
  have HPo := hide (rpop_any k1 hlen2 (by omega))
  have hlast : l2.getD n [] = l.getD 0 [] := by
    rw [k4, swp_at (by rw [HLn.out]; omega) (by rw [HLn.out]; omega), if_pos rfl]
  have HPp := hide (heap_pop HLn.out (by rw [← HLn.out]; exact HH.out) hlen2 (k2.trans (swp_perm (by rw [HLn.out]; omega) (by rw [HLn.out]; omega))) hlast k3)
  have K5 := hide (Oth.trans H2.out k5 fun _ _ h => h)
  have mP := meth_ptr mrow_pop w2 q 229
  clear k1 k2 k3 k4 k5 hlen2 hlast HDn H2
  go_wp2_with fail
  refine HPo.out.mono ?_
  rintro y w3 ⟨rfl, h3, h4⟩
  have HF := hide (show PopPost _ S q l (.returned (.iface tId (kS (l2.getD n [])))) w3 from ⟨_, _, rfl, h3, HPp.out.1, HPp.out.2.1, HPp.out.2.2, Oth.trans K5.out h4 fun _ _ h => h⟩)
  clear h3 h4 HPo HPp
  generalize l2.getD n [] = xv at HF ⊢
  go_wp2
  go_ret
  exact HF.out
end Go.Proofs.Ytlfncnnfpniigaa.Dq
