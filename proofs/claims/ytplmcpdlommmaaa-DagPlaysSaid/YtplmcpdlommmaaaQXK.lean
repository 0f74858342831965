/-
  One comes in: what enter does to the graph in memory.
-/
import Derived.Test.YtplmcpdlommmaaaQDG
import Derived.Test.YtplmcpdlommmaaaQXH
namespace Go.Proofs.Ytplmcpdlommmaaa.Dq
open Go Go.RowKit Kt Kg Lw Tr

theorem Mp.congr {w : World} {b : Nat} {f f' : Bs → Option Value} (h : Mp w b f) (e : ∀ k, f k = f' k) : Mp w b f' := by
  have : f = f' := funext e
  rw [← this]; exact h
theorem oth_put {S : Nat → Prop} {A B : World} (h : Oth S A B) {g : Nat} (hg : S g) (o : Obj) : Oth S A (B.putObj g o) :=
  ⟨h.os, h.tape, h.output, by simpa [World.putObj] using h.size, fun k hk hn => (World.putObj_heap_other (fun e => hn (by rw [e]; exact hg))).trans (h.block k hk hn)⟩
theorem wrap_small (x : Nat) (h : x ≤ 1000) : IntKind.i64.wrap ((x : Int) + 1) = (x : Int) + 1 := by
  have h1 : -9223372036854775808 ≤ (x : Int) + 1 ∧ (x : Int) + 1 ≤ 9223372036854775807 := by omega
  exact IntWalk.i64_in _ h1
/-- the blocks that enter turns -/
def Pc.abc (p : Pc) (k : Nat) : Prop := k = p.a ∨ k = p.b ∨ k = p.c
def foldL (lev : Bs → Nat) (l : List Bs) : Nat := (l.map fun p => lev p + 1).foldl max 0
theorem foldL_take (lev : Bs → Nat) (l : List Bs) (k : Nat) (x : Bs) (h : l[k]? = some x) : foldL lev (l.take (k + 1)) = max (foldL lev (l.take k)) (lev x + 1) := by
  unfold foldL
  rw [List.take_add_one, h]
  simp
theorem foldL_le (lev : Bs → Nat) : ∀ (l : List Bs) (m a : Nat), a ≤ m → (∀ p ∈ l, lev p + 1 ≤ m) → (l.map fun p => lev p + 1).foldl max a ≤ m
  | [], _m, _a, h, _ => h
  | x :: r, m, a, h, hl => foldL_le lev r m (max a (lev x + 1)) (Nat.max_le.2 ⟨h, hl x List.mem_cons_self⟩) fun p hp => hl p (List.mem_cons_of_mem _ hp)
theorem get_none_iff {D : List Nd} {k : Bs} : get D k = none ↔ ∀ n ∈ D, n.id ≠ k := by
  refine ⟨get_none, fun h => ?_⟩
  cases hg : get D k with
  | none => rfl
  | some n => exact absurd (get_some hg).2 (h n (get_some hg).1)
theorem get_turn {D : List Nd} (hu : Up (D.map Nd.id)) {i : Nat} {n : Nd} (hi : D[i]? = some n) (k : Bs) : (get (turnOn D i) k).isSome = (get D k).isSome ∧ psL (turnOn D i) k = psL D k := by
  have hu' : Up ((turnOn D i).map Nd.id) := by rw [turnOn_ids]; exact hu
  cases hg : get D k with
  | none =>
    have h1 := get_none hg
    have h2 : get (turnOn D i) k = none := get_none_iff.2 fun m hm => by
      rcases (turnOn_mem hu hi).1 hm with ⟨q, _⟩ | q
      · exact h1 m q
      · subst q; exact h1 n (List.mem_of_getElem? hi)
    unfold psL
    rw [h2, hg]
    exact ⟨rfl, rfl⟩
  | some m =>
    obtain ⟨q1, rfl⟩ := get_some hg
    by_cases e : m.id = n.id
    · have hm : (⟨n.id, n.ps, true⟩ : Nd) ∈ turnOn D i := (turnOn_mem hu hi).2 (.inr rfl)
      have h3 := get_of hu' hm
      have hmn : m = n := up_once hu q1 (List.mem_of_getElem? hi) e
      subst hmn
      unfold psL
      rw [show get (turnOn D i) m.id = _ from h3, hg]
      exact ⟨rfl, rfl⟩
    · have hm : m ∈ turnOn D i := (turnOn_mem hu hi).2 (.inl ⟨q1, e⟩)
      unfold psL
      rw [get_of hu' hm, hg]
      exact ⟨rfl, rfl⟩
theorem set_heap2 {w : World} {q : Nat} {t : TypeId} {a v u : Value} (h : w.heap[q]? = some (.cells #[a, v] t (0, 0))) : (w.setCell ⟨q, 1, none⟩ u).heap[q]? = some (.cells #[a, u] t (0, 0)) := by
  rw [Go.Sort.setCell_eq]
  show (w.heap.modify q _)[q]? = _
  rw [Array.getElem?_modify, if_pos rfl, h]
  rfl
theorem enter_done {w w' : World} {p : Pc} {D : List Nd} {sl : Bs → Option Addr × Nat} {su lev : Bs → Nat} {bh : Bs → List Bs} {bv : Bs → Option Value} (h : Gm w p D sl su lev bh bv) (hI : Inv D)
    {i : Nat} {n : Nd} (hi : D[i]? = some n) (ho : n.on = false) (hr : ready D n.ps = true) (L : Nat) (hoth : Oth p.abc w w')
    (m1 : Mp w' p.a (upd (fun k => if has D k then some (ndV (sl k) (psL D k) (lev k)) else none) n.id (some (ndV (sl n.id) n.ps L))))
    (m2 : Mp w' p.b (upd (fun x => if x ∈ heads D ∧ x ∉ n.ps then some unV else none) n.id (some unV)))
    (m3 : Mp w' p.c (upd (fun k => if waits D k then some (ndV (sl k) (psL D k) (su k)) else none) n.id none)) : Gm w' p (turnOn D i) sl su (upd lev n.id L) bh bv := by
  have hn : n ∈ D := List.mem_of_getElem? hi
  have hu := hI.up
  have hg := fun k => get_turn hu hi k
  have hh := fun k => has_turn hu hi k
  have hhid : has (turnOn D i) n.id = true := (hh _).2 (.inr rfl)
  have hhn : ∀ k, k ≠ n.id → has (turnOn D i) k = has D k := fun k hk => by
    rw [Bool.eq_iff_iff, hh]; exact ⟨fun z => z.resolve_right hk, .inl⟩
  have hO := h.ok
  have keep : ∀ k, p.S k → ¬ p.abc k → w'.heap[k]? = w.heap[k]? := fun k hk hn => hoth.block k (h.lt k hk) hn
  refine ⟨hO, (keep _ (.inl (.inl rfl)) ?_).trans h.row, m1.congr fun k => ?_, m2.congr fun k => ?_, m3.congr fun k => ?_, h.mB.move (keep _ (.inl (.inr (.inr (.inr (.inr rfl))))) ?_), fun k hk => ?_, fun k => ?_, fun k hk => Nat.lt_of_lt_of_le (h.lt k hk) hoth.size⟩
  · rintro (e | e | e)
    · exact hO.ga e
    · exact hO.gb e
    · exact hO.gc e
  · by_cases e : k = n.id
    · subst e
      rw [upd_same, hhid, if_pos rfl, upd_same, (hg n.id).2, psL_of hu hn]
    · rw [upd_ne _ _ e, upd_ne _ _ e, hhn k e, (hg k).2]
  · by_cases e : k = n.id
    · subst e
      rw [upd_same, if_pos ((heads_turn hI hi ho hr _).2 (.inl rfl))]
    · rw [upd_ne _ _ e]
      have := heads_turn hI hi ho hr k
      by_cases hk : k ∈ heads D ∧ k ∉ n.ps
      · rw [if_pos hk, if_pos (this.2 (.inr hk))]
      · rw [if_neg hk, if_neg fun z => hk ((this.1 z).resolve_left e)]
  · unfold waits
    by_cases e : k = n.id
    · subst e
      rw [upd_same, hhid]
      simp
    · rw [upd_ne _ _ e, hhn k e, (hg k).1, (hg k).2]
  · rintro (e | e | e)
    · exact hO.ad e.symm
    · exact hO.bd e.symm
    · exact hO.cd e.symm
  · rw [(hg k).1] at hk
    rw [(hg k).2]
    refine (h.sls k hk).move fun b hb _ => keep b (.inr (.inl hb)) ?_
    rintro (e | e | e)
    · exact hO.sp b hb (.inr (.inl e))
    · exact hO.sp b hb (.inr (.inr (.inl e)))
    · exact hO.sp b hb (.inr (.inr (.inr (.inl e))))
  · refine (h.rows k).imp id fun ⟨v, h1, h2, h3⟩ => ⟨v, h1, OwT.moved h2 fun g hg' => keep g (.inr (.inr ⟨k, h3 g hg'⟩)) ?_, h3⟩
    rintro (e | e | e)
    · exact (hO.sb k g (h3 g hg')).1 (.inr (.inl e))
    · exact (hO.sb k g (h3 g hg')).1 (.inr (.inr (.inl e)))
    · exact (hO.sb k g (h3 g hg')).1 (.inr (.inr (.inr (.inl e))))
/-- what holds of enter's loop behind k parents -/
structure EnL (w : World) (p : Pc) (D : List Nd) (lev : Bs → Nat) (ps : List Bs) (A : Option Addr) (N c q k : Nat) (wr : World) : Prop where
  oth : Oth (fun z => z = p.b) w wr
  node : wr.heap[q]? = some (.cells #[.slice A N c, .int .i64 (foldL lev (ps.take k) : Nat)] 68 (0, 0))
  mH : Mp wr p.b fun x => if x ∈ heads D ∧ x ∉ ps.take k then some unV else none
set_option maxRecDepth 100000 in
set_option maxHeartbeats 2000000 in
theorem enter_any {w : World} {p : Pc} {D : List Nd} {sl : Bs → Option Addr × Nat} {su lev : Bs → Nat} {bh : Bs → List Bs} {bv : Bs → Option Value} (h : Gm w p D sl su lev bh bv) (hI : Inv D) (hL : Lv D lev) (hfew : D.length ≤ 40)
    {i : Nat} {n : Nd} (hi : D[i]? = some n) (ho : n.on = false) (hr : ready D n.ps = true) (hps : n.ps.length ≤ 10) :
    Calls Try.prog 69 #[pt p.g, kS n.id] w fun y w' => y = .returned (.tuple #[]) ∧ Hid (Gm w' p (turnOn D i) sl su (upd lev n.id (foldL lev n.ps)) bh bv ∧ Oth p.abc w w') := by
  have hn : n ∈ D := List.mem_of_getElem? hi
  have hok := h.ok
  obtain ⟨c0, c1, c2, c3⟩ := h.cells
  obtain ⟨A, m, c, x, hlk, q1, _⟩ := h.lookW n.id false
  simp only [Bool.false_eq_true, if_false] at hlk
  obtain ⟨rfl, rfl, rfl, rfl⟩ := q1 (by rw [waits_of hI.up hn, ho]; rfl)
  have hpl : psL D n.id = n.ps := psL_of hI.up hn
  have hvs := h.sls n.id (known_if.2 (.inr (by rw [waits_of hI.up hn, ho]; rfl)))
  rw [hpl] at hlk hvs
  have hf := fun y w => fldW0 (sl n.id).1 n.ps.length (sl n.id).2 y w
  have hlv : ∀ q ∈ n.ps, has D q = true ∧ lev q + 1 ≤ 1000 := fun q hq => by
    have hq2 := ready_iff.1 hr q hq
    refine ⟨hq2, ?_⟩
    have := lv_few hI hq2
    rw [hL.eq hI hq2] at this
    omega
  have H := hide h
  have HVs := hide hvs
  have HLv := hide hlv
  have HOk := hide hok
  obtain ⟨N, hN⟩ : ∃ N, N = n.ps.length := ⟨_, rfl⟩
  rw [← hN] at hlk hf hps
  obtain ⟨A, hA⟩ : ∃ A, A = (sl n.id).1 := ⟨_, rfl⟩
  obtain ⟨c, hc⟩ : ∃ c, c = (sl n.id).2 := ⟨_, rfl⟩
  rw [← hA, ← hc] at hlk hf HVs
  obtain ⟨id, hid⟩ : ∃ id, id = n.id := ⟨_, rfl⟩
  rw [← hid] at hlk ⊢
  have HN := hide hN
  have HA := hide hA
  have HC := hide hc
  have HId := hide hid
  clear h q1 hpl hvs hlv hok hN hA hc hid
  go_enter Try.func69, Try.ntmps69
  go_wp2_with fail
  obtain ⟨q, hq⟩ : ∃ q, q = w.heap.size := ⟨_, rfl⟩
  obtain ⟨w1, hw1⟩ : ∃ z, z = w.alloc (.cells #[.slice A N c, .int .i64 0] 68) := ⟨_, rfl⟩
  rw [← hw1, ← hq]
  have hE0 : EnL w p D lev n.ps A N c q 0 w1 := by
    refine ⟨by rw [hw1]; exact (Oth.refl _ w).alloc _, by rw [hw1, hq]; exact World.alloc_heap_new w _, ?_⟩
    rw [hw1]
    refine Mp.congr (H.out.mH.move (Below.heap_alloc w _ p.b (H.out.lt _ (.inl (.inr (.inr (.inl rfl))))))) fun k => by simp
  have HE0 := hide hE0
  have HQ := hide hq
  clear hE0 hw1 hq hlk hf c0 c1 c2 c3
  go_loopw [18] (fun vk wr => ∃ k : Nat, vk = .int .i64 k ∧ k ≤ N ∧ Hid (EnL w p D lev n.ps A N c q k wr)) (fun vk _ => N - (intOf vk).toNat)
  case atStart => exact ⟨0, rfl, Nat.zero_le _, HE0⟩
  case round =>
    obtain ⟨k, rfl, hk, HE⟩ := hrel
    have hgb : p.g ≠ p.b := HOk.out.gb
    have hrow : wr.heap[p.g]? = some (.cells #[.map (some p.a), .map (some p.b), .map (some p.c), .map (some p.d)] tDag (0, 0)) := (HE.out.oth.block p.g (H.out.lt _ (.inl (.inl rfl))) hgb).trans H.out.row
    have c0 : wr.drew.cell? ⟨p.g, 0, none⟩ = some (.map (some p.a)) := by show wr.cell? _ = _; simp [World.cell?, hrow]
    by_cases hlt : k < N
    · obtain ⟨ab, ao, rfl, ck⟩ := vs_text (w' := w) (vs_low HVs.out) (Below.refl _ _) (k := k) (by have := HN.out; omega)
      have hab : ab < w.heap.size := World.block_lt_of_cell? w ⟨ab, ao + k, none⟩ ck
      obtain ⟨x, hx⟩ : ∃ x, x = n.ps.getD k [] := ⟨_, rfl⟩
      have hxm : n.ps[k]? = some x := by rw [hx, List.getD_eq_getElem?_getD, List.getElem?_eq_getElem (by have := HN.out; omega)]; rfl
      obtain ⟨hxin, hxlev⟩ := HLv.out x (List.mem_of_getElem? hxm)
      have hsp : ab ≠ p.b := by
        obtain ⟨b', o', e1, e2, _⟩ := HVs.out.2 (by rw [texts_len]; have := HN.out; omega)
        injection e1 with e1
        injection e1 with e1 _ _
        rw [e1]
        exact fun e => HOk.out.sp _ e2 (.inr (.inr (.inl e)))
      rw [← hx] at ck
      have ck' : wr.cell? ⟨ab, ao + k, none⟩ = some (kS x) := (World.cell?_of_block (a := ⟨ab, ao + k, none⟩) (HE.out.oth.block ab hab hsp)).trans ck
      have hma : Mp wr.drew p.a fun k => if has D k then some (ndV (sl k) (psL D k) (lev k)) else none := H.out.mN.move (HE.out.oth.block p.a (H.out.lt _ (.inl (.inr (.inl rfl)))) HOk.out.ab)
      have hlk := hma.look_some (P := Try.prog) (T := tMN) Try.underlying57 Try.underlying23 (k := x) (v := ndV (sl x) (psL D x) (lev x)) (by simp [hxin]) false
      simp only [Bool.false_eq_true, if_false, ndV] at hlk
      have hf := fun w => fldN1 (sl x).1 (psL D x).length (sl x).2 ((lev x : Nat) : Int) w
      generalize (psL D x).length = nx at hlk hf
      generalize (sl x).1 = Ax at hlk hf
      generalize (sl x).2 = cx at hlk hf
      obtain ⟨lx, hlx⟩ : ∃ lx, lx = lev x := ⟨_, rfl⟩
      obtain ⟨m, hm⟩ : ∃ m, m = foldL lev (n.ps.take k) := ⟨_, rfl⟩
      rw [← hlx] at hlk hf hxlev
      have hnode := HE.out.node
      rw [← hm] at hnode
      have cq : wr.drew.cell? ⟨q, 1, none⟩ = some (.int .i64 (m : Nat)) := by show wr.cell? _ = _; simp [World.cell?, hnode]
      have fq : wr.drew.frozen? ⟨q, 1, none⟩ = false := by show wr.frozen? _ = _; simp [World.frozen?, hnode]
      have hml : m ≤ 1000 := by
        rw [hm]
        exact foldL_le lev _ _ _ (Nat.zero_le _) fun y hy => (HLv.out y (List.mem_of_mem_take hy)).2
      obtain ⟨m2, hm2⟩ : ∃ m2, m2 = foldL lev (n.ps.take (k + 1)) := ⟨_, rfl⟩
      have hmm : m2 = max m (lx + 1) := by rw [hm2, hm, hlx]; exact foldL_take lev n.ps k x hxm
      have HM2 := hide hm2
      have HMx := hide (show max ((m : Nat) : Int) (IntKind.i64.wrap ((lx : Int) + 1)) = ((m2 : Nat) : Int) from by rw [wrap_small lx (by omega)]; omega)
      have HX := hide hxm
      have HM := hide hm
      clear hm2 hmm
      have HLx := hide hlx
      have HRow := hide hrow
      have HNode := hide hnode
      clear hx hxm hxin hsp ck hma hm hlx hrow hnode hab hgb
      go_wp2
      refine Rg.wp_region_ord (fun w' => w'.cell? ⟨q, 1, none⟩ = some (.int .i64 (m : Nat)) ∧ w'.cell? ⟨p.g, 0, none⟩ = some (.map (some p.a)) ∧ (Instr.lookup tMN (.map (some p.a)) (kS x) false).run Try.prog w' = .ok (.agg #[.slice Ax nx cx, .int .i64 (lx : Nat)]) w') [(0, true), (1, true), (2, true), (3, true), (4, true), (5, true), (6, true), (7, true), (8, true), (9, true), (10, true), (11, true), (12, false)] (by kernel_rfl) (by kernel_rfl) ?_
      simp only [Rg.pick, List.map_cons, List.map_nil, List.getD_cons_zero, List.getD_cons_succ]
      iterate 8 (refine Rg.ord_quiet (v := ?_) rfl (fun w' hS => ?_) ⟨cq, c0, hlk⟩ ?_; rotate_left; (obtain ⟨s2, s1, s0⟩ := hS; go_simp; with_reducible rfl); simp only [Act.put, List.setIfInBounds_toArray, List.set_cons_succ, List.set_cons_zero])
      iterate 4 (refine Rg.ord_quiet (v := ?_) rfl (fun w' hS => ?_) ⟨cq, c0, hlk⟩ ?_; rotate_left; (obtain ⟨s2, s1, s0⟩ := hS; go_simp; with_reducible rfl); simp only [Act.put, List.setIfInBounds_toArray, List.set_cons_succ, List.set_cons_zero])
      refine Rg.ord_loud rfl (fun K hK => ?_)
      go_simp
      rw [HMx.out]
      refine hK _ (wr.drew.setCell ⟨q, 1, none⟩ (.int .i64 (m2 : Nat))) (fun hf => absurd (show Rg.sink _ 12 = true from by kernel_rfl) (by rw [hf]; decide)) ?_
      clear hK K cq c0 hlk hf fq hml hxlev
      refine Rg.ord_nil ?_
      have hqb : p.b ≠ q := by have := H.out.lt p.b (.inl (.inr (.inr (.inl rfl)))); have := HQ.out; omega
      have hgq : p.g ≠ q := by have := H.out.lt p.g (.inl (.inl rfl)); have := HQ.out; omega
      obtain ⟨w2, hw2⟩ : ∃ z, z = wr.drew.setCell ⟨q, 1, none⟩ (.int .i64 (m2 : Nat)) := ⟨_, rfl⟩
      rw [← hw2]
      have hmH2 : Mp w2 p.b fun x => if x ∈ heads D ∧ x ∉ n.ps.take k then some unV else none := by
        rw [hw2]; exact HE.out.mH.move (Below.heap_setCell wr.drew ⟨q, 1, none⟩ _ p.b hqb)
      have hnode2 : w2.heap[q]? = some (.cells #[.slice (some ⟨ab, ao, none⟩) N c, .int .i64 (m2 : Nat)] 68 (0, 0)) := by
        rw [hw2]; exact set_heap2 (w := wr.drew) HNode.out
      have hrow2 : w2.heap[p.g]? = some (.cells #[.map (some p.a), .map (some p.b), .map (some p.c), .map (some p.d)] tDag (0, 0)) := by
        rw [hw2]; exact (Below.heap_setCell wr.drew ⟨q, 1, none⟩ _ p.g hgq).trans HRow.out
      have hoth2 : Oth (fun z => z = p.b) w w2 := by
        rw [hw2]; exact HE.out.oth.drew.put (.inr (by have := HQ.out; omega)) _
      have c1 : w2.cell? ⟨p.g, 1, none⟩ = some (.map (some p.b)) := by simp [World.cell?, hrow2]
      obtain ⟨o, hdel, hmH3⟩ := hmH2.delete (P := Try.prog) (T := tMH) Try.underlying58 Try.underlying23 x
      have HF := hide (show EnL w p D lev n.ps (some ⟨ab, ao, none⟩) N c q (k + 1) (w2.putObj p.b o) from by
        refine ⟨oth_put hoth2 rfl o, ?_, hmH3.congr fun y => ?_⟩
        · rw [← HM2.out]
          exact (World.putObj_heap_other (fun e => hqb e.symm)).trans hnode2
        · by_cases e : y = x
          · subst e
            rw [upd_same, if_neg]
            rintro ⟨_, h2⟩
            exact h2 (by rw [List.take_add_one, HX.out]; simp)
          · rw [upd_ne _ _ e]
            have : y ∉ n.ps.take (k + 1) ↔ y ∉ n.ps.take k := by rw [List.take_add_one, HX.out]; simp [e]
            simp only [this])
      clear hmH2 hnode2 hrow2 hoth2 hmH3 hw2
      go_wp2
      exact ⟨⟨k + 1, by go_num, by omega, HF⟩, by simp [intOf]; omega⟩
    · obtain rfl : k = N := by omega
      have hgq : p.g ≠ q := by have := H.out.lt p.g (.inl (.inl rfl)); have := HQ.out; omega
      have hO := HOk.out
      have c2 : wr.cell? ⟨p.g, 2, none⟩ = some (.map (some p.c)) := by simp [World.cell?, hrow]
      have hmW : Mp wr p.c fun k => if waits D k then some (ndV (sl k) (psL D k) (su k)) else none := H.out.mW.move (HE.out.oth.block p.c (H.out.lt _ (.inl (.inr (.inr (.inr (.inl rfl)))))) hO.bc.symm)
      obtain ⟨o1, hdel, hmW2⟩ := hmW.delete (P := Try.prog) (T := tMW) Try.underlying59 Try.underlying23 id
      obtain ⟨w2, hw2⟩ : ∃ z, z = wr.putObj p.c o1 := ⟨_, rfl⟩
      rw [← hw2] at hdel hmW2
      have hqc : q ≠ p.c := by have := H.out.lt p.c (.inl (.inr (.inr (.inr (.inl rfl))))); have := HQ.out; omega
      have hqa : q ≠ p.a := by have := H.out.lt p.a (.inl (.inr (.inl rfl))); have := HQ.out; omega
      have other2 : ∀ z, z ≠ p.c → w2.heap[z]? = wr.heap[z]? := fun z hz => by rw [hw2]; exact World.putObj_heap_other hz
      have hnode2 := (other2 q hqc).trans HE.out.node
      have hrow2 := (other2 p.g hO.gc).trans hrow
      have hmN2 : Mp w2.drew p.a fun k => if has D k then some (ndV (sl k) (psL D k) (lev k)) else none := H.out.mN.move ((other2 p.a hO.ac).trans (HE.out.oth.block p.a (H.out.lt _ (.inl (.inr (.inl rfl)))) hO.ab))
      obtain ⟨m, hm⟩ : ∃ m, m = foldL lev n.ps := ⟨_, rfl⟩
      have htk : n.ps.take k = n.ps := List.take_of_length_le (by rw [← HN.out]; exact Nat.le_refl _)
      rw [htk, ← hm] at hnode2
      have hmH2 : Mp w2 p.b fun x => if x ∈ heads D ∧ x ∉ n.ps then some unV else none := by
        have := HE.out.mH.move (other2 p.b hO.bc)
        rwa [htk] at this
      obtain ⟨o2, hupN, hmN3⟩ := hmN2.update (P := Try.prog) (T := tMN) Try.underlying57 Try.underlying23 id (.agg #[.slice A k c, .int .i64 (m : Nat)])
      obtain ⟨w3, hw3⟩ : ∃ z, z = w2.drew.putObj p.a o2 := ⟨_, rfl⟩
      rw [← hw3] at hupN hmN3
      have other3 : ∀ z, z ≠ p.a → w3.heap[z]? = w2.heap[z]? := fun z hz => by rw [hw3]; exact World.putObj_heap_other (w := w2.drew) hz
      have hrow3 := (other3 p.g hO.ga).trans hrow2
      have hmH3 := hmH2.move (other3 p.b hO.ab.symm)
      obtain ⟨o3, hupH, hmH4⟩ := hmH3.update (P := Try.prog) (T := tMH) Try.underlying58 Try.underlying23 id unV
      obtain ⟨w4, hw4⟩ : ∃ z, z = w3.putObj p.b o3 := ⟨_, rfl⟩
      rw [← hw4] at hupH hmH4
      have other4 : ∀ z, z ≠ p.b → w4.heap[z]? = w3.heap[z]? := fun z hz => by rw [hw4]; exact World.putObj_heap_other hz
      have d0 : w2.drew.cell? ⟨p.g, 0, none⟩ = some (.map (some p.a)) := by show w2.cell? _ = _; simp [World.cell?, hrow2]
      have d1 : w2.drew.cell? ⟨q, 0, none⟩ = some (.slice A k c) := by show w2.cell? _ = _; simp [World.cell?, hnode2]
      have d2 : w2.drew.cell? ⟨q, 1, none⟩ = some (.int .i64 (m : Nat)) := by show w2.cell? _ = _; simp [World.cell?, hnode2]
      have e1 : w3.cell? ⟨p.g, 1, none⟩ = some (.map (some p.b)) := by simp [World.cell?, hrow3]
      have HF := hide (show Gm w4 p (turnOn D i) sl su (upd lev id m) bh bv ∧ Oth p.abc w w4 from by
        have hoth : Oth p.abc w w4 := by
          have q1 : Oth p.abc w wr := HE.out.oth.mono fun z _ e => .inr (.inl e)
          have q2 : Oth p.abc w w2 := by rw [hw2]; exact oth_put q1 (.inr (.inr rfl)) o1
          have q3 : Oth p.abc w w3 := by rw [hw3]; exact oth_put q2.drew (.inl rfl) o2
          rw [hw4]; exact oth_put q3 (.inr (.inl rfl)) o3
        refine ⟨?_, hoth⟩
        rw [HId.out] at hmN3 hmH4 hmW2 ⊢
        refine enter_done H.out hI hi ho hr m hoth (Mp.congr (hmN3.move (other4 p.a hO.ab)) fun z => ?_) hmH4 (hmW2.move ((other4 p.c hO.bc.symm).trans (other3 p.c hO.ac.symm)))
        rw [show ndV (sl n.id) n.ps m = .agg #[.slice A k c, .int .i64 (m : Nat)] from by unfold ndV; rw [← HA.out, ← HC.out, ← HN.out]])
      have HUp := hide hupN
      have HW2 := hide hw2
      have HUh := hide hupH
      have Hm := hide hm
      clear hgq hmW hmW2 hqc hqa other2 other3 other4 hnode2 hrow2 hmN2 htk hmH2 hmN3 hrow3 hmH3 hmH4 hrow hgb hO hw2 hw3 hw4 hupN hupH hI hL hfew hi ho hr hn hm
      go_wp2
      have hupN := HUp.out
      refine Rg.wp_region_ord (fun w' => w'.cell? ⟨p.g, 0, none⟩ = some (.map (some p.a)) ∧ w'.cell? ⟨q, 0, none⟩ = some (.slice A k c) ∧ w'.cell? ⟨q, 1, none⟩ = some (.int .i64 (m : Nat))) [(0, true), (1, true), (2, true), (3, true), (4, true), (5, true), (6, false)] (by kernel_rfl) (by kernel_rfl) ?_
      simp only [Rg.pick, List.map_cons, List.map_nil, List.getD_cons_zero, List.getD_cons_succ]
      iterate 6 (refine Rg.ord_quiet (v := ?_) rfl (fun w' hS => ?_) ⟨d0, d1, d2⟩ ?_; rotate_left; (obtain ⟨s2, s1, s0⟩ := hS; go_simp; with_reducible rfl); simp only [Act.put, List.setIfInBounds_toArray, List.set_cons_succ, List.set_cons_zero])
      refine Rg.ord_loud rfl (fun K hK => ?_)
      go_simp
      refine hK _ _ (fun hf => absurd (show Rg.sink _ 6 = true from by kernel_rfl) (by rw [hf]; decide)) ?_
      clear hK K d0 d1 d2 hupN
      refine Rg.ord_nil ?_
      have hupH := HUh.out
      unfold unV at hupH
      go_wp2
      refine bodyPost_end (results_none rfl _ _ _) rfl ?_
      rw [← Hm.out]
      exact ⟨rfl, HF⟩
end Go.Proofs.Ytplmcpdlommmaaa.Dq
namespace Go.Proofs.Ytplmcpdlommmaaa.Dq
open Go Go.RowKit Kt Kg Lw Tr

section
variable {w w' : World} {p : Pc} {D : List Nd} {sl : Bs → Option Addr × Nat} {su lev : Bs → Nat} {bh : Bs → List Bs} {bv : Bs → Option Value}
theorem Gm.five_lt (h : Gm w p D sl su lev bh bv) {k : Nat} (hk : p.five k) : k < w.heap.size := h.lt k (.inl hk)
/-- how much is in for sure is told anew -/
theorem Gm.sure (h : Gm w p D sl su lev bh bv) {x : Bs} {j : Nat} (hx : waits D x = true) {o : Obj} (hm : Mp (w.putObj p.c o) p.c (upd (fun k => if waits D k then some (ndV (sl k) (psL D k) (su k)) else none) x (some (ndV (sl x) (psL D x) j)))) :
    Gm (w.putObj p.c o) p D sl (upd su x j) lev bh bv := by
  have hO := h.ok
  have keep : ∀ k, k ≠ p.c → (w.putObj p.c o).heap[k]? = w.heap[k]? := fun k hk => World.putObj_heap_other hk
  have hsz : (w.putObj p.c o).heap.size = w.heap.size := by simp [World.putObj]
  refine ⟨hO, (keep _ hO.gc).trans h.row, h.mN.move (keep _ hO.ac), h.mH.move (keep _ hO.bc), hm.congr fun k => ?_, h.mB.move (keep _ hO.cd.symm), fun k hk => (h.sls k hk).move fun b hb _ => keep b fun e => ?_, fun k => (h.rows k).imp id fun ⟨v, h1, h2, h3⟩ => ⟨v, h1, OwT.moved h2 fun g hg => keep g fun e => ?_, h3⟩, fun k hk => by rw [hsz]; exact h.lt k hk⟩
  · by_cases e : k = x
    · subst e; rw [upd_same, hx, if_pos rfl, upd_same]
    · rw [upd_ne _ _ e, upd_ne _ _ e]
  · exact hO.sp b hb (.inr (.inr (.inr (.inl e))))
  · exact (hO.sb k g (h3 g hg)).1 (.inr (.inr (.inr (.inl e))))
/-- the pieces, with another row for one id -/
def Pc.row (p : Pc) (x : Bs) (R : Nat → Prop) : Pc := ⟨p.g, p.a, p.b, p.c, p.d, p.Sp, fun y k => if y = x then R k else p.Sb y k⟩
theorem Pc.row_ok {p : Pc} (h : p.Ok) (x : Bs) (R : Nat → Prop) (hR : ∀ k, R k → ¬ p.five k ∧ ¬ p.Sp k ∧ ∀ y, y ≠ x → ¬ p.Sb y k) : (p.row x R).Ok := by
  refine ⟨h.ga, h.gb, h.gc, h.gd, h.ab, h.ac, h.ad, h.bc, h.bd, h.cd, h.sp, fun y k hk => ?_, fun y z k h1 h2 => ?_⟩
  · by_cases e : y = x
    · have hk' : R k := by simpa [Pc.row, e] using hk
      exact ⟨(hR k hk').1, (hR k hk').2.1⟩
    · have hk' : p.Sb y k := by simpa [Pc.row, e] using hk
      exact h.sb y k hk'
  · by_cases e : y = x
    · have h1' : R k := by simpa [Pc.row, e] using h1
      by_cases e2 : z = x
      · rw [e, e2]
      · have h2' : p.Sb z k := by simpa [Pc.row, e2] using h2
        exact absurd h2' ((hR k h1').2.2 z e2)
    · have h1' : p.Sb y k := by simpa [Pc.row, e] using h1
      by_cases e2 : z = x
      · have h2' : R k := by simpa [Pc.row, e2] using h2
        exact absurd h1' ((hR k h2').2.2 y e)
      · have h2' : p.Sb z k := by simpa [Pc.row, e2] using h2
        exact h.one y z k h1' h2'
theorem Pc.row_S {p : Pc} {x : Bs} {R : Nat → Prop} {k : Nat} (h : (p.row x R).S k) : p.S k ∨ R k := by
  rcases h with h | h | ⟨y, h⟩
  · exact .inl (.inl h)
  · exact .inl (.inr (.inl h))
  · by_cases e : y = x
    · exact .inr (by simpa [Pc.row, e] using h)
    · exact .inl (.inr (.inr ⟨y, by simpa [Pc.row, e] using h⟩))
/-- one's row has turned: who stands behind it -/
theorem Gm.behind (h : Gm w p D sl su lev bh bv) {x : Bs} {l : List Bs} {u : Option Value} {R : Nat → Prop} (hoth : ∀ k, p.S k → k ≠ p.d → ¬ p.Sb x k → w'.heap[k]? = w.heap[k]?) (hsz : w.heap.size ≤ w'.heap.size)
    (hm : Mp w' p.d (upd bv x u)) (hl : (l = [] ∧ u = none) ∨ ∃ v, u = some v ∧ OwT w' 0 tId v l ∧ ∀ b, v.ownBlock = some b → R b)
    (hR : ∀ k, R k → k < w'.heap.size ∧ ¬ p.five k ∧ ¬ p.Sp k ∧ ∀ y, y ≠ x → ¬ p.Sb y k) : Gm w' (p.row x R) D sl su lev (upd bh x l) (upd bv x u) := by
  have hO := h.ok
  have nb : ∀ k, p.five k → ¬ p.Sb x k := fun k hk hs => (hO.sb x k hs).1 hk
  refine ⟨Pc.row_ok hO x R fun k hk => (hR k hk).2, (hoth _ (.inl (.inl rfl)) hO.gd (nb _ (.inl rfl))).trans h.row, h.mN.move (hoth _ (.inl (.inr (.inl rfl))) hO.ad (nb _ (.inr (.inl rfl)))),
    h.mH.move (hoth _ (.inl (.inr (.inr (.inl rfl)))) hO.bd (nb _ (.inr (.inr (.inl rfl))))), h.mW.move (hoth _ (.inl (.inr (.inr (.inr (.inl rfl))))) hO.cd (nb _ (.inr (.inr (.inr (.inl rfl)))))), hm,
    fun k hk => (h.sls k hk).move fun b hb _ => hoth b (.inr (.inl hb)) (fun e => hO.sp b hb (.inr (.inr (.inr (.inr e))))) (fun hs => (hO.sb x b hs).2 hb), fun k => ?_, fun k hk => ?_⟩
  · by_cases e : k = x
    · subst e
      rw [upd_same, upd_same]
      rcases hl with ⟨rfl, rfl⟩ | ⟨v, rfl, h1, h2⟩
      · exact .inl ⟨rfl, rfl⟩
      · exact .inr ⟨v, rfl, h1, fun b hb => by simpa [Pc.row] using h2 b hb⟩
    · rw [upd_ne _ _ e, upd_ne _ _ e]
      refine (h.rows k).imp id fun ⟨v, h1, h2, h3⟩ => ⟨v, h1, OwT.moved h2 fun g hg => hoth g (.inr (.inr ⟨k, h3 g hg⟩)) (fun e2 => (hO.sb k g (h3 g hg)).1 (.inr (.inr (.inr (.inr e2))))) (fun hs => e (hO.one k x g (h3 g hg) hs)), fun b hb => by simpa [Pc.row, e] using h3 b hb⟩
  · rcases Pc.row_S hk with hk | hk
    · exact Nat.lt_of_lt_of_le (h.lt k hk) hsz
    · exact (hR k hk).1
theorem Gm.lev_ext (h : Gm w p D sl su lev bh bv) : p.Ok := h.ok
end
theorem vs_cutI {w : World} {P : Nat → Prop} {A : Option Addr} {c : Nat} {l : List Bs} (h : Vs w P A c (texts l)) {i : Nat} (hi : i ≤ l.length) :
    Vs w P (if c = i then A else A.map (·.add i)) (c - i) (texts (l.drop i)) := by
  have h1 := h.1
  rw [texts_len] at h1
  refine ⟨by rw [texts_len, List.length_drop]; omega, fun hn => ?_⟩
  rw [texts_len, List.length_drop] at hn
  obtain ⟨b, o, rfl, hp, hc⟩ := h.2 (by rw [texts_len]; omega)
  rw [if_neg (by omega)]
  refine ⟨b, o + i, by simp [Addr.add_mid], hp, fun k v hk => ?_⟩
  have hk2 : (texts l)[i + k]? = some v := by
    rw [← hk]
    simp [texts, List.getElem?_drop]
  have := hc _ _ hk2
  rwa [show o + (i + k) = o + i + k by omega] at this
theorem run_cutI (w : World) (A : Option Addr) (n c i : Nat) (hi : i ≤ n) :
    (Instr.slice 31 (.slice A n c) (some (.int .i64 (i : Int))) none none).run Try.prog w = .ok (.slice (if c = i then A else A.map (·.add i)) (n - i) (c - i)) w := by
  have hu := run_underlying Try.underlying31
  cases A with
  | none => go_simp
  | some ad => go_simp
theorem drop_cons {l : List Bs} {k : Nat} {x : Bs} (h : l[k]? = some x) : l.drop k = x :: l.drop (k + 1) := by
  obtain ⟨h1, h2⟩ := List.getElem?_eq_some_iff.1 h
  rw [List.drop_eq_getElem_cons h1, h2]
/-- all that flow holds in memory, but for who is looked at -/
structure Fl (w0 : World) (p0 : Pc) (w : World) (p : Pc) (D : List Nd) (sl : Bs → Option Addr × Nat) (su lev : Bs → Nat) (bh : Bs → List Bs) (bv : Bs → Option Value) (Sq : Nat → Prop) (q : Nat) (nx : List Bs) (vc : Value) (came : List Bs) : Prop where
  gm : Gm w p D sl su lev bh bv
  hp : HpIn w Sq q nx
  hh : Hp nx nx.length
  cm : OwT w w0.heap.size tId vc came
  d1 : ∀ k, Sq k → ¬ p.S k
  d2 : ∀ k, vc.ownBlock = some k → ¬ p.S k ∧ ¬ Sq k
  new : ∀ k, Sq k → w0.heap.size ≤ k
  pS : ∀ k, p.S k → p0.S k ∨ w0.heap.size ≤ k
  oth : Oth p0.S w0 w
  g0 : p.g = p0.g
  lvl : Lv D lev
/-- who is looked at -/
structure Hu (w : World) (p : Pc) (Sq : Nat → Prop) (vc : Value) (A : Option Addr) (c : Nat) (hg : List Bs) (P : Nat → Prop) : Prop where
  vs : Vs w P A c (texts hg)
  off : ∀ k, P k → k < w.heap.size ∧ ¬ p.S k ∧ ¬ Sq k ∧ vc.ownBlock ≠ some k
section
variable {w0 w w' : World} {p0 p : Pc} {D : List Nd} {sl : Bs → Option Addr × Nat} {su lev : Bs → Nat} {bh : Bs → List Bs} {bv : Bs → Option Value} {Sq : Nat → Prop} {q : Nat} {nx : List Bs} {vc : Value} {came : List Bs}
theorem OwT.lt {B : Nat} {v : Value} {l : List Bs} (h : OwT w B tId v l) {k : Nat} (hk : v.ownBlock = some k) : B ≤ k ∧ k < w.heap.size := World.ownsRow.lt h k hk
/-- new blocks alone -/
theorem Fl.below (h : Fl w0 p0 w p D sl su lev bh bv Sq q nx vc came) (hb : Below w.heap.size w w') : Fl w0 p0 w' p D sl su lev bh bv Sq q nx vc came :=
  ⟨h.gm.below hb, h.hp.move (fun k hk => hb.block k (h.hp.lt k hk)) hb.size, h.hh, h.cm.kept hb, h.d1, h.d2, h.new, h.pS, Oth.trans h.oth (Oth.of_below p0.S hb) fun _ _ z => z, h.g0, h.lvl⟩
theorem Hu.below {A : Option Addr} {c : Nat} {hg : List Bs} {P : Nat → Prop} (h : Hu w p Sq vc A c hg P) (hb : Below w.heap.size w w') : Hu w' p Sq vc A c hg P :=
  ⟨h.vs.move fun b hp _ => hb.block b (h.off b hp).1, fun k hk => ⟨Nat.lt_of_lt_of_le (h.off k hk).1 hb.size, (h.off k hk).2⟩⟩
/-- only the graph's blocks have turned, and new ones -/
theorem Fl.graph (h : Fl w0 p0 w p D sl su lev bh bv Sq q nx vc came) {p' : Pc} {D' : List Nd} {su' lev' : Bs → Nat} {bh' : Bs → List Bs} {bv' : Bs → Option Value} (ho : Oth p.S w w') (hg : Gm w' p' D' sl su' lev' bh' bv') (hp : ∀ k, p'.S k → p.S k ∨ w.heap.size ≤ k) (hgg : p'.g = p.g) (hl : Lv D' lev') :
    Fl w0 p0 w' p' D' sl su' lev' bh' bv' Sq q nx vc came := by
  have hs1 : ∀ k, Sq k → w'.heap[k]? = w.heap[k]? := fun k hk => ho.block k (h.hp.lt k hk) (h.d1 k hk)
  have hs2 : ∀ k, vc.ownBlock = some k → w'.heap[k]? = w.heap[k]? := fun k hk => ho.block k (OwT.lt h.cm hk).2 (h.d2 k hk).1
  refine ⟨hg, h.hp.move hs1 ho.size, h.hh, OwT.moved h.cm hs2, fun k hk hs => ?_, fun k hk => ⟨fun hs => ?_, (h.d2 k hk).2⟩, h.new, fun k hk => ?_, Oth.two h.oth ho h.pS, hgg.trans h.g0, hl⟩
  · rcases hp k hs with z | z
    · exact h.d1 k hk z
    · have := h.hp.lt k hk; omega
  · rcases hp k hs with z | z
    · exact (h.d2 k hk).1 z
    · have := (OwT.lt h.cm hk).2; omega
  · rcases hp k hk with z | z
    · exact h.pS k z
    · exact .inr (Nat.le_trans h.oth.size z)
theorem Hu.graph {A : Option Addr} {c : Nat} {hg : List Bs} {P : Nat → Prop} (h : Hu w p Sq vc A c hg P) {p' : Pc} (ho : Oth p.S w w') (hp : ∀ k, p'.S k → p.S k ∨ w.heap.size ≤ k) : Hu w' p' Sq vc A c hg P := by
  refine ⟨h.vs.move fun b hb _ => ho.block b (h.off b hb).1 (h.off b hb).2.1, fun k hk => ⟨Nat.lt_of_lt_of_le (h.off k hk).1 ho.size, fun hs => ?_, (h.off k hk).2.2⟩⟩
  rcases hp k hs with z | z
  · exact (h.off k hk).2.1 z
  · have := (h.off k hk).1; omega
/-- only the heap's blocks have turned, and new ones -/
theorem Fl.heap (h : Fl w0 p0 w p D sl su lev bh bv Sq q nx vc came) {Sq' : Nat → Prop} {nx' : List Bs} (hp : HpIn w' Sq' q nx') (hh : Hp nx' nx'.length) (ho : Oth Sq w w') (hS : ∀ k, Sq' k → Sq k ∨ w.heap.size ≤ k) :
    Fl w0 p0 w' p D sl su lev bh bv Sq' q nx' vc came := by
  have hs1 : ∀ k, p.S k → w'.heap[k]? = w.heap[k]? := fun k hk => ho.block k (h.gm.lt k hk) fun hs => h.d1 k hs hk
  have hs2 : ∀ k, vc.ownBlock = some k → w'.heap[k]? = w.heap[k]? := fun k hk => ho.block k (OwT.lt h.cm hk).2 (h.d2 k hk).2
  refine ⟨h.gm.move hs1 ho.size, hp, hh, OwT.moved h.cm hs2, fun k hk hs => ?_, fun k hk => ⟨(h.d2 k hk).1, fun hs => ?_⟩, fun k hk => ?_, h.pS, ?_, h.g0, h.lvl⟩
  · rcases hS k hk with z | z
    · exact h.d1 k z hs
    · have := h.gm.lt k hs; omega
  · rcases hS k hs with z | z
    · exact (h.d2 k hk).2 z
    · have := (OwT.lt h.cm hk).2; omega
  · rcases hS k hk with z | z
    · exact h.new k z
    · exact Nat.le_trans h.oth.size z
  · exact ⟨ho.os.trans h.oth.os, ho.tape.trans h.oth.tape, ho.output.trans h.oth.output, Nat.le_trans h.oth.size ho.size, fun k hk hn => (ho.block k (Nat.lt_of_lt_of_le hk h.oth.size) fun hs => by have := h.new k hs; omega).trans (h.oth.block k hk hn)⟩
theorem Hu.heap {A : Option Addr} {c : Nat} {hg : List Bs} {P : Nat → Prop} (h : Hu w p Sq vc A c hg P) {Sq' : Nat → Prop} (ho : Oth Sq w w') (hS : ∀ k, Sq' k → Sq k ∨ w.heap.size ≤ k) : Hu w' p Sq' vc A c hg P := by
  refine ⟨h.vs.move fun b hb _ => ho.block b (h.off b hb).1 (h.off b hb).2.2.1, fun k hk => ⟨Nat.lt_of_lt_of_le (h.off k hk).1 ho.size, (h.off k hk).2.1, fun hs => ?_, (h.off k hk).2.2.2⟩⟩
  rcases hS k hs with z | z
  · exact (h.off k hk).2.2.1 z
  · have := (h.off k hk).1; omega
/-- only the row of those that came has turned, and new blocks -/
theorem Fl.told (h : Fl w0 p0 w p D sl su lev bh bv Sq q nx vc came) {vc' : Value} {came' : List Bs} (hc : OwT w' w0.heap.size tId vc' came') (hg : w.grownBy w' vc.ownBlock) (hv : ∀ k, vc'.ownBlock = some k → vc.ownBlock = some k ∨ w.heap.size ≤ k) :
    Fl w0 p0 w' p D sl su lev bh bv Sq q nx vc' came' := by
  have hs1 : ∀ k, p.S k → w'.heap[k]? = w.heap[k]? := fun k hk => hg.block k (h.gm.lt k hk) fun e => (h.d2 k e.symm).1 hk
  have hs2 : ∀ k, Sq k → w'.heap[k]? = w.heap[k]? := fun k hk => hg.block k (h.hp.lt k hk) fun e => (h.d2 k e.symm).2 hk
  refine ⟨h.gm.move hs1 hg.size, h.hp.move hs2 hg.size, h.hh, hc, h.d1, fun k hk => ⟨fun hs => ?_, fun hs => ?_⟩, h.new, h.pS, ?_, h.g0, h.lvl⟩
  · rcases hv k hk with z | z
    · exact (h.d2 k z).1 hs
    · have := h.gm.lt k hs; omega
  · rcases hv k hk with z | z
    · exact (h.d2 k z).2 hs
    · have := h.hp.lt k hs; omega
  · exact ⟨hg.os.trans h.oth.os, hg.tape.trans h.oth.tape, hg.output.trans h.oth.output, Nat.le_trans h.oth.size hg.size, fun k hk hn => (hg.block k (Nat.lt_of_lt_of_le hk h.oth.size) fun e => by have := (OwT.lt h.cm e.symm).1; omega).trans (h.oth.block k hk hn)⟩
end
end Go.Proofs.Ytplmcpdlommmaaa.Dq
