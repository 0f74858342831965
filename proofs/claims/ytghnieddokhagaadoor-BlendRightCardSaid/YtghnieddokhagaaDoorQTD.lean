/-
  Rows of files: such that came in, and such that the call itself owns.
-/
import Derived.Lib.SmallJoins
import Derived.Test.YtghnieddokhagaaDoorQTA
import Derived.Test.YtghnieddokhagaaDoorQWS
import Derived.BigQuiet
namespace Go.Proofs.YtghnieddokhagaaDoor.Tr
open Go Go.RowKit Go.WideShapes Go.ChangeShapes Go.ChangeAt Go.ChangeMaps Go.Deep Kt Lw Li Df

abbrev tF : TypeId := 31
abbrev tFs : TypeId := 22
/-- a file's cells -/
def flC (f : Fl) : List Value := [.string ⟨f.path.toArray⟩, .string ⟨f.text.toArray⟩]
theorem flC_len (r : Fl) : (flC r).length = 2 := rfl
/-- files in a row of the call's own -/
def OwF (w : World) (B : Nat) (v : Value) (L : List Fl) : Prop := w.ownsRow B tF 2 v L.length (L.flatMap flC)
/-- '.slice A n c' reads as these files -/
def Fls (w : World) (A : Option Addr) (c : Nat) (L : List Fl) : Prop :=
  L.length ≤ c ∧ (0 < L.length → ∃ b o, A = some ⟨b, o, none⟩ ∧ b < w.heap.size ∧ ∀ j r, L[j]? = some r → w.rangeAt b (o + 2 * j) (flC r))
theorem OwF.nil (w : World) (B : Nat) : OwF w B (.slice none 0 0) [] := World.ownsRow_nil _ _ _ _
theorem Fls.nil (w : World) (A : Option Addr) (c : Nat) : Fls w A c [] := ⟨Nat.zero_le _, fun h => by simp at h⟩
theorem Fls.keep {w w' : World} {A : Option Addr} {c : Nat} {L : List Fl} (h : Fls w A c L) (hb : Below w.heap.size w w') : Fls w' A c L :=
  ⟨h.1, fun hn => by
    obtain ⟨b, o, rfl, hlt, he⟩ := h.2 hn
    exact ⟨b, o, rfl, Nat.lt_of_lt_of_le hlt hb.size, fun j e hj i v hi => (World.cell?_of_block (a := ⟨b, o + 2 * j + i, none⟩) (hb.block b hlt)).trans (he j e hj i v hi)⟩⟩
theorem OwF.fls {w : World} {B : Nat} {v : Value} {L : List Fl} (h : OwF w B v L) : ∃ A c, v = .slice A L.length c ∧ Fls w A c L := by
  have h' := h
  rcases h.2 with ⟨rfl, h0⟩ | ⟨g, cap, cur, rfl, hB, hg, hnc, hcm, hs, ht⟩
  · have e : L = [] := List.eq_nil_of_length_eq_zero h0
    subst e
    exact ⟨none, 0, rfl, Fls.nil _ _ _⟩
  · refine ⟨_, cap, rfl, hnc, fun _ => ⟨g, 0, rfl, (Array.getElem?_eq_some_iff.1 hg).1, fun j e hj k u hk => ?_⟩⟩
    have hjl : j < L.length := (List.getElem?_eq_some_iff.1 hj).1
    have hk7 : k < 2 := (List.getElem?_eq_some_iff.1 hk).1
    have := World.ownsRow.cellAt (cap := cap) h' (2 * j + k) (by omega)
    rw [Nat.zero_add, this, flat_at flC 2 flC_len L j k e hj hk7]
    exact hk
theorem OwF.below {w w' : World} {B : Nat} {v : Value} {L : List Fl} (h : OwF w B v L) {B' : Nat} (hb : Below B' w w') (hv : ∀ g, v.ownBlock = some g → g < B') : OwF w' B v L := by
  refine ⟨h.1, ?_⟩
  rcases h.2 with ⟨h1, h2⟩ | ⟨g, cap, cur, hv', h1, h2, h3⟩
  · exact .inl ⟨h1, h2⟩
  · exact .inr ⟨g, cap, cur, hv', h1, (hb.block g (hv g (by rw [hv']; rfl))).trans h2, h3⟩
theorem OwF.keep {w w' : World} {B : Nat} {v : Value} {L : List Fl} (h : OwF w B v L) (hb : Below w.heap.size w w') : OwF w' B v L := h.below hb fun g hg => (World.ownsRow.lt h g hg).2
theorem OwF.grown {w w' : World} {B : Nat} {v : Value} {L : List Fl} {r : Option Nat} (h : OwF w B v L) (hg : w.grownBy w' r) (hr : ∀ g, v.ownBlock = some g → some g ≠ r) : OwF w' B v L := by
  refine ⟨h.1, ?_⟩
  rcases h.2 with ⟨h1, h2⟩ | ⟨g, cap, cur, hv', h1, h2, h3⟩
  · exact .inl ⟨h1, h2⟩
  · exact .inr ⟨g, cap, cur, hv', h1, (hg.block g (Array.getElem?_eq_some_iff.1 h2).1 (hr g (by rw [hv']; rfl))).trans h2, h3⟩
theorem OwF.base {w : World} {B B' : Nat} {v : Value} {L : List Fl} (h : OwF w B v L) (hb : B' ≤ B) : OwF w B' v L :=
  ⟨h.1, h.2.imp id fun ⟨g, cap, cur, hv', h1, h2⟩ => ⟨g, cap, cur, hv', Nat.le_trans hb h1, h2⟩⟩
theorem OwF.drewN {w : World} {B : Nat} {v : Value} {L : List Fl} (h : OwF w B v L) (n : Nat) : OwF (w.drewN n) B v L := h
theorem OwF.drew {w : World} {B : Nat} {v : Value} {L : List Fl} (h : OwF w B v L) : OwF w.drew B v L := h
/-- a block of other cells is none of the row's -/
theorem OwF.ne {w : World} {B g : Nat} {t : TypeId} {cs : List Value} {v : Value} {L : List Fl} (hrow : Row w g t cs) (ht : t ≠ tF) (h : OwF w B v L) : ∀ b, v.ownBlock = some b → b ≠ g := by
  intro b hb e
  subst e
  rcases h.2 with ⟨rfl, _⟩ | ⟨g', cap, cur, rfl, _, hg', _⟩
  · cases hb
  · simp only [Value.ownBlock, Option.some.injEq] at hb
    subst hb
    unfold Row at hrow
    rw [hg'] at hrow
    simp only [Option.some.injEq, Obj.cells.injEq] at hrow
    exact ht hrow.2.1.symm
theorem infoFl : (Tryd.prog.info? 31).map (fun i => (i.zero, i.size, i.bytes)) = some (some (.agg #[.string ⟨#[]⟩, .string ⟨#[]⟩]), 2, 32) := by kernel_rfl
/-- append of one file -/
theorem wp_pushF {o : Oper} {a : Act} {K : Act → World → Prop} {Q : Exit → Act → World → Prop} {W : World} (s x : Operand)
    (ho : o.op = .call { callee := .builtin .append, args := #[s, x], argTypes := #[22, 22] })
    (B : Nat) (w0 : World) (v : Value) (L : List Fl) (e : Fl) (cs : Array Value) (hs : a.eval s = v) (hx : a.eval x = .slice (some ⟨W.heap.size, 0, none⟩) 1 1) (hc : cs = (flC e).toArray)
    (hown : OwF W B v L) (hlen : L.length + 1 ≤ 1000000000) (hb : Below B w0 W) (hbase : B ≤ W.heap.size)
    (h : ∀ v' w', OwF w' B v' (L ++ [e]) → Below B w0 w' → W.grownBy w' v.ownBlock → K (a.put o.dst v') w') : o.wp Tryd.prog a (W.alloc (.cells cs tF)) K Q := by
  obtain ⟨i0, hi0, hz0, hz1, hz2⟩ := info_parts infoFl
  subst hc
  refine wp_append_own _ s x 22 ho B tF i0 (.agg #[.string ⟨#[]⟩, .string ⟨#[]⟩]) 2 32 Tryd.underlying22 hi0 hz0 hz1 hz2 rfl (by omega) v L.length (L.flatMap flC) hs (World.ownsRow.alloc hown _)
    ⟨W.heap.size, 0, none⟩ 1 1 (flC e) hx rfl (fun j u hu => ?_) ?_ (by unfold maxLen; omega) (by omega) (by simp; omega) (fun v' w' h1 h2 _ => ?_)
  · rw [Addr.add_mid, (Row.fresh W tF (flC e).toArray).cell]
    simpa using hu
  · intro u hu
    simp only [flC, List.mem_cons, List.not_mem_nil, or_false] at hu
    rcases hu with rfl | rfl <;> rfl
  · have hg := grownBy_back _ h2
    refine h v' w' ?_ (hb.grown hg hbase fun k hk => (World.ownsRow.lt hown k hk).1) hg
    unfold OwF
    rw [List.flatMap_append, List.length_append]
    simpa using h1
theorem wpList_pushF {ops : Array Oper} {rest : List Oper} {o : Oper} {a : Act} {Q : Exit → Act → World → Prop} {W : World} (hgd : o.guard = none) (s x : Operand)
    (ho : o.op = .call { callee := .builtin .append, args := #[s, x], argTypes := #[22, 22] })
    (B : Nat) (w0 : World) (v : Value) (L : List Fl) (e : Fl) (cs : Array Value) (hs : a.eval s = v) (hx : a.eval x = .slice (some ⟨W.heap.size, 0, none⟩) 1 1) (hc : cs = (flC e).toArray)
    (hown : OwF W B v L) (hlen : L.length + 1 ≤ 1000000000) (hb : Below B w0 W) (hbase : B ≤ W.heap.size)
    (h : ∀ v' w', OwF w' B v' (L ++ [e]) → Below B w0 w' → W.grownBy w' v.ownBlock → wpList Tryd.prog ops Q rest (a.put o.dst v') w') : wpList Tryd.prog ops Q (o :: rest) a (W.alloc (.cells cs tF)) :=
  wpList_plain hgd fun _ hK => wp_pushF s x ho B w0 v L e cs hs hx hc hown hlen hb hbase fun v' w' h1 h2 h3 => hK _ _ (h v' w' h1 h2 h3)
/-- the file number k, in a world behind -/
theorem Fls.at {w w' : World} {A : Option Addr} {c : Nat} {L : List Fl} (h : Fls w A c L) (hb : Below w.heap.size w w') {k : Nat} (hk : k < L.length) :
    ∃ b o f, A = some ⟨b, o, none⟩ ∧ b < w.heap.size ∧ L[k]? = some f ∧ L.drop k = f :: L.drop (k + 1) ∧ w'.cell? ⟨b, o + k * 2, none⟩ = some (.string ⟨f.path.toArray⟩) ∧ w'.cell? ⟨b, o + k * 2 + 1, none⟩ = some (.string ⟨f.text.toArray⟩) := by
  obtain ⟨b, o, rfl, hlt, he⟩ := h.2 (by omega)
  have h1 := he k _ (List.getElem?_eq_getElem hk)
  rw [Nat.mul_comm] at h1
  have h3 : ∀ i v, (flC L[k])[i]? = some v → w'.cell? ⟨b, o + k * 2 + i, none⟩ = some v := fun i v hi => (World.cell?_of_block (a := ⟨b, o + k * 2 + i, none⟩) (hb.block b hlt)).trans (h1 i v hi)
  exact ⟨b, o, _, rfl, hlt, List.getElem?_eq_getElem hk, List.drop_eq_getElem_cons hk, h3 0 _ rfl, h3 1 _ rfl⟩
section
variable {H : Type} {enc : TypeId × Value → H}
set_option maxRecDepth 100000 in
theorem open_files {W : World} {base : Nat} {v : Value} {d : DataW H} {ps : List MemPlace}
    (hval : Value.okWide Tryd.prog W .any base 22 v) (h : DataW.Trod enc Tryd.prog W 0 (fun _ => true) true 22 v d ps) :
    ∃ (L : List Fl) (A : Option Addr) (c : Nat), v = .slice A L.length c ∧ (Fls W A c L ∧ ∀ f ∈ L, f.path.length ≤ maxLen ∧ f.text.length ≤ maxLen) ∧ L.length ≤ maxLen := by
  obtain ⟨a1, len, cap, rfl⟩ := okWide_slice Tryd.underlying22 hval
  obtain ⟨fuel, hf⟩ := h
  rcases open_slice Tryd.underlying22 hf with ⟨hcs, _⟩ | ⟨a, len', cap', m, n, D, Pl, hcs, _, hl, hm, hmm, _, hi⟩
  · simp [Value.cells] at hcs
    obtain ⟨rfl, rfl, rfl⟩ := hcs
    exact ⟨[], none, 0, rfl, ⟨Fls.nil _ _ _, fun f hf => by cases hf⟩, Nat.zero_le _⟩
  · simp [Value.cells] at hcs
    obtain ⟨rfl, rfl, rfl⟩ := hcs
    simp only [if_true] at hmm
    subst hmm
    have hC : Tryd.prog.cellsOf 31 = 2 := by kernel_rfl
    have cS : Tryd.prog.cellsOf 9 = 1 := by kernel_rfl
    rw [hC] at hi
    have hel : ∀ i, i < len → ∃ e : Fl, ∀ k u, (flC e)[k]? = some u → W.cell? ((a.add (i * 2)).add k) = some u := by
      intro i hil
      obtain ⟨cs', hc, ht⟩ := hi i (by omega)
      obtain ⟨_, hcl, hat⟩ := World.cells?_some hc
      obtain ⟨y0, y1, n', _, _, h0, h1⟩ := trod_struct2 Tryd.underlying31 ht
      simp only [cS] at h0 h1
      obtain ⟨p, e0, _, hp⟩ := DataW.trod_string Tryd.underlying9 h0
      obtain ⟨x, e1, _, hx⟩ := DataW.trod_string Tryd.underlying9 h1
      have k0 := one_at _ _ _ e0
      have k1 := one_at _ _ _ e1
      refine ⟨⟨p.data.toList, x.data.toList⟩, fun k u hk => ?_⟩
      have hk2 : k < 2 := (List.getElem?_eq_some_iff.1 hk).1
      rw [hat k hk2]
      rcases k with _ | _ | k
      · rw [k0, ← hk]; rfl
      · rw [k1, ← hk]; rfl
      · omega
    have hlen : ∀ i, i < len → ∀ e : Fl, (∀ k u, (flC e)[k]? = some u → W.cell? ((a.add (i * 2)).add k) = some u) → e.path.length ≤ maxLen ∧ e.text.length ≤ maxLen := by
      intro i hil e he
      obtain ⟨cs', hc, ht⟩ := hi i (by omega)
      obtain ⟨_, hcl, hat⟩ := World.cells?_some hc
      obtain ⟨y0, y1, n', _, _, h0, h1⟩ := trod_struct2 Tryd.underlying31 ht
      simp only [cS] at h0 h1
      obtain ⟨p, e0, _, hp⟩ := DataW.trod_string Tryd.underlying9 h0
      obtain ⟨x, e1, _, hx⟩ := DataW.trod_string Tryd.underlying9 h1
      have k0 := one_at _ _ _ e0
      have k1 := one_at _ _ _ e1
      have g0 := he 0 _ rfl
      have g1 := he 1 _ rfl
      rw [hat 0 (by omega), k0] at g0
      rw [hat 1 (by omega), k1] at g1
      simp only [Option.some.injEq, Value.string.injEq] at g0 g1
      have q0 := congrArg ByteArray.size g0
      have q1 := congrArg ByteArray.size g1
      exact ⟨by rw [show e.path.length = (ByteArray.mk e.path.toArray).size from rfl, ← q0]; exact hp, by rw [show e.text.length = (ByteArray.mk e.text.toArray).size from rfl, ← q1]; exact hx⟩
    obtain ⟨L, hLl, hQ⟩ := list_of _ len hel
    refine ⟨L, some a, m, by rw [hLl], ⟨⟨by omega, fun hn => ?_⟩, fun f hf => ?_⟩, by omega⟩
    · obtain ⟨ab, ao, spot⟩ := a
      obtain ⟨e0, hc0⟩ := hel 0 (by omega)
      have hspot : spot = none := by simpa [Addr.add] using World.cell?_spot (hc0 0 _ rfl)
      subst hspot
      have hlt : ab < W.heap.size := by
        have := hc0 0 _ rfl
        rw [Addr.add_mid, Addr.add_mid] at this
        exact World.block_lt_of_cell? W _ this
      refine ⟨ab, ao, rfl, hlt, fun j e hj k u hk => ?_⟩
      have := hQ j e hj k u hk
      rw [Addr.add_mid, Addr.add_mid] at this
      rw [Nat.mul_comm 2 j]
      exact this
    · obtain ⟨j, hj⟩ := List.getElem?_of_mem hf
      exact hlen j (by rw [← hLl]; exact (List.getElem?_eq_some_iff.1 hj).1) f (hQ j f hj)
set_option maxRecDepth 100000 in
open Go.Joins in
theorem open_file {W : World} {base : Nat} {v : Value} {d : DataW H} {ps : List MemPlace}
    (hval : Value.okWide Tryd.prog W .any base 31 v) (h : DataW.Trod enc Tryd.prog W 0 (fun _ => true) true 31 v d ps) :
    ∃ f : Fl, v = .agg #[.string ⟨f.path.toArray⟩, .string ⟨f.text.toArray⟩] ∧ f.path.length ≤ maxLen ∧ f.text.length ≤ maxLen := by
  obtain ⟨v0, v1, y0, y1, n, rfl, _, _, h0, h1⟩ := open_agg2 Tryd.underlying31 (by kernel_rfl) (by kernel_rfl) hval h
  obtain ⟨p, e0, _, hp⟩ := DataW.trod_string Tryd.underlying9 h0
  obtain ⟨x, e1, _, hx⟩ := DataW.trod_string Tryd.underlying9 h1
  simp only [List.cons.injEq, and_true] at e0 e1
  subst e0 e1
  exact ⟨⟨p.data.toList, x.data.toList⟩, rfl, hp, hx⟩
end
end Go.Proofs.YtghnieddokhagaaDoor.Tr
namespace Go.Proofs.YtghnieddokhagaaDoor.Tr
open Go Go.RowKit Kt Lw Li Lx Df

theorem agr {w w' : World} {b j : Nat} {v : Value} (h : w.cell? ⟨b, j, none⟩ = some v) (hb : Below w.heap.size w w') : w'.cell? ⟨b, j, none⟩ = some v :=
  (World.cell?_of_block (a := ⟨b, j, none⟩) (hb.block b (World.block_lt_of_cell? w ⟨b, j, none⟩ h))).trans h
/-- the path ahead of file k -/
def ahead (t : List Fl) (k : Nat) : Option Bs := if k = 0 then none else (t[k - 1]?).map (·.path)
theorem go_step {t : List Fl} {k : Nat} {f : Fl} (h : t[k]? = some f) (hd : t.drop k = f :: t.drop (k + 1)) : go (ahead t k) (t.drop k) = (can f.path && decide (f.text.length ≤ 65536) && above (ahead t k) f.path && go (ahead t (k + 1)) (t.drop (k + 1))) := by
  rw [hd, go]
  have e : ahead t (k + 1) = some f.path := by unfold ahead; rw [if_neg (by omega), Nat.add_sub_cancel, h]; rfl
  rw [e]
set_option maxRecDepth 100000 in
set_option maxHeartbeats 4000000 in
theorem rright_any (t : List Fl) (A : Option Addr) (c : Nat) (w : World) (hs : Fls w A c t) (hn : t.length ≤ 100000) (hm : ∀ f ∈ t, f.path.length ≤ 9223372036854775807) :
    Calls Tryd.prog 12 #[.slice A t.length c] w fun y w' => y = .returned (.bool (right t)) ∧ Below w.heap.size w w' := by
  have Hs := hide hs
  have Hm := hide hm
  obtain ⟨N, hN⟩ : ∃ N, N = t.length := ⟨_, rfl⟩
  rw [← hN] at hn ⊢
  have HN := hide hN
  have HR0 := hide (show right t = (go none t && decide ((N : Int) ≤ 1000)) by rw [hN]; unfold right; congr 1; rw [decide_eq_decide]; omega)
  clear hs hm hN
  go_enter Tryd.func12, Tryd.ntmps12
  go_wp2
  go_loopw [3] (fun i wr => ∃ k : Nat, k ≤ N ∧ i = .int .i64 k ∧ Hid (go none t = go (ahead t k) (t.drop k) ∧ (0 < k → ∃ g, t[k - 1]? = some g ∧ g.path.length ≤ 200)) ∧ Below w.heap.size w wr) (fun i _ => N - (intOf i).toNat)
  case atStart => exact ⟨0, Nat.zero_le _, rfl, by show Hid _; exact hide ⟨rfl, fun h => absurd h (by omega)⟩, Below.refl _ _⟩
  case round =>
    obtain ⟨k, hk, rfl, HR, hb⟩ := hrel
    have Hb := hide hb
    clear hb
    by_cases hlt : k < N
    · obtain ⟨b, o, f, rfl, hbl, hf, hd, d0, d1⟩ := Hs.out.at (w' := wr) Hb.out (k := k) (by have := HN.out; omega)
      have hstep := go_step hf hd
      have HP := hide (fun w => rpath_any f.path w (Hm.out f (List.mem_of_getElem? hf)))
      have HK := hide (show (0 < k → ∃ g, t[k - 1]? = some g ∧ g.path.length ≤ 200) from HR.out.2)
      rw [← HR.out.1] at hstep
      have Hf := hide hf
      obtain ⟨x, hx⟩ : ∃ x, x = f.text := ⟨_, rfl⟩
      obtain ⟨p, hp⟩ : ∃ p, p = f.path := ⟨_, rfl⟩
      rw [← hx] at d1 hstep
      rw [← hp] at d0 hstep HP
      have Hp := hide hp
      clear hx hp hf hd HR hbl
      by_cases hc : can p = true
      · rw [hc] at HP
        rw [hc, Bool.true_and] at hstep
        have hp2 : p.length ≤ 200 := by
          unfold can at hc
          rw [Bool.and_eq_true, decide_eq_true_eq] at hc
          exact hc.1
        by_cases hx : 65536 < x.length
        · rw [decide_eq_false (show ¬ x.length ≤ 65536 by omega), Bool.false_and, Bool.false_and] at hstep
          have Hr := hide hstep
          have dx : decide (65536 < (x.length : Int)) = true := decide_eq_true (by omega)
          have dx2 : decide (65536 < x.length) = true := decide_eq_true hx
          clear hstep hx hc hp2
          go_wp2_with fail
          refine (HP.out _).mono ?_
          rintro y w1 ⟨rfl, rfl⟩
          go_wp2
          go_ret
          exact ⟨by rw [HR0.out, Hr.out]; rfl, Hb.out⟩
        · rw [decide_eq_true (show x.length ≤ 65536 by omega), Bool.true_and] at hstep
          have dx : decide (65536 < (x.length : Int)) = false := decide_eq_false (by omega)
          have dx2 : decide (65536 < x.length) = false := decide_eq_false hx
          have Hstep := hide hstep
          clear hstep hx hc
          by_cases hk0 : k = 0
          · subst hk0
            simp only [Nat.zero_mul, Nat.add_zero] at d0 d1
            have Hnx := hide (show go none t = go (ahead t 1) (t.drop 1) by rw [Hstep.out, show above (ahead t 0) p = true from rfl, Bool.true_and])
            clear Hstep HK
            go_wp2_with fail
            refine (HP.out _).mono ?_
            rintro y w1 ⟨rfl, rfl⟩
            go_wp2
            refine Rg.wp_region_ord (fun w' => w' = w1.drew) [(0, true), (1, true), (2, true), (3, true), (4, true), (5, true), (6, true), (7, true), (8, true), (9, true), (10, true), (11, true), (12, true), (13, true), (14, true), (15, true), (16, true)] (by kernel_rfl) (by kernel_rfl) ?_
            simp only [Rg.pick, List.map_cons, List.map_nil, List.getD_cons_zero, List.getD_cons_succ]
            iterate 3 (refine Rg.ord_quiet (v := ?_) rfl (fun w' hS => ?_) rfl ?_; rotate_left; (subst hS; go_simp; with_reducible rfl); simp only [Act.put, List.setIfInBounds_toArray, List.set_cons_succ, List.set_cons_zero])
            iterate 13 (refine Rg.ord_passed (by rfl) rfl ?_; simp only [Act.put, List.setIfInBounds_toArray, List.set_cons_succ, List.set_cons_zero])
            iterate 1 (refine Rg.ord_quiet (v := ?_) rfl (fun w' hS => ?_) rfl ?_; rotate_left; (subst hS; go_simp; with_reducible rfl); simp only [Act.put, List.setIfInBounds_toArray, List.set_cons_succ, List.set_cons_zero])
            refine Rg.ord_nil ?_
            have Hbd := hide (Hb.out.drew)
            go_wp2
            exact ⟨⟨1, by omega, by go_num, by show Hid _; exact hide ⟨Hnx.out, fun _ => ⟨f, Hf.out, by rw [← Hp.out]; exact hp2⟩⟩, Hbd.out⟩, by simp [intOf]; omega⟩
          · obtain ⟨g, hg, hg2⟩ := HK.out (by omega)
            obtain ⟨km, hkm⟩ : ∃ z, z = k - 1 := ⟨_, rfl⟩
            rw [← hkm] at hg
            obtain ⟨b', o', g', hA, _, hg', _, k0, _⟩ := Hs.out.at (w' := wr) Hb.out (k := km) (by have := HN.out; omega)
            have e1 := hA
            simp only [Option.some.injEq, Addr.mk.injEq, and_true] at e1
            obtain ⟨rfl, rfl⟩ := e1
            rw [hg] at hg'
            simp only [Option.some.injEq] at hg'
            subst hg'
            have Hah := hide (show ahead t k = some g.path by unfold ahead; rw [if_neg hk0, ← hkm, hg]; rfl)
            obtain ⟨p0, hp0⟩ : ∃ z, z = g.path := ⟨_, rfl⟩
            rw [← hp0] at k0 Hah hg2
            have HLs := hide (fun w => rless_any p0 p w (by omega) (by omega))
            have hkw : IntKind.i64.wrap ((k : Int) - 1) = (km : Int) := by rw [IntWalk.i64_in _ (by omega)]; omega
            have hk1 : decide ((0 : Int) < (k : Int)) = true := decide_eq_true (by omega)
            have hk2 : (0 : Int) < (k : Int) := by omega
            have hk3 : decide (0 < k) = true := decide_eq_true (by omega)
            have hk4 : 0 < k := by omega
            have hkmN : km < N := by omega
            clear hkm hp0 hg hA HK hk0
            go_wp2_with fail
            refine (HP.out _).mono ?_
            rintro y w1 ⟨rfl, rfl⟩
            go_wp2
            have s0 : w1.drew.cell? ⟨b, o + km * 2, none⟩ = some (.string ⟨p0.toArray⟩) := k0
            have s1 : w1.drew.cell? ⟨b, o + k * 2, none⟩ = some (.string ⟨p.toArray⟩) := d0
            refine Rg.wp_region_ord (fun w' => w'.cell? ⟨b, o + km * 2, none⟩ = some (.string ⟨p0.toArray⟩) ∧ w'.cell? ⟨b, o + k * 2, none⟩ = some (.string ⟨p.toArray⟩)) [(0, true), (1, true), (2, true), (3, true), (4, true), (5, true), (6, true), (7, true), (8, true), (9, true), (10, true), (11, true), (12, true), (13, true), (14, false), (15, true), (16, true)] (by kernel_rfl) (by kernel_rfl) ?_
            simp only [Rg.pick, List.map_cons, List.map_nil, List.getD_cons_zero, List.getD_cons_succ]
            iterate 3 (refine Rg.ord_quiet (v := ?_) rfl (fun w' hS => ?_) ⟨s0, s1⟩ ?_; rotate_left; (obtain ⟨q0, q1⟩ := hS; go_simp; with_reducible rfl); simp only [Act.put, List.setIfInBounds_toArray, List.set_cons_succ, List.set_cons_zero])
            iterate 11 (refine Rg.ord_guarded (v := ?_) (by rfl) (fun w' hS => ?_) ⟨s0, s1⟩ ?_; rotate_left; (obtain ⟨q0, q1⟩ := hS; go_simp; with_reducible rfl); simp only [Act.put, List.setIfInBounds_toArray, List.set_cons_succ, List.set_cons_zero])
            refine Rg.ord_loud (by rfl) (fun K hK => ?_)
            go_simp
            refine (HLs.out _).mono ?_
            rintro y w2 ⟨rfl, hb2⟩
            refine hK _ _ (fun _ => ⟨agr s0 hb2, agr s1 hb2⟩) ?_
            clear hK K
            have r0 := agr s0 hb2
            have r1 := agr s1 hb2
            have Hb2 := hide (Hb.out.drew.trans (hb2.mono Hb.out.drew.size))
            clear hb2 s0 s1 k0 d0 d1
            cases hL : Op.bytesLess p0 p
            · have Hnx := hide (show go none t = false by rw [Hstep.out, Hah.out, show above (some p0) p = Op.bytesLess p0 p from rfl, hL, Bool.false_and])
              iterate 1 (refine Rg.ord_guarded (v := ?_) (by rfl) (fun w' hS => ?_) ⟨r0, r1⟩ ?_; rotate_left; (obtain ⟨q0, q1⟩ := hS; go_simp; with_reducible rfl); simp only [Act.put, List.setIfInBounds_toArray, List.set_cons_succ, List.set_cons_zero])
              iterate 1 (refine Rg.ord_quiet (v := ?_) rfl (fun w' hS => ?_) ⟨r0, r1⟩ ?_; rotate_left; (obtain ⟨q0, q1⟩ := hS; go_simp; with_reducible rfl); simp only [Act.put, List.setIfInBounds_toArray, List.set_cons_succ, List.set_cons_zero])
              refine Rg.ord_nil ?_
              clear r0 r1 hL
              go_wp2
              go_ret
              exact ⟨by rw [HR0.out, Hnx.out]; rfl, Hb2.out⟩
            · have Hnx := hide (show go none t = go (ahead t (k + 1)) (t.drop (k + 1)) by rw [Hstep.out, Hah.out, show above (some p0) p = Op.bytesLess p0 p from rfl, hL, Bool.true_and])
              iterate 1 (refine Rg.ord_guarded (v := ?_) (by rfl) (fun w' hS => ?_) ⟨r0, r1⟩ ?_; rotate_left; (obtain ⟨q0, q1⟩ := hS; go_simp; with_reducible rfl); simp only [Act.put, List.setIfInBounds_toArray, List.set_cons_succ, List.set_cons_zero])
              iterate 1 (refine Rg.ord_quiet (v := ?_) rfl (fun w' hS => ?_) ⟨r0, r1⟩ ?_; rotate_left; (obtain ⟨q0, q1⟩ := hS; go_simp; with_reducible rfl); simp only [Act.put, List.setIfInBounds_toArray, List.set_cons_succ, List.set_cons_zero])
              refine Rg.ord_nil ?_
              clear r0 r1 hL hk1 hk2 hk3 hk4 hkw
              go_wp2
              exact ⟨⟨k + 1, by omega, by go_num, by show Hid _; exact hide ⟨Hnx.out, fun _ => ⟨f, Hf.out, by rw [← Hp.out]; exact hp2⟩⟩, Hb2.out⟩, by simp [intOf]; omega⟩
      · have hcf : can p = false := by simpa using hc
        rw [hcf] at HP
        rw [hcf, Bool.false_and, Bool.false_and, Bool.false_and] at hstep
        have Hr := hide hstep
        clear hstep hc hcf
        go_wp2_with fail
        refine (HP.out _).mono ?_
        rintro y w1 ⟨rfl, rfl⟩
        go_wp2
        go_ret
        exact ⟨by rw [HR0.out, Hr.out]; rfl, Hb.out⟩
    · obtain rfl : k = N := by omega
      have Hr := hide (show go none t = true by rw [HR.out.1, HN.out, List.drop_length]; rfl)
      clear HR
      go_wp2
      go_ret
      exact ⟨by rw [HR0.out, Hr.out, Bool.true_and]; rfl, Hb.out⟩
end Go.Proofs.YtghnieddokhagaaDoor.Tr
