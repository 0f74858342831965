/-
  A row of edits whose last is still written: opened, and added to.
-/
import Derived.Test.YtodicgopmcdjpaaEG
import Derived.Test.YtodicgopmcdjpaaEV
namespace Go.Proofs.Ytodicgopmcdjpaa.Df
open Go Go.RowKit Kt Lw

def OwL (w : World) (B g cap : Nat) (vi : Value) (O : List Ed) (e : Ed) : Prop :=
  ∃ V : List (Ed × Value), V.map (·.1) = O ∧ w.ownsRow B tE 3 (.slice (some ⟨g, 0, none⟩) (O.length + 1) cap) (O.length + 1) (V.flatMap pairC ++ edC e vi) ∧ (∀ p ∈ V, OwT w B tS p.2 p.1.ins) ∧ OwT w B tS vi e.ins ∧
    ∀ p ∈ V, ∀ b, vi.ownBlock = some b → p.2.ownBlock ≠ some b
theorem row_own {w : World} {B g cap n : Nat} {xs : List Value} {u : Value} {l : Ls} (h : w.ownsRow B tE 3 (.slice (some ⟨g, 0, none⟩) n cap) n xs) (hu : OwT w B tS u l) : u.ownBlock ≠ some g := by
  intro hee
  rcases hu.2 with ⟨rfl, _⟩ | ⟨g', cap', cur', rfl, _, hgg', _⟩
  · cases hee
  · simp only [Value.ownBlock, Option.some.injEq] at hee
    subst hee
    rcases h.2 with ⟨h', _⟩ | ⟨g2, cap2, cur2, h', _, hgg2, _⟩
    · cases h'
    · simp only [Value.slice.injEq, Option.some.injEq, Addr.mk.injEq, and_true, true_and] at h'
      obtain ⟨rfl, _⟩ := h'
      rw [hgg'] at hgg2
      simp [tS, tE] at hgg2
section
variable {w w' : World} {B g cap : Nat} {vi : Value} {O : List Ed} {e : Ed}
theorem OwL.owe (h : OwL w B g cap vi O e) : OwE w B (.slice (some ⟨g, 0, none⟩) (O.length + 1) cap) (O ++ [e]) := by
  obtain ⟨V, hV, hr, hi, hv, _⟩ := h
  refine ⟨V ++ [(e, vi)], by simp [hV], ?_, fun p hp => ?_⟩
  · rw [List.flatMap_append, List.length_append]
    exact hr
  · rcases List.mem_append.1 hp with hp | hp
    · exact hi p hp
    · obtain rfl : p = (e, vi) := by simpa using hp
      exact hv
theorem OwL.flat (V : List (Ed × Value)) (hV : V.map (·.1) = O) : (V.flatMap pairC).length = O.length * 3 := by
  rw [flat_len pairC 3 pairC_len, ← hV, List.length_map]
theorem OwL.cell (h : OwL w B g cap vi O e) {N : Nat} (hN : N = O.length) (k : Nat) (hk : k < 3) : w.cell? ⟨g, N * 3 + k, none⟩ = (edC e vi)[k]? ∧ w.frozen? ⟨g, N * 3 + k, none⟩ = false := by
  subst hN
  obtain ⟨V, hV, hr, hi, hv, _⟩ := h
  refine ⟨?_, World.ownsRow.frozenAt hr _⟩
  rw [World.ownsRow.cellAt hr _ (by omega), List.getElem?_append_right (by rw [OwL.flat V hV]; omega), OwL.flat V hV, Nat.add_sub_cancel_left]
theorem OwL.lt (h : OwL w B g cap vi O e) : B ≤ g ∧ g < w.heap.size ∧ O.length + 1 ≤ cap := by
  obtain ⟨V, hV, hr, hi, hv, _⟩ := h
  have h2 := World.ownsRow.lt hr g rfl
  refine ⟨h2.1, h2.2, ?_⟩
  rcases hr.2 with ⟨h', _⟩ | ⟨g2, cap2, cur2, h', _, _, h3, _⟩
  · cases h'
  · simp only [Value.slice.injEq, Option.some.injEq, Addr.mk.injEq, and_true, true_and] at h'
    obtain ⟨_, rfl⟩ := h'
    exact h3
theorem OwL.keep (h : OwL w B g cap vi O e) (hb : Below w.heap.size w w') : OwL w' B g cap vi O e := by
  obtain ⟨V, hV, hr, hi, hv, hd⟩ := h
  refine ⟨V, hV, ⟨hr.1, ?_⟩, fun p hp => (hi p hp).kept hb, hv.kept hb, hd⟩
  rcases hr.2 with ⟨h1, h2⟩ | ⟨g, cap, cur, hv', h1, h2, h3⟩
  · exact .inl ⟨h1, h2⟩
  · exact .inr ⟨g, cap, cur, hv', h1, (hb.block g (Array.getElem?_eq_some_iff.1 h2).1).trans h2, h3⟩
theorem OwL.setDel (h : OwL w B g cap vi O e) {N : Nat} (hN : N = O.length) (z : Int) : OwL (w.setCell ⟨g, N * 3 + 1, none⟩ (.int .i64 z)) B g cap vi O ⟨e.pos, z, e.ins⟩ := by
  subst hN
  obtain ⟨V, hV, hr, hi, hv, hd⟩ := h
  obtain ⟨hst, hg⟩ := World.ownsRow.stored hr (O.length * 3 + 1) (.int .i64 z)
  refine ⟨V, hV, ?_, fun p hp => World.ownsRow.kept (hi p hp) hg (.inr (row_own hr (hi p hp))), World.ownsRow.kept hv hg (.inr (row_own hr hv)), hd⟩
  rw [List.set_append_right _ _ (by rw [OwL.flat V hV]; omega), OwL.flat V hV, Nat.add_sub_cancel_left] at hst
  exact hst
theorem OwL.setIns (h : OwL w B g cap vi O e) {N : Nat} (hN : N = O.length) (hg1 : w.grownBy w' vi.ownBlock) {vi' : Value} {l : Ls} (hv' : OwT w' B tS vi' l) (hbl : vi'.ownBlock = vi.ownBlock ∨ ∃ b, vi'.ownBlock = some b ∧ w.heap.size ≤ b) :
    OwL (w'.setCell ⟨g, N * 3 + 2, none⟩ vi') B g cap vi' O ⟨e.pos, e.del, l⟩ := by
  subst hN
  obtain ⟨V, hV, hr, hi, hv, hd⟩ := h
  have hne : ∀ p ∈ V, p.2.ownBlock = none ∨ p.2.ownBlock ≠ vi.ownBlock := by
    intro p hp
    cases hb : vi.ownBlock with
    | none =>
      cases hb2 : p.2.ownBlock with
      | none => exact .inl rfl
      | some b => exact .inr (by simp)
    | some b => exact .inr (hd p hp b hb)
  have hr1 := World.ownsRow.kept hr hg1 (.inr (fun h => row_own hr hv h.symm))
  have hi1 : ∀ p ∈ V, OwT w' B tS p.2 p.1.ins := fun p hp => World.ownsRow.kept (hi p hp) hg1 (hne p hp)
  obtain ⟨hst, hg⟩ := World.ownsRow.stored hr1 (O.length * 3 + 2) vi'
  refine ⟨V, hV, ?_, fun p hp => World.ownsRow.kept (hi1 p hp) hg (.inr (row_own hr1 (hi1 p hp))), World.ownsRow.kept hv' hg (.inr (row_own hr1 hv')), fun p hp b hb => ?_⟩
  · rw [List.set_append_right _ _ (by rw [OwL.flat V hV]; omega), OwL.flat V hV, Nat.add_sub_cancel_left] at hst
    exact hst
  · rcases hbl with h1 | ⟨b', h1, h2⟩
    · exact hd p hp b (h1 ▸ hb)
    · intro h3
      have := (World.ownsRow.lt (hi p hp) b h3).2
      rw [h1] at hb
      injection hb with hb
      omega
end
section
variable {w w' : World} {B g cap : Nat} {vi : Value} {O : List Ed} {e : Ed}
theorem OwL.grown (h : OwL w B g cap vi O e) {N : Nat} (hN : N = O.length) (hg1 : w.grownBy w' vi.ownBlock) (k : Nat) (hk : k < 3) : w'.cell? ⟨g, N * 3 + k, none⟩ = (edC e vi)[k]? ∧ w'.frozen? ⟨g, N * 3 + k, none⟩ = false := by
  subst hN
  obtain ⟨V, hV, hr, hi, hv, hd⟩ := h
  have hr1 := World.ownsRow.kept hr hg1 (.inr (fun h => row_own hr hv h.symm))
  refine ⟨?_, World.ownsRow.frozenAt hr1 _⟩
  rw [World.ownsRow.cellAt hr1 _ (by omega), List.getElem?_append_right (by rw [OwL.flat V hV]; omega), OwL.flat V hV, Nat.add_sub_cancel_left]
theorem OwL.drewN (h : OwL w B g cap vi O e) (n : Nat) : OwL (w.drewN n) B g cap vi O e := h
theorem OwL.drew (h : OwL w B g cap vi O e) : OwL w.drew B g cap vi O e := h
theorem OwL.ins (h : OwL w B g cap vi O e) : OwT w B tS vi e.ins := by
  obtain ⟨V, hV, hr, hi, hv, hd⟩ := h
  exact hv
end
/-- an edit is opened -/
theorem wpList_pushL {ops : Array Oper} {rest : List Oper} {o : Oper} {a : Act} {Q : Exit → Act → World → Prop} {W : World} (hgd : o.guard = none) (s x : Operand)
    (ho : o.op = .call { callee := .builtin .append, args := #[s, x], argTypes := #[23, 23] })
    (B : Nat) (w0 : World) (v : Value) (L : List Ed) (z : Int) (cs : Array Value) (hs : a.eval s = v) (hx : a.eval x = .slice (some ⟨W.heap.size, 0, none⟩) 1 1) (hc : cs = (edC ⟨z, 0, []⟩ (.slice none 0 0)).toArray)
    (hown : OwE W B v L) (M : Nat) (hM : M = L.length + 1) (hlen : L.length + 1 ≤ 1000000000) (hb : Below B w0 W) (hbase : B ≤ W.heap.size)
    (h : ∀ g cap w', OwL w' B g cap (.slice none 0 0) L ⟨z, 0, []⟩ → Below B w0 w' → wpList Try.prog ops Q rest (a.put o.dst (.slice (some ⟨g, 0, none⟩) M cap)) w') : wpList Try.prog ops Q (o :: rest) a (W.alloc (.cells cs tE)) := by
  subst hM
  refine wpList_plain hgd fun _ hK => ?_
  obtain ⟨i0, hi0, hz0, hz1, hz2⟩ := info_parts infoEd
  subst hc
  obtain ⟨V, hV, hr, hi⟩ := hown
  refine wp_append_own _ s x 23 ho B tE i0 (.agg #[.int .i64 0, .int .i64 0, .slice none 0 0]) 3 40 Try.underlying23 hi0 hz0 hz1 hz2 rfl (by omega) v L.length (V.flatMap pairC) hs (World.ownsRow.alloc hr _)
    ⟨W.heap.size, 0, none⟩ 1 1 (edC ⟨z, 0, []⟩ (.slice none 0 0)) hx rfl (fun j u hu => ?_) ?_ (by unfold maxLen; omega) (by omega) (by simp; omega) (fun v' w' h1 h2 _ => ?_)
  · rw [Addr.add_mid, (Row.fresh W tE (edC ⟨z, 0, []⟩ (.slice none 0 0)).toArray).cell]
    simpa using hu
  · intro u hu
    simp only [edC, List.mem_cons, List.not_mem_nil, or_false] at hu
    rcases hu with rfl | rfl | rfl <;> rfl
  · have hg := grownBy_back _ h2
    have key : ∀ (u : Value) (l : Ls), OwT W B tS u l → OwT w' B tS u l := by
      intro u l hu
      refine World.ownsRow.kept hu hg ?_
      rcases hu.2 with ⟨rfl, _⟩ | ⟨g, cap, cur, rfl, _, hgg, _⟩
      · exact .inl rfl
      · right
        intro he
        rcases hr.2 with ⟨rfl, _⟩ | ⟨g', cap', cur', rfl, _, hgg', _⟩
        · cases he
        · simp only [Value.ownBlock, Option.some.injEq] at he
          subst he
          rw [hgg] at hgg'
          simp [tS, tE] at hgg'
    obtain ⟨g, cap, rfl⟩ : ∃ g cap, v' = .slice (some ⟨g, 0, none⟩) (L.length + 1) cap := by
      rcases h1.2 with ⟨_, h0⟩ | ⟨g, cap, cur, hv, _⟩
      · omega
      · exact ⟨g, cap, hv⟩
    exact hK _ _ (h g cap w' ⟨V, hV, h1, fun p hp => key _ _ (hi p hp), OwT.nil _ _ _, fun p hp b hb => by cases hb⟩ (hb.grown hg hbase fun k hk => (World.ownsRow.lt hr k hk).1))
end Go.Proofs.Ytodicgopmcdjpaa.Df
