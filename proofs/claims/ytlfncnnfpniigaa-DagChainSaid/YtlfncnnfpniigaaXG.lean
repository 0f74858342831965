/-
  The heap of those that may come in, in memory: its methods.
-/
import Derived.RegionTactic
import Derived.BigQuiet
import Derived.Test.YtlfncnnfpniigaaXB
import Derived.Test.YtlfncnnfpniigaaXD
namespace Go.Proofs.Ytlfncnnfpniigaa.Dq
open Go Go.RowKit Kt Kg Lw Tr

abbrev tRdy : TypeId := 74
theorem OwT.set {w : World} {B g cap n : Nat} {l : List Bs} (h : OwT w B tId (.slice (some ⟨g, 0, none⟩) n cap) l) (i : Nat) (x : Bs) : OwT (w.setCell ⟨g, i, none⟩ (encStr x)) B tId (.slice (some ⟨g, 0, none⟩) n cap) (l.set i x) := by
  refine ⟨by simp [texts_len], ?_⟩
  rcases h.2 with ⟨h1, _⟩ | ⟨g', cap', cur, hv, hB, hg, hnc, hcm, hs, ht⟩
  · cases h1
  · injection hv with e1 e2 e3
    injection e1 with e1
    injection e1 with e1 _ _
    subst e1
    subst e3
    subst e2
    rw [Nat.mul_one] at ht hs
    refine .inr ⟨g, cap, cur.setIfInBounds i (encStr x), by rw [List.length_set], hB, ?_, by rw [List.length_set]; exact hnc, hcm, by rw [Nat.mul_one]; simpa using hs, ?_⟩
    · rw [Go.Sort.setCell_eq]
      show (w.heap.modify g _)[g]? = _
      rw [Array.getElem?_modify, if_pos rfl, hg]
      rfl
    · rw [Nat.mul_one, List.length_set, Array.toList_setIfInBounds]
      have e : texts (l.set i x) = (texts l).set i (encStr x) := by simp [texts, List.map_set]
      rw [e, ← ht, List.take_set]
theorem rdy_cell {w : World} {B g cap n : Nat} {l : List Bs} (h : OwT w B tId (.slice (some ⟨g, 0, none⟩) n cap) l) {k : Nat} (hk : k < l.length) : w.cell? ⟨g, k, none⟩ = some (encStr (l.getD k [])) ∧ w.frozen? ⟨g, k, none⟩ = false := by
  have hn : n = l.length := by
    rcases h.2 with ⟨h1, _⟩ | ⟨g', cap', cur, hv, _⟩
    · cases h1
    · injection hv
  subst hn
  obtain ⟨k1, k2, _⟩ := row_holds h
  have := k1 k (by simpa using hk)
  have e : l.toArray[k]! = l.getD k [] := by rw [List.getElem!_toArray, List.getD_eq_getElem?_getD, List.getElem!_eq_getElem?_getD]; rfl
  rw [Nat.zero_add, e] at this
  exact this
set_option maxHeartbeats 2000000 in
theorem hpless_any {w : World} {B g cap : Nat} {l : List Bs} (h : OwT w B tId (.slice (some ⟨g, 0, none⟩) l.length cap) l) (i j : Nat) (hi : i < l.length) (hj : j < l.length) (_hl : l.length ≤ 1000) :
    Calls Try.prog 96 #[.slice (some ⟨g, 0, none⟩) l.length cap, .int .i64 i, .int .i64 j] w fun y w' => y = .returned (.bool (lt (l.getD i []) (l.getD j []))) ∧ ∃ q, w' = w.drewN q := by
  have ci := (rdy_cell h hi).1
  have cj := (rdy_cell h hj).1
  obtain ⟨n, hn⟩ : ∃ n, n = l.length := ⟨_, rfl⟩
  rw [← hn] at hi hj ⊢
  obtain ⟨x, hx⟩ : ∃ x, x = l.getD i [] := ⟨_, rfl⟩
  obtain ⟨z, hz⟩ : ∃ z, z = l.getD j [] := ⟨_, rfl⟩
  rw [← hx] at ci ⊢
  rw [← hz] at cj ⊢
  clear h hn hx hz
  go_enter Try.func96, Try.ntmps96
  go_wp2
  go_quiet (fail)
  go_wp2
  go_ret
  exact ⟨by simp, nq, rfl⟩
set_option maxHeartbeats 2000000 in
theorem hpswap_any {w : World} {B g cap : Nat} {l : List Bs} (h : OwT w B tId (.slice (some ⟨g, 0, none⟩) l.length cap) l) (i j : Nat) (hi : i < l.length) (hj : j < l.length) (_hl : l.length ≤ 1000) :
    Calls Try.prog 97 #[.slice (some ⟨g, 0, none⟩) l.length cap, .int .i64 i, .int .i64 j] w fun y w' => y = .returned (.tuple #[]) ∧ OwT w' B tId (.slice (some ⟨g, 0, none⟩) l.length cap) (swp l i j) ∧ w.grownBy w' (some g) := by
  have HO := hide (show OwT ((w.setCell ⟨g, i, none⟩ (encStr (l.getD j []))).setCell ⟨g, j, none⟩ (encStr (l.getD i []))) B tId (.slice (some ⟨g, 0, none⟩) l.length cap) (swp l i j) from OwT.set (OwT.set h i _) j _)
  have HG := hide (show w.grownBy ((w.setCell ⟨g, i, none⟩ (encStr (l.getD j []))).setCell ⟨g, j, none⟩ (encStr (l.getD i []))) (some g) from
    ⟨rfl, rfl, rfl, by simp [World.setCell], fun k _ hk => by
      have hk' : k ≠ g := fun e => hk (by rw [e])
      exact (Below.heap_setCell _ _ _ k hk').trans (Below.heap_setCell _ _ _ k hk')⟩)
  obtain ⟨ci, fi⟩ := rdy_cell h hi
  obtain ⟨cj, fj⟩ := rdy_cell h hj
  obtain ⟨n, hn⟩ : ∃ n, n = l.length := ⟨_, rfl⟩
  rw [← hn] at hi hj HO ⊢
  obtain ⟨x, hx⟩ : ∃ x, x = l.getD i [] := ⟨_, rfl⟩
  obtain ⟨z, hz⟩ : ∃ z, z = l.getD j [] := ⟨_, rfl⟩
  rw [← hx] at ci HO HG
  rw [← hz] at cj HO HG
  obtain ⟨v', hy'⟩ := cell?_setCell_some (w := w) (p := ⟨g, i, none⟩) (x := encStr z) (q := ⟨g, j, none⟩) cj
  clear h hn hx hz
  go_enter Try.func97, Try.ntmps97
  go_wp2
  go_region
  all_goals (try go_wp2)
  all_goals go_end0
  all_goals exact ⟨rfl, HO.out, ⟨HG.out.os, HG.out.tape, HG.out.output, HG.out.size, HG.out.block⟩⟩
/-! ### The methods, by the pointer -/
noncomputable def mrow (nm : String) : Option (Bool × Option (FuncId × Bool)) := (Try.prog.info? 76).bind fun i => (i.methods.find? (·.name == nm)).map fun m => (m.path.isEmpty, m.func)
theorem mrow_len : mrow "Len" = some (true, some (95, false)) := by kernel_rfl
theorem mrow_less : mrow "Less" = some (true, some (96, false)) := by kernel_rfl
theorem mrow_swap : mrow "Swap" = some (true, some (97, false)) := by kernel_rfl
theorem mrow_push : mrow "Push" = some (true, some (99, true)) := by kernel_rfl
theorem mrow_pop : mrow "Pop" = some (true, some (98, true)) := by kernel_rfl
theorem wrap_ok (w : World) (q : Nat) (t : TypeId) (s : String) : (Builtin.ssaWrapNilChk_ #[t] t #[pt q, strVal "", strVal s]).run Try.prog w = .ok (pt q) w := rfl
theorem meth_val {nm : String} {f : FuncId} (hm : mrow nm = some (true, some (f, false))) {w : World} {q : Nat} {v : Value} (hc : w.cell? ⟨q, 0, none⟩ = some v) (n : Nat) : (method (n + 1) 76 (pt q) nm).run Try.prog w = .ok (f, v) w := by
  unfold mrow at hm
  cases hi : Try.prog.info? 76 with
  | none => rw [hi] at hm; cases hm
  | some i =>
    rw [hi] at hm
    simp only [Option.bind_some] at hm
    cases hf : i.methods.find? (·.name == nm) with
    | none => rw [hf] at hm; cases hm
    | some m =>
      rw [hf] at hm
      simp only [Option.map_some, Option.some.injEq, Prod.mk.injEq] at hm
      obtain ⟨h1, h2⟩ := hm
      have hp : m.path = #[] := by simpa using h1
      unfold method
      simp [typeInfo, hi, hf, hp, h2, follow, receiverAt, Place.get, run_underlying Try.underlying76, wrap_ok, loadVar, show (asAddr (pt q)).run Try.prog w = .ok ⟨q, 0, none⟩ w from rfl, hc, Result.andThen]
theorem meth_ptr {nm : String} {f : FuncId} (hm : mrow nm = some (true, some (f, true))) (w : World) (q : Nat) (n : Nat) : (method (n + 1) 76 (pt q) nm).run Try.prog w = .ok (f, pt q) w := by
  unfold mrow at hm
  cases hi : Try.prog.info? 76 with
  | none => rw [hi] at hm; cases hm
  | some i =>
    rw [hi] at hm
    simp only [Option.bind_some] at hm
    cases hf : i.methods.find? (·.name == nm) with
    | none => rw [hf] at hm; cases hm
    | some m =>
      rw [hf] at hm
      simp only [Option.map_some, Option.some.injEq, Prod.mk.injEq] at hm
      obtain ⟨h1, h2⟩ := hm
      have hp : m.path = #[] := by simpa using h1
      unfold method
      simp [typeInfo, hi, hf, hp, h2, follow, receiverAt, Place.get, run_underlying Try.underlying76, Result.andThen]
/-! ### The heap -/
/-- a heap lies in the blocks of S: its variable, its row -/
structure HpIn (w : World) (S : Nat → Prop) (q : Nat) (l : List Bs) : Prop where
  row : ∃ v, w.heap[q]? = some (.cells #[v] tRdy (0, 0)) ∧ OwT w 0 tId v l ∧ ∀ g, v.ownBlock = some g → S g
  own : S q
  lt : ∀ k, S k → k < w.heap.size
theorem HpIn.cell {w : World} {S : Nat → Prop} {q : Nat} {l : List Bs} (h : HpIn w S q l) : ∃ A c, w.cell? ⟨q, 0, none⟩ = some (.slice A l.length c) ∧ w.frozen? ⟨q, 0, none⟩ = false ∧ OwT w 0 tId (.slice A l.length c) l ∧
    w.heap[q]? = some (.cells #[.slice A l.length c] tRdy (0, 0)) ∧ (∀ g, Value.ownBlock (.slice A l.length c) = some g → S g ∧ g ≠ q) ∧ (l ≠ [] → ∃ g, A = some ⟨g, 0, none⟩) := by
  obtain ⟨⟨v, h1, h2, h3⟩, _⟩ := h
  obtain ⟨A, c, rfl, _⟩ := h2.vs
  refine ⟨A, c, by simp [World.cell?, h1], by simp [World.frozen?, h1], h2, h1, fun g hg => ⟨h3 g hg, fun e => ?_⟩, fun hne => ?_⟩
  · rcases h2.2 with ⟨hv, h0⟩ | ⟨g', cap, cur, hv, _, hg', _⟩
    · rw [hv] at hg; cases hg
    · rw [hv] at hg
      have e2 : g' = g := by simpa [Value.ownBlock] using hg
      subst e2
      subst e
      rw [h1] at hg'
      injection hg' with hg'
      injection hg' with _ e4 _
      exact absurd e4 (by decide)
  · rcases h2.2 with ⟨_, h0⟩ | ⟨g, cap, cur, hv, _, hg, _⟩
    · exact absurd (List.eq_nil_of_length_eq_zero h0) hne
    · injection hv with e1 e2 e3
      exact ⟨g, e1⟩
theorem HpIn.move {w w' : World} {S : Nat → Prop} {q : Nat} {l : List Bs} (h : HpIn w S q l) (hb : ∀ k, S k → w'.heap[k]? = w.heap[k]?) (hs : w.heap.size ≤ w'.heap.size) : HpIn w' S q l := by
  obtain ⟨⟨v, h1, h2, h3⟩, h4, h5⟩ := h
  refine ⟨⟨v, (hb q h4).trans h1, ⟨h2.1, ?_⟩, h3⟩, h4, fun k hk => Nat.lt_of_lt_of_le (h5 k hk) hs⟩
  rcases h2.2 with k | ⟨g, cap, cur, hv, k1, k2, k3⟩
  · exact .inl k
  · exact .inr ⟨g, cap, cur, hv, k1, (hb g (h3 g (by rw [hv]; rfl))).trans k2, k3⟩
theorem HpIn.drewN {w : World} {S : Nat → Prop} {q : Nat} {l : List Bs} (h : HpIn w S q l) (n : Nat) : HpIn (w.drewN n) S q l := h.move (fun _ _ => rfl) (Nat.le_refl _)
/-- its row has turned -/
theorem HpIn.turn {w w' : World} {S : Nat → Prop} {q : Nat} {l l' : List Bs} {g n c : Nat} (h : HpIn w S q l) (hc : w.heap[q]? = some (.cells #[.slice (some ⟨g, 0, none⟩) n c] tRdy (0, 0))) (hq : S g ∧ g ≠ q)
    (ho : OwT w' 0 tId (.slice (some ⟨g, 0, none⟩) n c) l') (hg : w.grownBy w' (some g)) : HpIn w' S q l' :=
  ⟨⟨_, (hg.block q (h.lt q h.own) (fun e => hq.2 (by injection e with e; exact e.symm))).trans hc, ho, fun g' hg' => by
    have : g = g' := by simpa [Value.ownBlock] using hg'
    rw [← this]; exact hq.1⟩, h.own, fun k hk => Nat.lt_of_lt_of_le (h.lt k hk) hg.size⟩
end Go.Proofs.Ytlfncnnfpniigaa.Dq
