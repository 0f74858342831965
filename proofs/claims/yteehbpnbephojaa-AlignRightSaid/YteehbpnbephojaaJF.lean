/-
  Which edits belong together, on lists: marks that go from one to what it meets.
-/
import Derived.Test.YteehbpnbephojaaJC
namespace Go.Proofs.Yteehbpnbephojaa.Al
open Go.Proofs.Yteehbpnbephojaa.Df

section
variable (n : Nat) (mt : Nat → Nat → Bool)
/-- by so many steps, each from one to one that it meets -/
def Rch : Nat → Nat → Nat → Prop
  | 0, j, i => i = j
  | t + 1, j, i => Rch t j i ∨ ∃ k, k < n ∧ mt i k = true ∧ Rch t j k
/-- in each set that is closed by what meets -/
def Con (i j : Nat) : Prop := ∀ S : Nat → Prop, (∀ x y, x < n → y < n → S x → mt x y = true → S y) → S i → S j
/-- marks: behind t turns, i of the next one, and k of i's -/
structure Mk (t i k : Nat) (L : List Int) : Prop where
  len : L.length = n
  dom : ∀ x, x < n → ∃ a : Nat, a < n ∧ L.getD x 0 = a ∧ Con n mt x a
  pr : ∀ x, x < n → ∀ j, j < n → Rch n mt t j x → L.getD x 0 ≤ j
  rows : ∀ x, x < i → x < n → ∀ j, j < n → Rch n mt (t + 1) j x → L.getD x 0 ≤ j
  cells : i < n → ∀ y, y < k → y < n → mt i y = true → ∀ j, j < n → Rch n mt t j y → L.getD i 0 ≤ j
end
section
variable {n : Nat} {mt : Nat → Nat → Bool}
theorem Rch.add {t j i : Nat} (h : Rch n mt t j i) : ∀ u, Rch n mt (t + u) j i
  | 0 => h
  | u + 1 => .inl (Rch.add h u)
theorem Rch.le {t u j i : Nat} (h : Rch n mt t j i) (hu : t ≤ u) : Rch n mt u j i := by
  have := h.add (u - t)
  rwa [show t + (u - t) = u by omega] at this
theorem Rch.trans : ∀ {t u i j k : Nat}, Rch n mt t j i → Rch n mt u k j → Rch n mt (u + t) k i
  | 0, u, i, j, k, h, h' => by
    obtain rfl : i = j := h
    exact h'
  | t + 1, u, i, j, k, h, h' => by
    rcases h with h | ⟨x, hx, hm, h⟩
    · exact .inl (h.trans h')
    · exact .inr ⟨x, hx, hm, h.trans h'⟩
theorem Rch.one {i j : Nat} (hj : j < n) (h : mt i j = true) : Rch n mt 1 j i := .inr ⟨j, hj, h, rfl⟩
theorem Rch.symm (hs : ∀ a b, mt a b = mt b a) : ∀ {t i j : Nat}, i < n → j < n → Rch n mt t j i → Rch n mt t i j
  | 0, _, _, _, _, h => Eq.symm h
  | t + 1, i, j, hi, hj, h => by
    rcases h with h | ⟨k, hk, hm, h⟩
    · exact .inl (h.symm hs hi hj)
    · have := (h.symm hs hk hj).trans (Rch.one hi (by rw [hs]; exact hm))
      rwa [Nat.add_comm 1 t] at this
theorem Con.refl (i : Nat) : Con n mt i i := fun _ _ h => h
theorem Con.step {i k a : Nat} (hi : i < n) (hk : k < n) (h : mt i k = true) (hc : Con n mt k a) : Con n mt i a := fun S hS hi' => hc S hS (hS i k hi hk hi' h)
theorem Mk.start {L : List Int} (hl : L.length = n) (hL : ∀ x, x < n → L.getD x 0 = x) : Mk n mt 0 0 0 L :=
  ⟨hl, fun x hx => ⟨x, hx, hL x hx, Con.refl x⟩, fun x hx j _ h => by
    obtain rfl : x = j := h
    rw [hL x hx]; exact Int.le_refl _, fun x hx => absurd hx (Nat.not_lt_zero _), fun _ y hy => absurd hy (Nat.not_lt_zero _)⟩
theorem getD_set (L : List Int) (i : Nat) (v : Int) (x : Nat) : (L.set i v).getD x 0 = if x = i ∧ i < L.length then v else L.getD x 0 := by
  rw [List.getD_eq_getElem?_getD, List.getElem?_set, List.getD_eq_getElem?_getD]
  by_cases h : i = x
  · subst h
    by_cases hi : i < L.length
    · simp [hi]
    · simp [hi]
  · rw [if_neg h, if_neg (fun e => h e.1.symm)]
theorem Mk.yes {t i k : Nat} {L : List Int} {v : Int} (h : Mk n mt t i k L) (hi : i < n) (hk : k < n) (hm : mt i k = true) (hv : v = min (L.getD i 0) (L.getD k 0)) : Mk n mt t i (k + 1) (L.set i v) := by
  have hle : ∀ x, (L.set i v).getD x 0 ≤ L.getD x 0 := fun x => by
    rw [getD_set]
    split
    · rename_i e; rw [e.1]; omega
    · exact Int.le_refl _
  have hown : (L.set i v).getD i 0 = v := by rw [getD_set, if_pos ⟨rfl, by rw [h.len]; exact hi⟩]
  refine ⟨by rw [List.length_set]; exact h.len, fun x hx => ?_, fun x hx j hj hr => Int.le_trans (hle x) (h.pr x hx j hj hr), fun x hx hx' j hj hr => Int.le_trans (hle x) (h.rows x hx hx' j hj hr), fun _ y hy hy' hmy j hj hr => ?_⟩
  · by_cases hxi : x = i
    · subst hxi
      rw [hown]
      rcases Int.le_total (L.getD x 0) (L.getD k 0) with hc | hc
      · rw [hv, Int.min_eq_left hc]; exact h.dom x hx
      · rw [hv, Int.min_eq_right hc]
        obtain ⟨a, h1, h2, h3⟩ := h.dom k hk
        exact ⟨a, h1, h2, h3.step hx hk hm⟩
    · rw [getD_set, if_neg (fun e => hxi e.1)]
      exact h.dom x hx
  · rcases Nat.lt_or_ge y k with hlt | hge
    · exact Int.le_trans (hle i) (h.cells hi y hlt hy' hmy j hj hr)
    · obtain rfl : y = k := by omega
      rw [hown, hv]
      exact Int.le_trans (Int.min_le_right _ _) (h.pr y hy' j hj hr)
theorem Mk.no {t i k : Nat} {L : List Int} (h : Mk n mt t i k L) (hm : mt i k = false) : Mk n mt t i (k + 1) L :=
  ⟨h.len, h.dom, h.pr, h.rows, fun hi y hy hy' hmy j hj hr => by
    rcases Nat.lt_or_ge y k with hlt | hge
    · exact h.cells hi y hlt hy' hmy j hj hr
    · obtain rfl : y = k := by omega
      rw [hm] at hmy; cases hmy⟩
theorem Mk.row {t i : Nat} {L : List Int} (h : Mk n mt t i n L) : Mk n mt t (i + 1) 0 L :=
  ⟨h.len, h.dom, h.pr, fun x hx hx' j hj hr => by
    rcases Nat.lt_or_ge x i with hlt | hge
    · exact h.rows x hlt hx' j hj hr
    · obtain rfl : x = i := by omega
      rcases hr with hr | ⟨k, hk, hm, hr⟩
      · exact h.pr x hx' j hj hr
      · exact h.cells hx' k hk hk hm j hj hr, fun _ y hy => absurd hy (Nat.not_lt_zero _)⟩
theorem Mk.turn {t : Nat} {L : List Int} (h : Mk n mt t n 0 L) : Mk n mt (t + 1) 0 0 L :=
  ⟨h.len, h.dom, fun x hx j hj hr => h.rows x hx hx j hj hr, fun _x hx => absurd hx (Nat.not_lt_zero _), fun _ _y hy => absurd hy (Nat.not_lt_zero _)⟩
/-- marks are one where they should -/
theorem Mk.same {L : List Int} (h : Mk n mt n 0 0 L) (hs : ∀ a b, mt a b = mt b a) (C : Nat → Prop) (hC : ∀ x y, x < n → y < n → C x → mt x y = true → C y)
    (hR : ∀ i j, i < n → j < n → C i → C j → Rch n mt n j i) {i j : Nat} (hi : i < n) (hj : j < n) (hCi : C i) : L.getD j 0 = L.getD i 0 ↔ C j := by
  obtain ⟨a, ha, ea, ca⟩ := h.dom i hi
  obtain ⟨b, hb, eb, cb⟩ := h.dom j hj
  have hCa : C a := ca C hC hCi
  constructor
  · intro e
    obtain rfl : b = a := by omega
    refine Classical.byContradiction fun hn => ?_
    refine cb (fun x => ¬ C x) (fun x y hx hy hnx hm hy' => hnx (hC y x hy hx hy' (by rw [hs]; exact hm))) hn hCa
  · intro hCj
    have hCb : C b := cb C hC hCj
    have h1 := h.pr j hj a ha (hR j a hj ha hCj hCa)
    have h2 := h.pr i hi b hb (hR i b hi hb hCi hCb)
    omega
end
end Go.Proofs.Yteehbpnbephojaa.Al
