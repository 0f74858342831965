/-
  A heap of ids, on lists: what goes up, and down. No program is named here.
-/
import Derived.Test.YtlfncnnfpniigaaDH
namespace Go.Proofs.Ytlfncnnfpniigaa.Dq
open Go Tr

def swp (l : List Bs) (i j : Nat) : List Bs := (l.set i (l.getD j [])).set j (l.getD i [])
theorem swp_len (l : List Bs) (i j : Nat) : (swp l i j).length = l.length := by simp [swp]
theorem swp_at {l : List Bs} {i j : Nat} (hi : i < l.length) (hj : j < l.length) (k : Nat) : (swp l i j).getD k [] = if k = j then l.getD i [] else if k = i then l.getD j [] else l.getD k [] := by
  unfold swp
  simp only [List.getD_eq_getElem?_getD, List.getElem?_set, List.length_set]
  by_cases h1 : j = k
  · subst h1; simp [hj]
  · by_cases h2 : i = k
    · subst h2; simp [hi, h1, Ne.symm h1]
    · simp [h1, h2, Ne.symm h1, Ne.symm h2]
theorem swp_perm {l : List Bs} {i j : Nat} (hi : i < l.length) (hj : j < l.length) : (swp l i j).Perm l := by
  unfold swp
  rw [List.getD_eq_getElem?_getD, List.getD_eq_getElem?_getD, List.getElem?_eq_getElem hi, List.getElem?_eq_getElem hj]
  exact List.set_set_perm hi hj
theorem nlt_trans {a b c : Bs} (h1 : lt b a = false) (h2 : lt c b = false) : lt c a = false := by
  rw [Bool.eq_false_iff]
  intro h
  rcases lt_tri b a with k | k | k
  · rw [k] at h1; cases h1
  · subst k; rw [h] at h2; cases h2
  · rw [lt_trans h k] at h2; cases h2
abbrev par (k : Nat) : Nat := (k - 1) / 2
/-- of the first n none is less than its parent -/
def Hp (l : List Bs) (n : Nat) : Prop := ∀ k, 0 < k → k < n → lt (l.getD k []) (l.getD (par k) []) = false
theorem Hp.root {l : List Bs} {n : Nat} (h : Hp l n) : ∀ k, k < n → lt (l.getD k []) (l.getD 0 []) = false := by
  intro k
  induction k using Nat.strongRecOn with
  | _ k ih =>
    intro hk
    by_cases h0 : k = 0
    · subst h0; exact lt_irr _
    · have hp : par k < k := by show (k - 1) / 2 < k; omega
      exact nlt_trans (ih (par k) hp (by omega)) (h k (by omega) hk)
structure UpAt (l : List Bs) (j : Nat) : Prop where
  else_ : ∀ k, 0 < k → k < l.length → k ≠ j → lt (l.getD k []) (l.getD (par k) []) = false
  over : 0 < j → ∀ k, 0 < k → k < l.length → par k = j → lt (l.getD k []) (l.getD (par j) []) = false
theorem getD_snoc (l : List Bs) (x : Bs) (k : Nat) : (l ++ [x]).getD k [] = if k < l.length then l.getD k [] else if k = l.length then x else [] := by
  simp only [List.getD_eq_getElem?_getD]
  by_cases h : k < l.length
  · rw [List.getElem?_append_left h, if_pos h]
  · rw [List.getElem?_append_right (by omega), if_neg h]
    by_cases h2 : k = l.length
    · subst h2; simp
    · rw [if_neg h2, List.getElem?_eq_none (by simp; omega)]; rfl
theorem UpAt.start {l : List Bs} (h : Hp l l.length) (x : Bs) : UpAt (l ++ [x]) l.length := by
  refine ⟨fun k h0 hk hne => ?_, fun h0 k h1 hk hp => ?_⟩
  · rw [List.length_append, List.length_singleton] at hk
    have hkl : k < l.length := by omega
    rw [getD_snoc, getD_snoc, if_pos hkl, if_pos (by show (k - 1) / 2 < _; omega)]
    exact h k h0 hkl
  · rw [List.length_append, List.length_singleton] at hk
    have : (k - 1) / 2 = l.length := hp
    omega
theorem UpAt.root {l : List Bs} (h : UpAt l 0) : Hp l l.length := fun k h0 hk => h.else_ k h0 hk (by omega)
theorem UpAt.stop {l : List Bs} {j : Nat} (h : UpAt l j) (hs : lt (l.getD j []) (l.getD (par j) []) = false) : Hp l l.length := fun k h0 hk => by
  by_cases e : k = j
  · subst e; exact hs
  · exact h.else_ k h0 hk e
theorem UpAt.step {l : List Bs} {j : Nat} (h : UpAt l j) (h0 : 0 < j) (hj : j < l.length) (hs : lt (l.getD j []) (l.getD (par j) []) = true) : UpAt (swp l (par j) j) (par j) := by
  have hpl : par j < l.length := by show (j - 1) / 2 < _; omega
  have hpj : par j ≠ j := by show (j - 1) / 2 ≠ _; omega
  have hw := swp_at hpl hj
  refine ⟨fun k k0 hk hne => ?_, fun p0 k k0 hk hp => ?_⟩
  · rw [swp_len] at hk
    rw [hw, hw]
    by_cases e1 : k = j
    · subst e1
      rw [if_pos rfl, if_neg hpj, if_pos rfl]
      exact lt_asymm hs
    · rw [if_neg e1, if_neg hne]
      by_cases e2 : par k = j
      · rw [if_pos e2]
        exact h.over h0 k k0 hk e2
      · rw [if_neg e2]
        by_cases e3 : par k = par j
        · rw [if_pos e3]
          have := h.else_ k k0 hk e1
          rw [e3] at this
          exact nlt_trans (lt_asymm hs) this
        · rw [if_neg e3]
          exact h.else_ k k0 hk e1
  · rw [swp_len] at hk
    rw [hw, hw]
    have hpp : par (par j) ≠ par j := by show ((j - 1) / 2 - 1) / 2 ≠ (j - 1) / 2; have : 0 < (j - 1) / 2 := p0; omega
    have hpp2 : par (par j) ≠ j := by show ((j - 1) / 2 - 1) / 2 ≠ j; omega
    rw [if_neg hpp2, if_neg hpp]
    have hup := h.else_ (par j) p0 hpl hpj
    by_cases e1 : k = j
    · rw [if_pos e1]; exact hup
    · have e2 : k ≠ par j := fun e => by rw [e] at hp; exact hpp hp
      rw [if_neg e1, if_neg e2]
      have := h.else_ k k0 hk e1
      rw [hp] at this
      exact nlt_trans hup this
structure DownAt (l : List Bs) (i n : Nat) : Prop where
  else_ : ∀ k, 0 < k → k < n → par k ≠ i → lt (l.getD k []) (l.getD (par k) []) = false
  over : 0 < i → ∀ k, 0 < k → k < n → par k = i → lt (l.getD k []) (l.getD (par i) []) = false
/-- the lesser one of the two below -/
structure Lesser (l : List Bs) (i j n : Nat) : Prop where
  pos : 0 < j
  lt : j < n
  par : par j = i
  low : ∀ k, 0 < k → k < n → Dq.par k = i → Tr.lt (l.getD k []) (l.getD j []) = false
theorem DownAt.start {l : List Bs} {n : Nat} (h : Hp l (n + 1)) (hl : l.length = n + 1) : DownAt (swp l 0 n) 0 n := by
  have hw := swp_at (l := l) (i := 0) (j := n) (by omega) (by omega)
  refine ⟨fun k k0 hk hp => ?_, fun h0 => absurd h0 (by omega)⟩
  have hp' : (k - 1) / 2 ≠ 0 := hp
  rw [hw, hw, if_neg (by omega), if_neg (by omega), if_neg (by show (k - 1) / 2 ≠ n; omega), if_neg hp]
  exact h k k0 (by omega)
theorem DownAt.none {l : List Bs} {i n : Nat} (h : DownAt l i n) (hn : n ≤ 2 * i + 1) : Hp l n := fun k k0 hk => h.else_ k k0 hk (by show (k - 1) / 2 ≠ i; omega)
theorem DownAt.stop {l : List Bs} {i j n : Nat} (h : DownAt l i n) (hl : Lesser l i j n) (hs : lt (l.getD j []) (l.getD i []) = false) : Hp l n := fun k k0 hk => by
  by_cases e : par k = i
  · rw [e]; exact nlt_trans hs (hl.low k k0 hk e)
  · exact h.else_ k k0 hk e
theorem DownAt.step {l : List Bs} {i j n : Nat} (h : DownAt l i n) (hl : Lesser l i j n) (hn : n ≤ l.length) (hs : lt (l.getD j []) (l.getD i []) = true) : DownAt (swp l i j) j n := by
  obtain ⟨j0, hj, hp, hlow⟩ := hl
  have hp' : (j - 1) / 2 = i := hp
  have hij : i < j := by omega
  have hw := swp_at (l := l) (i := i) (j := j) (by omega) (by omega)
  refine ⟨fun k k0 hk hne => ?_, fun _ k k0 hk hk2 => ?_⟩
  · rw [hw, hw]
    rw [if_neg hne]
    by_cases e1 : k = j
    · subst e1
      rw [if_pos rfl, if_pos hp]
      exact lt_asymm hs
    · rw [if_neg e1]
      by_cases e2 : k = i
      · subst e2
        have hpk : par k ≠ k := by show (k - 1) / 2 ≠ k; omega
        rw [if_pos rfl, if_neg hpk]
        exact h.over k0 j j0 hj hp
      · rw [if_neg e2]
        by_cases e3 : par k = i
        · rw [if_pos e3]; exact hlow k k0 hk e3
        · rw [if_neg e3]; exact h.else_ k k0 hk e3
  · have hk3 : (k - 1) / 2 = j := hk2
    rw [hw, hw, if_neg (by omega), if_neg (by omega), hp, if_neg (by omega), if_pos rfl]
    have := h.else_ k k0 hk (by rw [hk2]; omega)
    rwa [hk2] at this
theorem lesser_left {l : List Bs} {i n : Nat} (h1 : 2 * i + 1 < n) (h2 : 2 * i + 2 < n → lt (l.getD (2 * i + 2) []) (l.getD (2 * i + 1) []) = false) : Lesser l i (2 * i + 1) n := by
  refine ⟨by omega, h1, by show (2 * i + 1 - 1) / 2 = i; omega, fun k k0 hk hp => ?_⟩
  have hp' : (k - 1) / 2 = i := hp
  rcases (by omega : k = 2 * i + 1 ∨ k = 2 * i + 2) with e | e
  · subst e; exact lt_irr _
  · subst e; exact h2 hk
theorem lesser_right {l : List Bs} {i n : Nat} (h1 : 2 * i + 2 < n) (h2 : lt (l.getD (2 * i + 2) []) (l.getD (2 * i + 1) []) = true) : Lesser l i (2 * i + 2) n := by
  refine ⟨by omega, h1, by show (2 * i + 2 - 1) / 2 = i; omega, fun k k0 hk hp => ?_⟩
  have hp' : (k - 1) / 2 = i := hp
  rcases (by omega : k = 2 * i + 1 ∨ k = 2 * i + 2) with e | e
  · subst e; exact lt_asymm h2
  · subst e; exact lt_irr _
/-- what is taken away: the least one -/
theorem heap_pop {l l2 : List Bs} {n : Nat} (hl : l.length = n + 1) (h : Hp l (n + 1)) (hl2 : l2.length = n + 1) (hp : l2.Perm l) (hlast : l2.getD n [] = l.getD 0 []) (h2 : Hp l2 n) :
    Hp (l2.take n) (l2.take n).length ∧ l.Perm (l2.getD n [] :: l2.take n) ∧ ∀ y ∈ l2.take n, lt y (l2.getD n []) = false := by
  have e : l2 = l2.take n ++ [l2.getD n []] := by
    conv => lhs; rw [← List.take_append_drop n l2]
    congr 1
    rw [List.drop_eq_getElem_cons (by omega), List.drop_eq_nil_of_le (by omega), List.getD_eq_getElem?_getD, List.getElem?_eq_getElem (by omega)]
    rfl
  have hper : l.Perm (l2.getD n [] :: l2.take n) := by
    refine hp.symm.trans ?_
    conv => lhs; rw [e]
    exact List.perm_append_comm (l₁ := l2.take n) (l₂ := [l2.getD n []])
  have hlen : (l2.take n).length = n := by rw [List.length_take]; omega
  refine ⟨fun k k0 hk => ?_, hper, fun y hy => ?_⟩
  · rw [hlen] at hk
    have h1 : ∀ k, k < n → (l2.take n).getD k [] = l2.getD k [] := fun k hk => by
      rw [List.getD_eq_getElem?_getD, List.getD_eq_getElem?_getD, List.getElem?_take, if_pos hk]
    rw [h1 k hk, h1 (par k) (by show (k - 1) / 2 < n; omega)]
    exact h2 k k0 hk
  · have hm : y ∈ l := hper.mem_iff.2 (List.mem_cons_of_mem _ hy)
    obtain ⟨k, hk⟩ := List.mem_iff_getElem?.1 hm
    have hkl := (List.getElem?_eq_some_iff.1 hk).1
    have := h.root k (by omega)
    rw [hlast]
    rw [List.getD_eq_getElem?_getD, hk] at this
    exact this
end Go.Proofs.Ytlfncnnfpniigaa.Dq
