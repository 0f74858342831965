/-
  The reference's Parse, on lists alone: what its rounds do is what the reader does.
-/
import Derived.Test.YtnehgogajghefaaDoorVI
import Derived.Test.YtnehgogajghefaaDoorQ10
namespace Go.Proofs.YtnehgogajghefaaDoor.Un
open Go Df Li Hu

/-- where the line of no end can't stand next -/
def Nx (V : List Hk) (r : Ls) : Prop := r.head? = some markB → Lib.hasSuffix (ahd V) [10] = false
theorem noEnd_no {s : St} {x : List UInt8} {r : Ls} (h : Nx s.rv (x :: r)) : noEnd s x = none := by
  unfold noEnd
  cases hv : s.rv with
  | nil => rfl
  | cons e V =>
    simp only
    rw [if_neg]
    rintro ⟨rfl, h2⟩
    have h1 := h rfl
    rw [hv, h2] at h1
    cases h1
theorem fin_no {s : St} {x : List UInt8} (h : step s x = none) (r : Ls) (n : Nat) : fin (run s (x :: r) n) = ([], n + 1, 3) := by
  have e : run s (x :: r) n = (n + 1, none) := by rw [run, h]
  rw [e]; rfl
theorem out_end (V : List Hk) (n : Nat) : fin (run ⟨V, 0, 0⟩ [] n) = (V.reverse, 0, 0) := by
  rw [run, fin]; simp
theorem out_no {V : List Hk} {x : List UInt8} {r : Ls} (hn : Nx V (x :: r)) (hx : hd x = none) (n : Nat) : fin (run ⟨V, 0, 0⟩ (x :: r) n) = ([], n + 1, 3) := by
  have h3 : stepH ⟨V, 0, 0⟩ x = noEnd ⟨V, 0, 0⟩ x := by
    unfold stepH
    rw [hx]
  have h1 : step ⟨V, 0, 0⟩ x = none := by
    rw [step, if_pos ⟨rfl, rfl⟩, h3]
    exact noEnd_no (s := ⟨V, 0, 0⟩) hn
  exact fin_no h1 r n
theorem out_yes {V : List Hk} {x : List UInt8} {h : Hk} (hx : hd x = some h) (r : Ls) (n : Nat) : run ⟨V, 0, 0⟩ (x :: r) n = run ⟨h :: V, h.an, h.bn⟩ r (n + 1) :=
  run_some (step_head (s := ⟨V, 0, 0⟩) rfl rfl hx) r n
/-- the reader in the midst of a hunk -/
def mid (a an b bn : Int) (ls : Ls) (V : List Hk) : St := ⟨⟨a, an, b, bn, ls⟩ :: V, an - (many 45 ls : Int), bn - (many 43 ls : Int)⟩
theorem mid_nil (a an b bn : Int) (V : List Hk) : (⟨⟨a, an, b, bn, []⟩ :: V, an, bn⟩ : St) = mid a an b bn [] V := by
  simp [mid, many]
theorem mid_full {a an b bn : Int} {ls : Ls} {V : List Hk} (h1 : an = many 45 ls) (h2 : bn = many 43 ls) : mid a an b bn ls V = ⟨⟨a, an, b, bn, ls⟩ :: V, 0, 0⟩ := by
  rw [mid, ← h1, ← h2]; simp
theorem in_short {a an b bn : Int} {ls : Ls} (h : (many 45 ls : Int) < an ∨ (many 43 ls : Int) < bn) (V : List Hk) (n : Nat) : fin (run (mid a an b bn ls V) [] n) = ([], n + 1, 2) := by
  rw [run, fin]
  simp only
  rw [if_neg]
  simp only [mid]
  omega
/-- may a line stand behind a hunk's lines? -/
def fitB (an bn : Int) (ls : Ls) (x : List UInt8) : Prop := closed x = true ∧ (sg x = 32 ∨ sg x = 45 ∨ sg x = 43) ∧ ¬ (sg x = 45 ∧ sg (ls.getLast?.getD []) = 43) ∧ (many 45 (ls ++ [x]) : Int) ≤ an ∧ (many 43 (ls ++ [x]) : Int) ≤ bn
theorem in_yes {a an b bn : Int} {ls : Ls} {x : List UInt8} (_h : (many 45 ls : Int) < an ∨ (many 43 ls : Int) < bn) (hf : fitB an bn ls x) (V : List Hk) (r : Ls) (n : Nat) :
    run (mid a an b bn ls V) (x :: r) n = run (mid a an b bn (ls ++ [x]) V) r (n + 1) := by
  obtain ⟨h1, h2, h3, h4, h5⟩ := hf
  obtain ⟨m1, m2, m3, _, _⟩ := sds_many x h2
  rw [many_append] at h4 h5
  refine run_some ?_ r n
  rw [step, if_neg (by simp only [mid]; omega), stepL, if_neg m3]
  have e : (if closed x = true ∧ ¬ (sg x = 45 ∧ sg (ahd (⟨a, an, b, bn, ls⟩ :: V)) = 43) ∧ (sds x).1 ≤ an - (many 45 ls : Int) ∧ (sds x).2 ≤ bn - (many 43 ls : Int) then some (⟨⟨a, an, b, bn, ls ++ [x]⟩ :: V, an - (many 45 ls : Int) - (sds x).1, bn - (many 43 ls : Int) - (sds x).2⟩ : St) else none) = some (mid a an b bn (ls ++ [x]) V) := by
    rw [if_pos ⟨h1, h3, by omega, by omega⟩, mid, many_append, many_append]
    congr 2 <;> omega
  exact e
theorem in_no {a an b bn : Int} {ls : Ls} {x : List UInt8} {V : List Hk} {r : Ls} (h : (many 45 ls : Int) < an ∨ (many 43 ls : Int) < bn) (hf : ¬ fitB an bn ls x) (hn : Nx (⟨a, an, b, bn, ls⟩ :: V) (x :: r)) (n : Nat) :
    fin (run (mid a an b bn ls V) (x :: r) n) = ([], n + 1, 3) := by
  have h1 : step (mid a an b bn ls V) x = none := by
    rw [step, if_neg (by simp only [mid]; omega), stepL]
    by_cases hs : sg x = 32 ∨ sg x = 45 ∨ sg x = 43
    · obtain ⟨m1, m2, m3, _, _⟩ := sds_many x hs
      rw [if_neg m3]
      have e : (if closed x = true ∧ ¬ (sg x = 45 ∧ sg (ahd (⟨a, an, b, bn, ls⟩ :: V)) = 43) ∧ (sds x).1 ≤ an - (many 45 ls : Int) ∧ (sds x).2 ≤ bn - (many 43 ls : Int) then some (⟨⟨a, an, b, bn, ls ++ [x]⟩ :: V, an - (many 45 ls : Int) - (sds x).1, bn - (many 43 ls : Int) - (sds x).2⟩ : St) else none) = none := by
        rw [if_neg]
        rintro ⟨c1, c2, c3, c4⟩
        exact hf ⟨c1, hs, c2, by rw [many_append]; omega, by rw [many_append]; omega⟩
      exact e
    · rw [if_pos (by rw [sds_no x hs]; rfl)]
      exact noEnd_no (s := mid a an b bn ls V) hn
  exact fin_no h1 r n
/-- what a line is that fits -/
theorem fit_parts {an bn : Int} {ls : Ls} {x : List UInt8} (hf : fitB an bn ls x) (hx : lns x = [x]) : ∃ y, x = y ++ [10] ∧ y ≠ [] ∧ 10 ∉ y ∧ sg y = sg x := by
  obtain ⟨h1, h2, _⟩ := hf
  obtain ⟨y, b, rfl, hy⟩ := one_parts hx
  rw [closed_one, beq_iff_eq] at h1
  subst h1
  have hne : y ≠ [] := by
    rintro rfl
    revert h2
    decide
  exact ⟨y, rfl, hne, hy, (sg_snoc 10 hne).symm⟩
theorem in_mark (a an b bn : Int) (ls : Ls) (y : List UInt8) (hy : y ≠ []) (V : List Hk) (r : Ls) (n : Nat) :
    run (mid a an b bn (ls ++ [y ++ [10]]) V) (markB :: r) n = run (mid a an b bn (ls ++ [y]) V) r (n + 1) := by
  have h1 := sg_snoc 10 hy
  refine run_some ?_ r n
  rw [mid, step_mark, mid, many_append, many_append, many_append, many_append, many_one 45 _ _ h1, many_one 43 _ _ h1]
theorem nx_mark (a an b bn : Int) (ls : Ls) {y : List UInt8} (hy : 10 ∉ y) (V : List Hk) (r : Ls) : Nx (⟨a, an, b, bn, ls ++ [y]⟩ :: V) r := by
  intro _
  have h1 : ahd (⟨a, an, b, bn, ls ++ [y]⟩ :: V) = y := by simp [ahd]
  rw [h1]
  cases hs : Lib.hasSuffix y [10] with
  | false => rfl
  | true =>
    exfalso
    unfold Lib.hasSuffix at hs
    exact hy ((List.isSuffixOf_iff_suffix.1 hs).subset (by simp))
theorem nx_head (h : Hk) (hl : h.lines = []) (V : List Hk) (r : Ls) : Nx (h :: V) r := by
  intro _
  have h1 : ahd (h :: V) = [] := by simp [ahd, hl]
  rw [h1]
  exact suffix_nil
theorem nx_other {V : List Hk} {r : Ls} (h : r.head? ≠ some markB) : Nx V r := fun h1 => absurd h1 h
end Go.Proofs.YtnehgogajghefaaDoor.Un
