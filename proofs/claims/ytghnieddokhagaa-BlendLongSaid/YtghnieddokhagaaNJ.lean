/-
  Two sides' trees, together, on lists: a new long file on both sides.
-/
import Derived.Test.YtghnieddokhagaaQTA
import Derived.Test.YtghnieddokhagaaQMF
namespace Go.Proofs.Ytghnieddokhagaa.Tr
open Go Go.Proofs.Ytghnieddokhagaa.Li Go.Proofs.Ytghnieddokhagaa.Df Al

/-- both texts, with marks -/
def marked (p q : Bs) : Bs := mk7 60 ++ (p ++ [10]) ++ mk7 124 ++ mk7 61 ++ (q ++ [10]) ++ mk7 62
/-- what stands there -/
def want (p q : Bs) : Bs := if 65536 < (marked p q).length then (if lt p q then q else p) else marked p q
theorem marked_len (p q : Bs) : (marked p q).length = p.length + q.length + 34 := by
  unfold marked
  simp only [List.length_append, List.length_cons, List.length_nil]
  have : ∀ c, (mk7 c).length = 8 := fun c => rfl
  rw [this, this, this, this]
  omega
theorem one_long (f : Bs) {p q : Bs} (h : p ≠ q) (hp : p ≠ []) (hq : q ≠ []) (h1 : ∀ c ∈ p, c ≠ 10 ∧ c ≠ 0) (h2 : ∀ c ∈ q, c ≠ 10 ∧ c ≠ 0) :
    one mgT [] [⟨f, p⟩] [⟨f, q⟩] f = (want p q, true, true) := by
  have e1 : get [⟨f, p⟩] f = (p, true) := if_pos rfl
  have e2 : get [⟨f, q⟩] f = (q, true) := if_pos rfl
  have e3 : get [] f = ([], false) := rfl
  unfold one
  rw [e1, e2, e3, if_neg (by simp [h]), if_neg (by simp), if_neg (fun h => nomatch h), if_neg (fun h => nomatch h)]
  show (if 65536 < (mgT [] p q).1.length then _ else ((mgT [] p q).1, true, decide (0 < (mgT [] p q).2))) = _
  rw [mgT_two h hp hq h1 h2]
  unfold want
  show (if 65536 < (marked p q).length then _ else _) = _
  split
  · rfl
  · rfl
theorem both_one (f p q : Bs) : both [⟨f, p⟩] [⟨f, q⟩] = [f] := by
  unfold both addP
  simp [insP]
theorem trees_long (f : Bs) {p q : Bs} (h : p ≠ q) (hp : p ≠ []) (hq : q ≠ []) (h1 : ∀ c ∈ p, c ≠ 10 ∧ c ≠ 0) (h2 : ∀ c ∈ q, c ≠ 10 ∧ c ≠ 0) :
    trees mgT [] [⟨f, p⟩] [⟨f, q⟩] = ([⟨f, want p q⟩], [f]) := by
  have e := one_long f h hp hq h1 h2
  rw [trees_is mgT [] (by simp), both_one, outs, e, outs]
  unfold odds
  simp [e]
theorem lt_rep {x y : UInt8} {n m : Nat} (hn : 0 < n) (hm : 0 < m) (h : x ≠ y) : lt (List.replicate n x) (List.replicate m y) = decide (x < y) := by
  obtain ⟨n, rfl⟩ : ∃ k, n = k + 1 := ⟨n - 1, by omega⟩
  obtain ⟨m, rfl⟩ : ∃ k, m = k + 1 := ⟨m - 1, by omega⟩
  rw [List.replicate_succ, List.replicate_succ]
  unfold lt Op.bytesLess
  by_cases hxy : x < y
  · simp [hxy]
  · simp [hxy, h]
    try (intro hh; exact absurd hh (by simp))
end Go.Proofs.Ytghnieddokhagaa.Tr
