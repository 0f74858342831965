/-
  hunk.Edits.
-/
import Derived.Test.YtfmmececocilhaaHG
import Derived.Test.YtfmmececocilhaaRegB
namespace Go.Proofs.Ytfmmececocilhaa.Hu
open Go Go.RowKit Kt Lw Li Df

theorem edP_len : ∀ (ps : List Pt) (z : Int), (edP z ps).length ≤ ps.length
  | [], _ => Nat.le_refl _
  | p :: r, z => by
    have := edP_len r (z + p.st.length + p.gn.length)
    rw [edP, List.length_append, List.length_cons]
    unfold emitZ
    split <;> simp <;> omega
theorem drop_one {ps : List Pt} {k : Nat} {p : Pt} (h : ps[k]? = some p) : ps.drop k = p :: ps.drop (k + 1) := by
  have h1 := (List.getElem?_eq_some_iff.1 h).1
  rw [List.drop_eq_getElem_cons h1]
  rw [List.getElem?_eq_getElem h1] at h
  injection h with h
  rw [h]

end Go.Proofs.Ytfmmececocilhaa.Hu
