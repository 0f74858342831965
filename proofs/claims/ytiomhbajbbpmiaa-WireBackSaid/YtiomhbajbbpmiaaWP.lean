/-
  What is put as a text is read.
-/
import Derived.Test.YtiomhbajbbpmiaaWO
namespace Go.Proofs.Ytiomhbajbbpmiaa.Wr
open Go Go.RowKit Kt

theorem textOf_put (x r : List UInt8) (most : Int) (hx : x.length < 18446744073709551616) (hm : x.length ≤ (max most 0).toNat) : textOf (form x.length ++ (x ++ r)) most = (x, (form x.length).length + x.length, 0) := by
  rw [text_fine _ most x.length (form x.length).length (numOf_form _ _ hx) (by omega) (by simp only [List.length_append]; omega)]
  simp
theorem stepText_put (x r : List UInt8) (most : Int) (hx : x.length < 18446744073709551616) (hm : x.length ≤ (max most 0).toNat) : stepText (form x.length ++ (x ++ r)) 0 most = (x, r, 0) := by
  unfold stepText
  rw [if_pos rfl, textOf_put x r most hx hm]
  have e : List.drop ((form x.length).length + x.length) (form x.length ++ (x ++ r)) = r := by
    rw [← List.append_assoc, ← List.length_append, List.drop_left']
    rfl
  simp only [e]
theorem stepNum_put (n : Nat) (r : List UInt8) (hn : n < 18446744073709551616) : stepNum (form n ++ r) 0 = (n, r, 0) := by
  unfold stepNum
  rw [if_pos rfl, numOf_form n r hn]
  simp

theorem make500 (w : World) : (Instr.makeSlice 22 (.int .i64 0) (.int .i64 500)).run Try.prog w = .ok (.slice (some ⟨w.heap.size, 0, none⟩) 0 500) (w.alloc (.cells (u8s (List.replicate 500 0)).toArray 5)) := by kernel_rfl

end Go.Proofs.Ytiomhbajbbpmiaa.Wr
