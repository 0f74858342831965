/-
  Closed, the reference's Closed.
-/
import Derived.Test.YtfmmececocilhaaDoorLC
namespace Go.Proofs.YtfmmececocilhaaDoor.Li
open Go Go.RowKit Kt Lw

theorem size_of (l : List UInt8) : (ByteArray.mk l.toArray).size = l.length := rfl
theorem get_at (l : List UInt8) (k : Nat) (h : k < (ByteArray.mk l.toArray).size) : (ByteArray.mk l.toArray)[k] = l.getD k 0 := by
  have h' : k < l.length := h
  have : (ByteArray.mk l.toArray)[k] = l[k]'h' := rfl
  rw [this]
  simp [List.getElem?_eq_getElem h']
theorem get_last (p : List UInt8) (b : UInt8) (h : p.length < (ByteArray.mk (p ++ [b]).toArray).size) : (ByteArray.mk (p ++ [b]).toArray)[p.length] = b := by
  rw [get_at]; simp
theorem ten_of (b : UInt8) : ((b.toNat : Int) == 10) = (b == 10) := by
  rw [Bool.eq_iff_iff, beq_iff_eq, beq_iff_eq, ← UInt8.toNat_inj]
  exact ⟨fun h => by simp; omega, fun h => by simp at h; omega⟩
theorem closed_any (s : List UInt8) (w : World) (hl : s.length ≤ 9223372036854775807) :
    Calls Tryd.prog 18 #[.string ⟨s.toArray⟩] w fun e w' => e = .returned (.bool (closed s)) ∧ w' = w := by
  rcases List.eq_nil_or_concat s with rfl | ⟨p, b, rfl⟩
  · go_enter Tryd.func18, Tryd.ntmps18
    go_wp2
    go_ret
    exact ⟨rfl, rfl⟩
  · rw [List.concat_eq_append] at hl ⊢
    rw [closed_snoc]
    have hie : (p ++ [b]).isEmpty = false := by simp
    have hp : p.length + 1 ≤ 9223372036854775807 := by simpa using hl
    have eg := get_last p b (by simp [size_of])
    have Ht := hide (ten_of b)
    clear hl
    go_enter Tryd.func18, Tryd.ntmps18
    go_wp2
    go_ret
    exact ⟨by rw [← Ht.out]; rfl, rfl⟩
theorem refClosed_any (s : List UInt8) (w : World) (hl : s.length ≤ 9223372036854775807) :
    Calls Tryd.prog 22 #[.string ⟨s.toArray⟩] w fun e w' => e = .returned (.bool (closed s)) ∧ w' = w := by
  rcases List.eq_nil_or_concat s with rfl | ⟨p, b, rfl⟩
  · go_enter Tryd.func22, Tryd.ntmps22
    go_wp2
    go_ret
    exact ⟨rfl, rfl⟩
  · rw [List.concat_eq_append] at hl ⊢
    rw [closed_snoc]
    have hie : ((p.length : Int) + 1 == 0) = false := by rw [beq_eq_false_iff_ne]; omega
    have hp : p.length + 1 ≤ 9223372036854775807 := by simpa using hl
    have eg := get_last p b (by simp [size_of])
    have Ht := hide (ten_of b)
    clear hl
    go_enter Tryd.func22, Tryd.ntmps22
    go_wp2
    go_ret
    exact ⟨by rw [← Ht.out]; rfl, rfl⟩
end Go.Proofs.YtfmmececocilhaaDoor.Li
