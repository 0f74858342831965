/-
  The statements' own example (awake) comes out true, wherever it is asked.
-/
import Derived.Test.YtoppmagelkfhoaaDoorDgH
import Derived.Lib.SlBytesConst
namespace Go.Proofs.YtoppmagelkfhoaaDoor.Dg
open Go Go.RowKit Kt Sha

theorem hex_any (l : List UInt8) (w : World) : Calls Tryd.prog 7 #[.string ⟨l.toArray⟩] w fun e w' => e = .returned (.string ⟨(hexOf l).toArray⟩) ∧ Below w.heap.size w w' := by
  by_cases h : l.length = 32
  · exact hex_yes l w h
  · exact (hex_no l w h).mono fun _ _ ⟨h1, h2⟩ => ⟨h1, h2 ▸ Below.refl _ _⟩
theorem parse_any (l : List UInt8) (w : World) : Calls Tryd.prog 8 #[.string ⟨l.toArray⟩] w fun e w' => e = .returned (parsed (parseOf l)) ∧ Below w.heap.size w w' := by
  by_cases h : l.length = 64
  · exact parse_yes l w h
  · exact parse_no l w h

def abcD : ByteArray := ⟨(sha [97, 98, 99]).toArray⟩
def abcL : List UInt8 := [98, 97, 55, 56, 49, 54, 98, 102, 56, 102, 48, 49, 99, 102, 101, 97, 52, 49, 52, 49, 52, 48, 100, 101, 53, 100, 97, 101, 50, 50, 50, 51, 98, 48, 48, 51, 54, 49, 97, 51, 57, 54, 49, 55, 55, 97, 57, 99, 98, 52, 49, 48, 102, 102, 54, 49, 102, 50, 48, 48, 49, 53, 97, 100]
theorem abc_hex : hexOf (sha [97, 98, 99]) = abcL := by decide +kernel
theorem abc_parse : parseOf abcL = some (sha [97, 98, 99]) := by decide +kernel
theorem of_abc (A : Option Addr) (c : Nat) (Pb : Nat → Prop) (w : World) (hs : Sl w Pb A c [97, 98, 99]) (ht : Tab w) :
    Calls Tryd.prog 5 #[.slice A 3 c] w fun e w' => e = .returned (.string abcD) ∧ Below w.heap.size w w' :=
  of_any [97, 98, 99] A c Pb w hs ht (by simp)
theorem hex_abc (w : World) : Calls Tryd.prog 7 #[.string abcD] w fun e w' => e = .returned (.string ⟨#[98, 97, 55, 56, 49, 54, 98, 102, 56, 102, 48, 49, 99, 102, 101, 97, 52, 49, 52, 49, 52, 48, 100, 101, 53, 100, 97, 101, 50, 50, 50, 51, 98, 48, 48, 51, 54, 49, 97, 51, 57, 54, 49, 55, 55, 97, 57, 99, 98, 52, 49, 48, 102, 102, 54, 49, 102, 50, 48, 48, 49, 53, 97, 100]⟩) ∧ Below w.heap.size w w' :=
  (hex_any (sha [97, 98, 99]) w).mono fun _ _ ⟨h1, h2⟩ => ⟨by rw [h1, abc_hex]; rfl, h2⟩
theorem parse_abc (w : World) : Calls Tryd.prog 8 #[.string ⟨#[98, 97, 55, 56, 49, 54, 98, 102, 56, 102, 48, 49, 99, 102, 101, 97, 52, 49, 52, 49, 52, 48, 100, 101, 53, 100, 97, 101, 50, 50, 50, 51, 98, 48, 48, 51, 54, 49, 97, 51, 57, 54, 49, 55, 55, 97, 57, 99, 98, 52, 49, 48, 102, 102, 54, 49, 102, 50, 48, 48, 49, 53, 97, 100]⟩] w fun e w' => e = .returned (.tuple #[.string abcD, .bool true]) ∧ Below w.heap.size w w' :=
  (parse_any abcL w).mono fun _ _ ⟨h1, h2⟩ => ⟨by rw [h1, abc_parse]; rfl, h2⟩
/-- the world in which the bytes "abc" lie in a new block -/
noncomputable def abcW (w : World) : World := w.alloc (.cells #[.int .u8 97, .int .u8 98, .int .u8 99] 5 (3, 4))
theorem abc_sl (w : World) : Sl (abcW w) (fun _ => True) (some ⟨w.heap.size, 0, none⟩) 3 [97, 98, 99] :=
  ⟨by simp, fun _ => ⟨w.heap.size, 0, rfl, trivial, fun j hj => by
    rw [Nat.zero_add, cell_of_row (abcW w) w.heap.size j _ _ (3, 4) (heap_alloc_new w _)]
    rcases j with _ | _ | _ | j
    · rfl
    · rfl
    · rfl
    · simp at hj; omega⟩⟩
theorem abc_below {B : Nat} {w0 w : World} (h : Below B w0 w) (hB : B ≤ w.heap.size) : Below B w0 (abcW w) := h.alloc hB _
theorem abc_conv (w : World) : (convert 22 22 (.slice (some ⟨w.heap.size, 0, none⟩) 3 3)).run Tryd.prog (w.alloc (.cells #[.int .u8 97, .int .u8 98, .int .u8 99] 5)) = .ok (.slice (some ⟨w.heap.size, 0, none⟩) 3 3) (abcW w) :=
  Lib.run_convert_bytes_const w _ _ _ 3 3 Tryd.underlying22 Tryd.underlying5

set_option maxHeartbeats 1000000 in
set_option maxRecDepth 100000 in
theorem awake_any (w : World) (ht : Tab w) : Calls Tryd.prog 4 #[] w fun e w' => e = .returned (.bool true) ∧ Below w.heap.size w w' := by
  have Ht := hide ht
  clear ht
  have hcv := abc_conv
  go_enter Tryd.func4, Tryd.ntmps4
  go_wp2_with fail
  have hb0 := hide (abc_below (Below.refl w.heap.size w) (Nat.le_refl _))
  refine (of_abc _ _ _ _ (abc_sl _) (Ht.out.below hb0.out)).mono ?_
  rintro e w1 ⟨rfl, hb1⟩
  have Hb1 := hide (hb0.out.trans (hb1.mono hb0.out.size))
  clear hb1 hb0
  go_wp2_with fail
  refine (hex_abc _).mono ?_
  rintro e w2 ⟨rfl, hb2⟩
  have Hb2 := hide (Hb1.out.trans (hb2.mono Hb1.out.size))
  clear hb2
  go_wp2_with fail
  refine (parse_abc _).mono ?_
  rintro e w3 ⟨rfl, hb3⟩
  have Hb3 := hide (Hb2.out.trans (hb3.mono Hb2.out.size))
  clear hb3
  go_wp2_with fail
  have hb4 := hide (abc_below Hb3.out Hb3.out.size)
  refine (of_abc _ _ _ _ (abc_sl _) (Ht.out.below hb4.out)).mono ?_
  rintro e w4 ⟨rfl, hb5⟩
  have Hb5 := hide (hb4.out.trans (hb5.mono hb4.out.size))
  clear hb5
  go_wp2
  go_ret
  exact ⟨rfl, Hb5.out⟩
end Go.Proofs.YtoppmagelkfhoaaDoor.Dg
