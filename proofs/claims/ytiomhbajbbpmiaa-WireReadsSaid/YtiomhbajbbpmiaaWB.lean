/-
  What wire.form comes to.
-/
import Derived.Test.YtiomhbajbbpmiaaWA
import Derived.Test.YtiomhbajbbpmiaaKitB
import Derived.WalkLawsBesides
import Derived.Test.YtiomhbajbbpmiaaChecked

namespace Go.Proofs.Ytiomhbajbbpmiaa.Wr
open Go Go.RowKit Kt

theorem info8 : (Try.prog.info? 5).map (fun i => (i.zero, i.size, i.bytes)) = some (some (.int .u8 0), 1, 1) := by kernel_rfl
theorem make10 (w : World) : (Instr.makeSlice 22 (.int .i64 0) (.int .i64 10)).run Try.prog w = .ok (.slice (some ⟨w.heap.size, 0, none⟩) 0 10) (w.alloc (.cells (u8s (List.replicate 10 0)).toArray 5)) := by kernel_rfl

set_option maxHeartbeats 1000000 in
set_option maxRecDepth 100000 in
theorem form_any (n : Nat) (w : World) (h : n < 18446744073709551616) :
    Calls Try.prog 27 #[.int .u64 n] w fun e w' => ∃ v, e = .returned v ∧ Own w' w.heap.size 5 v (form n) ∧ Below w.heap.size w w' := by
  have Hn := hide h
  clear h
  have hmk := make10
  go_enter Try.func27, Try.ntmps27
  go_wp2
  clear hmk
  go_loopw [0, 3] (fun x v wr => ∃ (m : Nat) (l : List UInt8), x = .int .u64 m ∧ m ≤ n ∧ Own wr w.heap.size 5 v l ∧ l ++ form m = form n ∧ Below w.heap.size w wr) (fun x _ _ => (intOf x).toNat)
  case atStart => exact ⟨n, [], rfl, Nat.le_refl _, Own.made _ _ _ _ 10 (Nat.le_refl _) (by simp [u8s]) (by simp [maxLen]), rfl, (Below.refl _ _).alloc (Nat.le_refl _) _⟩
  case round =>
    obtain ⟨m, l, rfl, hm, hown, hl, hb⟩ := hrel
    have Hown := hide hown
    have Hb := hide hb
    have Hl := hide hl
    have Hmn := hide hm
    have hlen : l.length + (form m).length = (form n).length := by rw [← hl, List.length_append]
    have hs10 := form_short n 10 (by have := Hn.out; omega) (by omega)
    have Hlen := hide (show l.length + 10 ≤ 70368744177664 by have := form_pos m; omega)
    have Hm := hide (show m < 18446744073709551616 by have := Hn.out; omega)
    clear hown hb hl hm hlen hs10
    have hm8 : m % 128 + 128 < 256 := by omega
    by_cases hlt : m < 128
    · have Hf := hide (form_lt hlt)
      go_wp2_with (at_builtin; refine wpList_push rfl (.tmp 16) (.tmp 19) 22 rfl Try.underlying22 info8 w.heap.size w _ l [UInt8.ofNat m] 1 1 rfl rfl Hown.out ?qc rfl ?ql Hb.out Hb.out.size ?_; rotate_left 2; intro v' w1 hown1 hb1 _)
      case qc => simp [u8s, UInt8.toNat_ofNat']; omega
      case ql => have := Hlen.out; simp; omega
      go_ret
      refine ⟨_, rfl, ?_, hb1⟩
      rw [← Hl.out, Hf.out]
      exact hown1
    · have Hf := hide (form_ge hlt)
      go_wp2_with (at_builtin; go_loud (refine wpList_push rfl (.tmp 7) (.tmp 12) 22 rfl Try.underlying22 info8 w.heap.size w _ l [UInt8.ofNat (m % 128 + 128)] 1 1 rfl rfl Hown.out ?qc rfl ?ql Hb.out Hb.out.size ?_; rotate_left 2; intro v' w1 hown1 hb1 _))
      case qc => simp [u8s, UInt8.toNat_ofNat']; omega
      case ql => have := Hlen.out; simp; omega
      refine ⟨⟨m / 128, _, by push_cast; rfl, by have := Hmn.out; omega, hown1, ?_, hb1⟩, ?_⟩
      · rw [← Hl.out, Hf.out]; simp
      · simp only [intOf]; omega
end Go.Proofs.Ytiomhbajbbpmiaa.Wr
