/-
  The statement WireOwn, whatever the bytes.
-/
import Derived.Test.YtiomhbajbbpmiaaWQ
namespace Go.Proofs.Ytiomhbajbbpmiaa.Wr
open Go Go.RowKit Kt

set_option maxHeartbeats 2000000 in
set_option maxRecDepth 100000 in
theorem own_early (n at_ v : Nat) (A : Option Addr) (c : Nat) (w : World) (hn : n ≤ 9223372036854775807) (h : n = 0 ∨ 200 < n) :
    Calls Try.prog 8 #[.slice A n c, .int .u16 (at_ : Int), .int .u8 (v : Int)] w fun e w' => e = .returned (.bool true) ∧ Below w.heap.size w w' := by
  rcases h with rfl | h
  · go_enter Try.func8, Try.ntmps8
    go_wp2_with (go_at_call 10; refine (awake_any _).mono ?_; rintro e w1 ⟨rfl, hb1⟩; have Hb1 := hide hb1; clear hb1)
    go_ret
    exact ⟨rfl, Hb1.out⟩
  · have hb0 : ((n : Int) == 0) = false := beq_eq_false_iff_ne.2 (by omega)
    go_enter Try.func8, Try.ntmps8
    go_wp2_with (go_at_call 10; refine (awake_any _).mono ?_; rintro e w1 ⟨rfl, hb1⟩; have Hb1 := hide hb1; clear hb1)
    go_ret
    exact ⟨rfl, Hb1.out⟩
theorem own_any (x : List UInt8) (at_ v : Nat) (A : Option Addr) (c : Nat) (Pb : Nat → Prop) (w : World) (hs : Sl w Pb A c x) (hn : x.length ≤ 9223372036854775807) (hat : at_ < 65536) (hv : v < 256) :
    Calls Try.prog 8 #[.slice A x.length c, .int .u16 (at_ : Int), .int .u8 (v : Int)] w fun e w' => e = .returned (.bool true) ∧ Below w.heap.size w w' := by
  by_cases h0 : x.length = 0
  · exact own_early _ at_ v A c w hn (.inl h0)
  · by_cases h2 : 200 < x.length
    · exact own_early _ at_ v A c w hn (.inr h2)
    · exact own_late x at_ v A c Pb w hs hat hv (by omega) (by omega)
end Go.Proofs.Ytiomhbajbbpmiaa.Wr
