/-
  The statement WireReads, whatever the bytes and the reads.
-/
import Derived.Test.YtiomhbajbbpmiaaRrE
namespace Go.Proofs.Ytiomhbajbbpmiaa.Wr
open Go Go.RowKit Kt Lw

set_option maxHeartbeats 2000000 in
set_option maxRecDepth 100000 in
theorem reads_early (n p : Nat) (A A1 : Option Addr) (c c1 : Nat) (w : World) (hn : n ≤ 9223372036854775807) (hp : p ≤ 9223372036854775807) (h : 200 < n ∨ (n ≤ 200 ∧ 40 < p)) :
    Calls Try.prog 4 #[.slice A n c, .slice A1 p c1] w fun e w' => e = .returned (.bool true) ∧ Below w.heap.size w w' := by
  rcases h with h | ⟨h, h'⟩ <;>
  · go_enter Try.func4, Try.ntmps4
    go_wp2_with (go_at_call 10; refine (awake_any _).mono ?_; rintro e w1 ⟨rfl, hb1⟩; have Hb1 := hide hb1; clear hb1)
    go_ret
    exact ⟨rfl, Hb1.out⟩
theorem reads_any (bs : List UInt8) (l : List Int) (A A1 : Option Addr) (c c1 : Nat) (w : World) (hs : Sl w (fun _ => True) A c bs) (hl : Vs w (fun _ => True) A1 c1 (nums .i64 l) ∧ ∀ z ∈ l, (Lit.int .i64 z).wf = true)
    (hn : bs.length ≤ 9223372036854775807) (hp : l.length ≤ 9223372036854775807) :
    Calls Try.prog 4 #[.slice A bs.length c, .slice A1 l.length c1] w fun e w' => e = .returned (.bool true) ∧ Below w.heap.size w w' := by
  by_cases h : 200 < bs.length ∨ (bs.length ≤ 200 ∧ 40 < l.length)
  · exact reads_early _ _ A A1 c c1 w hn hp h
  · exact reads_late bs l A A1 c c1 w hs hl.1 (fun z hz => (bounds_i64 (hl.2 z hz)).2) (by omega) (by omega)
end Go.Proofs.Ytiomhbajbbpmiaa.Wr
