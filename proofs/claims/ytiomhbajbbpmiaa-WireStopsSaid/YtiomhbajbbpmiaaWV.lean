/-
  The statement WireStops, whatever the bytes and the reads.
-/
import Derived.Test.YtiomhbajbbpmiaaWU
namespace Go.Proofs.Ytiomhbajbbpmiaa.Wr
open Go Go.RowKit Kt Lw

set_option maxHeartbeats 2000000 in
set_option maxRecDepth 100000 in
theorem stops_early (n p q : Nat) (A A1 A2 : Option Addr) (c c1 c2 : Nat) (w : World) (hn : n ≤ 9223372036854775807) (hp : p ≤ 9223372036854775807) (hq : q ≤ 9223372036854775807) (h : 200 < n ∨ (n ≤ 200 ∧ 40 < p) ∨ (n ≤ 200 ∧ p ≤ 40 ∧ 40 < q)) :
    Calls Try.prog 7 #[.slice A n c, .slice A1 p c1, .slice A2 q c2] w fun e w' => e = .returned (.bool true) ∧ Below w.heap.size w w' := by
  rcases h with h | ⟨h, h'⟩ | ⟨h, h', h''⟩ <;>
  · go_enter Try.func7, Try.ntmps7
    go_wp2_with (go_at_call 10; refine (awake_any _).mono ?_; rintro e w1 ⟨rfl, hb1⟩; have Hb1 := hide hb1; clear hb1)
    go_ret
    exact ⟨rfl, Hb1.out⟩
theorem stops_any (bs : List UInt8) (l m : List Int) (A A1 A2 : Option Addr) (c c1 c2 : Nat) (w : World) (hs : Sl w (fun _ => True) A c bs) (hl : Vs w (fun _ => True) A1 c1 (nums .i64 l) ∧ ∀ z ∈ l, (Lit.int .i64 z).wf = true) (hm : Vs w (fun _ => True) A2 c2 (nums .i64 m) ∧ ∀ z ∈ m, (Lit.int .i64 z).wf = true)
    (hn : bs.length ≤ 9223372036854775807) (hp : l.length ≤ 9223372036854775807) (hq : m.length ≤ 9223372036854775807) :
    Calls Try.prog 7 #[.slice A bs.length c, .slice A1 l.length c1, .slice A2 m.length c2] w fun e w' => e = .returned (.bool true) ∧ Below w.heap.size w w' := by
  by_cases h : 200 < bs.length ∨ (bs.length ≤ 200 ∧ 40 < l.length) ∨ (bs.length ≤ 200 ∧ l.length ≤ 40 ∧ 40 < m.length)
  · exact stops_early _ _ _ A A1 A2 c c1 c2 w hn hp hq h
  · exact stops_late bs l m A A1 A2 c c1 c2 _ w hs hl.1 hm.1 (fun z hz => (bounds_i64 (hl.2 z hz)).2) (fun z hz => (bounds_i64 (hm.2 z hz)).2) (by omega) (by omega) (by omega)
end Go.Proofs.Ytiomhbajbbpmiaa.Wr
