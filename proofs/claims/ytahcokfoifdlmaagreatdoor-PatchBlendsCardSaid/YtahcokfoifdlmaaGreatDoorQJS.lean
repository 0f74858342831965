/-
  Are regions right? In memory.
-/
import Derived.BigQuiet
import Derived.Test.YtahcokfoifdlmaaGreatDoorQKR
import Derived.Test.YtahcokfoifdlmaaGreatDoorQWS
import Derived.Test.YtahcokfoifdlmaaGreatDoorQWA
import Derived.Test.YtahcokfoifdlmaaGreatDoorJK
import Derived.Test.YtahcokfoifdlmaaGreatDoorQJH
import Derived.Test.YtahcokfoifdlmaaGreatDoorQRS
namespace Go.Proofs.YtahcokfoifdlmaaGreatDoor.Al
open Go Go.RowKit Kt Kg Lw Li Df Kf

abbrev tW : TypeId := 157
/-- three rows that are gone through -/
structure Three (w0 W : World) (gx gy gz : Nat) (Ao Aa Ab : Option Addr) (no co na ca nb cb X Y Z : Nat) : Prop where
  x : Row W gx tW [.slice Ao no co, .int .i64 X]
  y : Row W gy tW [.slice Aa na ca, .int .i64 Y]
  z : Row W gz tW [.slice Ab nb cb, .int .i64 Z]
  low : Below w0.heap.size w0 W
  out : w0.heap.size ≤ gx ∧ w0.heap.size ≤ gy ∧ w0.heap.size ≤ gz
  ne : gx ≠ gy ∧ gx ≠ gz ∧ gy ≠ gz
theorem Three.keep {w0 A B : World} {gx gy gz : Nat} {Ao Aa Ab : Option Addr} {no co na ca nb cb X Y Z : Nat} (h : Three w0 A gx gy gz Ao Aa Ab no co na ca nb cb X Y Z) (hb : Below A.heap.size A B) : Three w0 B gx gy gz Ao Aa Ab no co na ca nb cb X Y Z :=
  ⟨h.x.below hb h.x.lt, h.y.below hb h.y.lt, h.z.below hb h.z.lt, h.low.trans (hb.mono h.low.size), h.out, h.ne⟩
end Go.Proofs.YtahcokfoifdlmaaGreatDoor.Al
namespace Go.Proofs.YtahcokfoifdlmaaGreatDoor.Al
open Go Go.RowKit Kt Kg Lw Li Df

theorem Trio.keep {w w' : World} {Ao Aa Ab : Option Addr} {co ca cb : Nat} {o a b : Ls} (h : Trio w Ao Aa Ab co ca cb o a b) (hb : Below w.heap.size w w') : Trio w' Ao Aa Ab co ca cb o a b :=
  ⟨vs_keep h.o_ hb, vs_keep h.a_ hb, vs_keep h.b_ hb, h.lo_, h.la_, h.lb_⟩
end Go.Proofs.YtahcokfoifdlmaaGreatDoor.Al
