/-
  A region, a loop or a test of a function, named by its number.
-/
import Derived.Test.YteehbpnbephojaaKit
namespace Go.Proofs.Yteehbpnbephojaa.Kf
open Go

def findB (n : Nat) : Code → Option Code
  | .seq a b => (findB n a).or (findB n b)
  | .block m b => if m = n then some (.block m b) else findB n b
  | .loop b => findB n b
  | .cond _ a b => (findB n a).or (findB n b)
  | _ => none
def findR (n : Nat) : Code → Option Code
  | .seq a b => (findR n a).or (findR n b)
  | .block _ b => findR n b
  | .loop b => findR n b
  | .cond _ a b => (findR n a).or (findR n b)
  | .region m ops dr => if m = n then some (.region m ops dr) else none
  | _ => none
theorem wp_last {P : Program} {c : Code} {Q : Exit → Act → World → Prop} {a : Act} {w : World} (h : Code.wp P c (Exit.then (fun a w => Q .normal a w) Q) a w) : Code.wp P c Q a w :=
  Code.wp_mono (fun e _ _ h => by cases e <;> exact h) h
end Go.Proofs.Yteehbpnbephojaa.Kf
