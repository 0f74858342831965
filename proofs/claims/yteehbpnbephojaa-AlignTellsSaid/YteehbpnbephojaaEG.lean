/-
  diff.Turn.
-/
import Derived.Test.YteehbpnbephojaaEF
namespace Go.Proofs.Yteehbpnbephojaa.Df
open Go Go.RowKit Kt Lw

theorem vs_drew {w : World} {P : Nat → Prop} {A : Option Addr} {c : Nat} {vs : List Value} (h : Vs w P A c vs) : Vs w.drew P A c vs := h
theorem turn_len (a : Ls) : ∀ (L : List Ed) (more : Int), (turn a more L).length = L.length
  | [], _ => rfl
  | e :: L, more => by rw [turn, List.length_cons, turn_len a L, List.length_cons]
end Go.Proofs.Yteehbpnbephojaa.Df
