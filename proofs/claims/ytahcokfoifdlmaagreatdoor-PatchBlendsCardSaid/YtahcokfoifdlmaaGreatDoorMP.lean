/-
  The reference's Lines, piece by piece: a mark, a side's lines.
-/
import Derived.BigQuiet
import Derived.Test.YtahcokfoifdlmaaGreatDoorQMF
import Derived.Test.YtahcokfoifdlmaaGreatDoorQWS
namespace Go.Proofs.YtahcokfoifdlmaaGreatDoor.Al
open Go Go.RowKit Kt Kg Lw Li Df Kf

/-- what is told so far lies in a row of the call's own, beside a region's box -/
structure RL (w0 : World) (B0 q : Nat) (cs : List Value) (v : Value) (F : Ls) (w : World) : Prop where
  own : OwT w B0 tS v F
  low : Below B0 w0 w
  row : Row w q tR cs
theorem RL.below {w0 w w' : World} {B0 q : Nat} {cs : List Value} {v : Value} {F : Ls} (h : RL w0 B0 q cs v F w) (hb : Below w.heap.size w w') (hB : B0 ≤ w.heap.size) : RL w0 B0 q cs v F w' :=
  ⟨h.own.kept hb, h.low.trans (hb.mono hB), h.row.below hb h.row.lt⟩
theorem row_ne {w : World} {B g : Nat} {v : Value} {l : Ls} {cs : List Value} (hrow : Row w g tR cs) (hown : OwT w B tS v l) : some g ≠ v.ownBlock := by
  intro h
  rcases hown.2 with ⟨rfl, _⟩ | ⟨g', cap', cur', rfl, _, hgg', _⟩
  · cases h
  · simp only [Value.ownBlock, Option.some.injEq] at h
    subst h
    unfold Row at hrow
    rw [hgg'] at hrow
    simp only [Option.some.injEq, Obj.cells.injEq] at hrow
    exact absurd hrow.2.1 (by decide)
theorem RL.base {w0 w : World} {B0 q : Nat} {cs : List Value} {v : Value} {F : Ls} (h : RL w0 B0 q cs v F w) (hB : B0 ≤ w0.heap.size) : B0 ≤ w.heap.size := Nat.le_trans hB h.low.size
end Go.Proofs.YtahcokfoifdlmaaGreatDoor.Al
