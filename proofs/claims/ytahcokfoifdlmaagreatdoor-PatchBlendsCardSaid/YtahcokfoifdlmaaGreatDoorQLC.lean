/-
  lines.Split, lines.Count: a text's lines, in a row of the call's own; how many.
-/
import Derived.RangeFuncNested
import Derived.RangeFuncBound
import Derived.RangeFuncCalls
import Derived.RangeFuncLeaves
import Derived.RangeFuncBox
import Derived.Shelf.Abstract
import Derived.Shelf.RegionOpen
import Derived.WalkKit
import Derived.OwnWalkIn
import Derived.TacticsInMore
import Derived.LoopNIn
import Derived.LoopIn
import Derived.Maps.AppendAt
import Derived.Test.YtahcokfoifdlmaaGreatDoorKit
import Derived.Test.YtahcokfoifdlmaaGreatDoorLA
import Derived.Test.YtahcokfoifdlmaaGreatDoorShelf
import Derived.Test.YtahcokfoifdlmaaGreatDoorQWS
import Derived.Test.YtahcokfoifdlmaaGreatDoorQJH
import Derived.Lib.AppendZerosOnto
namespace Go.Proofs.YtahcokfoifdlmaaGreatDoor.Li
open Go Go.RowKit Go.Shelf Kt Lw
attribute [local go_sem] Oper.semAt_some

theorem infoText : (Tryz.prog.info? 9).map (fun i => (i.zero, i.size, i.bytes)) = some (some (.string ⟨#[]⟩), 1, 16) := by kernel_rfl
theorem texts_snoc (l : List (List UInt8)) (x : List UInt8) : texts (l ++ [x]) = texts l ++ [.string ⟨x.toArray⟩] := by simp [texts]

end Go.Proofs.YtahcokfoifdlmaaGreatDoor.Li
namespace Go.Proofs.YtahcokfoifdlmaaGreatDoor.Al
open Go Go.RowKit Go.Shelf Kt Lw Li Df

abbrev Fit (l : Ls) : Prop := ∀ s ∈ l, s.length ≤ 281474976710656
theorem Fit.at {l : Ls} (h : Fit l) {k : Nat} (hk : k < l.length) : (l.getD k []).length ≤ 281474976710656 := by
  have : l.getD k [] = l[k] := by simp [List.getElem?_eq_getElem hk]
  rw [this]
  exact h _ (List.getElem_mem hk)
theorem Fit.cut {l : Ls} (h : Fit l) (x n : Int) : Fit (Al.cut l x n) := fun s hs => h s (List.mem_of_mem_drop (List.mem_of_mem_take hs))
end Go.Proofs.YtahcokfoifdlmaaGreatDoor.Al
namespace Go.Proofs.YtahcokfoifdlmaaGreatDoor.Al
open Go Go.RowKit Kt Lw Li Df

/-- a slice that holds these texts: a value, its length, and what it holds -/
def IsT (w : World) (v : Value) (l : Ls) : Prop := ∃ A c, v = .slice A l.length c ∧ Vs w (fun _ => True) A c (texts l)
theorem IsT.below {w w' : World} {v : Value} {l : Ls} (h : IsT w v l) (hb : Below w.heap.size w w') : IsT w' v l := by
  obtain ⟨A, c, rfl, hs⟩ := h
  exact ⟨A, c, rfl, Lw.Vs.below hs hb⟩
theorem IsT.own {w : World} {B : Nat} {E : TypeId} {v : Value} {l : Ls} (h : OwT w B E v l) : IsT w v l := by
  obtain ⟨A, c, rfl, hs⟩ := h.vs
  exact ⟨A, c, rfl, hs.1, fun hn => by
    obtain ⟨b, o, e, _, hc⟩ := hs.2 hn
    exact ⟨b, o, e, trivial, hc⟩⟩
theorem OwT.made (w : World) (B : Nat) (E : TypeId) (cs : Array Value) (cap : Nat) (hB : B ≤ w.heap.size) (hc : cs.size = cap) (hm : cap ≤ maxLen) : OwT (w.alloc (.cells cs E)) B E (.slice (some ⟨w.heap.size, 0, none⟩) 0 cap) [] :=
  World.ownsRow_made w cs cap hB hm (by omega)

end Go.Proofs.YtahcokfoifdlmaaGreatDoor.Al
