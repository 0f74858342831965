/-
  A text's lines, on lists of bytes alone: what splitting, joining, counting come to. No program is named here.
-/
import Derived.Lib.Bytealg
import Derived.Lib.Join
namespace Go.Proofs.YtahcokfoifdlmaaGreatDoor.Li
open Go

/-- how many bytes the first line has -/
def fst : List UInt8 → Nat
  | [] => 0
  | b :: r => if b = 10 then 1 else fst r + 1
/-- the lines -/
def lns : List UInt8 → List (List UInt8)
  | [] => []
  | b :: r => if b = 10 then [b] :: lns r else match lns r with
    | [] => [[b]]
    | h :: t => (b :: h) :: t
def closed (s : List UInt8) : Bool := s.getLast?.getD 10 == 10
def binary (s : List UInt8) : Bool := s.contains 0
/-- is line i of l one line, closed if it isn't the last one? -/
def okAt (l : List (List UInt8)) (i : Nat) : Bool := (lns (l.getD i [])).length == 1 && (!decide (i + 1 < l.length) || closed (l.getD i []))
def right (l : List (List UInt8)) : Bool := (List.range l.length).all (okAt l)

theorem right_cons (x : List UInt8) (t : List (List UInt8)) : right (x :: t) = ((lns x).length == 1 && (t.isEmpty || closed x) && right t) := by
  unfold right
  rw [List.length_cons, List.range_succ_eq_map, List.all_cons, List.all_map]
  have e0 : okAt (x :: t) 0 = ((lns x).length == 1 && (t.isEmpty || closed x)) := by
    unfold okAt
    cases t <;> simp
  have e1 : (okAt (x :: t) ∘ Nat.succ) = okAt t := by
    funext i
    simp [okAt]
  rw [e0, e1]
end Go.Proofs.YtahcokfoifdlmaaGreatDoor.Li
