/-
  A region along a tree, its operations named by facts: the list itself isn't looked at anew in each step.
-/
import Derived.Test.YteehbpnbephojaaRegD
namespace Go.Proofs.Yteehbpnbephojaa.Rk
open Go Rg Rd
section
variable {P : Program} {Q : Exit → Act → World → Prop} {S : World → Prop}
theorem tree_quiet {l : List Oper} {n : Nat} {o : Oper} {t : Tree} {a : Act} {w : World} {v : Value} (ho : l.getD n default = o) (hg : o.guard = none) (hy : ∀ w', S w' → (execOp a.eval o).run P w' = .ok (.value v) w') (hS : S w)
    (h : wpTree P l Q S t (a.put o.dst v) w) : wpTree P l Q S (.take n t) a w := Rd.tree_quiet ho hg hy hS h
theorem tree_one {l : List Oper} {n : Nat} {o : Oper} {t : Tree} {a : Act} {w : World} (ho : l.getD n default = o) (hg : o.guard = none)
    (h : ∀ K : Act → World → Prop, (∀ a' w', (sink l.toArray n = false → S w') → wpTree P l Q S t a' w' → K a' w') → o.wp P a w K Q) : wpTree P l Q S (.one n t) a w := Rd.tree_one ho (by unfold Region.wanted; rw [hg]) h
theorem tree_fork {l : List Oper} {n m : Nat} {o o' : Oper} {t u : Tree} {a : Act} {w : World} (ho : l.getD n default = o) (hg : o.guard = none) (ho' : l.getD m default = o') (hg' : o'.guard = none)
    (h : ∀ K : Act → World → Prop, (∀ a' w', (sink l.toArray n = false → S w') → wpTree P l Q S t a' w' → K a' w') → o.wp P a w K Q)
    (h' : ∀ K : Act → World → Prop, (∀ a' w', (sink l.toArray m = false → S w') → wpTree P l Q S u a' w' → K a' w') → o'.wp P a w K Q) : wpTree P l Q S (.fork n t m u) a w :=
  Rd.tree_fork ho (by unfold Region.wanted; rw [hg]) ho' (by unfold Region.wanted; rw [hg']) h h'
end
end Go.Proofs.Yteehbpnbephojaa.Rk
