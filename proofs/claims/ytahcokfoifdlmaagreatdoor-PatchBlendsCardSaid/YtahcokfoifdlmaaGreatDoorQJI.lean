/-
  The edits of two sides, as they are gone through, in memory.
-/
import Derived.BigQuiet
import Derived.Test.YtahcokfoifdlmaaGreatDoorQJH
import Derived.Test.YtahcokfoifdlmaaGreatDoorQRfB
import Derived.Test.YtahcokfoifdlmaaGreatDoorQRS
namespace Go.Proofs.YtahcokfoifdlmaaGreatDoor.Al
open Go Go.RowKit Kt Lw Li Df

/-- an edit as it lies in a row -/
structure Ev where
  e : Ed
  A : Option Addr
  c : Nat
/-- a block without cells -/
def Dum (w : World) (k : Nat) : Prop := ∀ o, w.cell? ⟨k, o, none⟩ = none
/-- what lay there, but what has no cells, is as it was -/
structure Bel (w0 W : World) : Prop where
  size : w0.heap.size ≤ W.heap.size
  block : ∀ k, k < w0.heap.size → Dum w0 k ∨ W.heap[k]? = w0.heap[k]?
theorem Bel.of {w0 W : World} (h : Below w0.heap.size w0 W) : Bel w0 W := ⟨h.size, fun k hk => .inr (h.block k hk)⟩
theorem Bel.trans {w0 A B : World} (h : Bel w0 A) (k : Below w0.heap.size A B) : Bel w0 B :=
  ⟨Nat.le_trans h.size k.size, fun i hi => (h.block i hi).imp id fun e => (k.block i hi).trans e⟩
theorem Bel.drewN {w0 A : World} (h : Bel w0 A) (k : Nat) : Bel w0 (A.drewN k) := ⟨h.size, h.block⟩
theorem Bel.drew {w0 A : World} (h : Bel w0 A) : Bel w0 A.drew := ⟨h.size, h.block⟩
theorem Bel.grown {w0 A B : World} {row : Option Nat} (h : Bel w0 A) (hg : A.grownBy B row) (hr : ∀ r, row = some r → w0.heap.size ≤ r) : Bel w0 B :=
  h.trans ((Below.refl _ _).grown hg h.size hr)
theorem Bel.put {w0 A : World} (h : Bel w0 A) {g i : Nat} (hg : w0.heap.size ≤ g) (u : Value) : Bel w0 (A.setCell ⟨g, i, none⟩ u) := h.trans (below_put (Below.refl _ _) hg u)
/-- where the edits of two sides are; w0: the world ahead of the block b -/
structure Ct (w0 W : World) (b : Nat) (xs ys : List Ed) : Prop where
  low : Bel w0 W
  out : w0.heap.size ≤ b
  st : ∃ A c A' c', Row W b tL [.slice A xs.length c, .slice A' ys.length c'] ∧ Es w0 A c xs ∧ Es w0 A' c' ys
end Go.Proofs.YtahcokfoifdlmaaGreatDoor.Al
namespace Go.Proofs.YtahcokfoifdlmaaGreatDoor.Al
open Go Go.RowKit Go.Shelf Kt Lw Li Df Rs
attribute [local go_sem] Oper.semAt_some

def pr (x : Bool × Ev) : Bool × Ed := (x.1, x.2.e)
def lenAt (W : World) (b i : Nat) : Nat := match W.cell? ⟨b, i, none⟩ with
  | some (.slice _ n _) => n
  | _ => 0
theorem Ct.len {w0 W : World} {b : Nat} {xs ys : List Ed} (h : Ct w0 W b xs ys) : lenAt W b 0 = xs.length ∧ lenAt W b 1 = ys.length := by
  obtain ⟨A, c, A', c', hr, _, _⟩ := h.st
  have k0 := hr.cell 0
  have k1 := hr.cell 1
  simp only [List.getElem?_cons_zero, List.getElem?_cons_succ] at k0 k1
  unfold lenAt
  rw [k0, k1]
  exact ⟨rfl, rfl⟩
/-- what a round must keep for the iterator -/
def KpE (w0 : World) (b Bs : Nat) (A B : World) : Prop := Below w0.heap.size A B ∧ B.heap[b]? = A.heap[b]? ∧ B.heap[Bs]? = A.heap[Bs]?
theorem Ct.keep {w0 A B : World} {b Bs : Nat} {xs ys : List Ed} (h : Ct w0 A b xs ys) (hk : KpE w0 b Bs A B) : Ct w0 B b xs ys := by
  obtain ⟨A1, c, A', c', hr, h1, h2⟩ := h.st
  exact ⟨h.low.trans hk.1, h.out, A1, c, A', c', hk.2.1.trans hr, h1, h2⟩
theorem Ct.drewN {w0 A : World} {b : Nat} {xs ys : List Ed} (h : Ct w0 A b xs ys) (k : Nat) : Ct w0 (A.drewN k) b xs ys := by
  obtain ⟨A1, c, A', c', hr, h1, h2⟩ := h.st
  exact ⟨h.low.drewN k, h.out, A1, c, A', c', hr.drewN k, h1, h2⟩
end Go.Proofs.YtahcokfoifdlmaaGreatDoor.Al
