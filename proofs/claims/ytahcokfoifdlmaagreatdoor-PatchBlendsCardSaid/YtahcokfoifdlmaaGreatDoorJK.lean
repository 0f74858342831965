/-
  The next cluster, in memory.
-/
import Derived.Test.YtahcokfoifdlmaaGreatDoorQJI
import Derived.Test.YtahcokfoifdlmaaGreatDoorQJH
import Derived.Laws.ResultCell
import Derived.Scope
import Derived.ControlIn
import Derived.Laws.Rows
namespace Go.Proofs.YtahcokfoifdlmaaGreatDoor.Al
open Go Go.RowKit Go.Shelf Kt Lw Li Df Rs
attribute [local go_sem] Oper.semAt_some

theorem grown_b {w A B : World} {b : Nat} {row : Option Nat} (h : w.grownBy A (some b)) (hg : A.grownBy B row) (hr : ∀ r, row = some r → w.heap.size ≤ r ∨ r = b) : w.grownBy B (some b) :=
  ⟨hg.os.trans h.os, hg.tape.trans h.tape, hg.output.trans h.output, Nat.le_trans h.size hg.size, fun k hk hne => (hg.block k (Nat.lt_of_lt_of_le hk h.size) (fun e => by
    rcases hr k e.symm with h1 | h1
    · omega
    · exact hne (by rw [h1]))).trans (h.block k hk hne)⟩
/-- what a cluster of up to k edits has -/
structure Few (M : Int) (k : Nat) (C : Cl) : Prop where
  to : 0 ≤ C.to ∧ C.to ≤ M
  n0 : 0 ≤ C.n0 ∧ C.n0 ≤ k
  n1 : 0 ≤ C.n1 ∧ C.n1 ≤ k
  m0 : -(k * 1000000) ≤ C.m0 ∧ C.m0 ≤ k * 1000000
  m1 : -(k * 1000000) ≤ C.m1 ∧ C.m1 ≤ k * 1000000
theorem Few.take {M : Int} {k : Nat} {C : Cl} (h : Few M k C) (s : Bool) (e : Ed) (he : 0 ≤ e.pos ∧ 0 ≤ e.del ∧ e.pos + e.del ≤ M ∧ e.ins.length ≤ 1000000) (hM : M ≤ 1000000) : Few M (k + 1) (C.take s e) := by
  obtain ⟨⟨a1, a2⟩, ⟨b1, b2⟩, ⟨c1, c2⟩, ⟨d1, d2⟩, e1, e2⟩ := h
  cases s
  · refine ⟨?_, ?_, ?_, ?_, ?_⟩ <;> simp only [Cl.take, Bool.false_eq_true, if_false] <;> omega
  · refine ⟨?_, ?_, ?_, ?_, ?_⟩ <;> simp only [Cl.take, if_true] <;> omega
/-- the cluster so far, of those that have come -/
def Gone (C : Cl) (zs : List (Bool × Ev)) : Prop := ∃ s e l, zs.map pr = (s, e) :: l ∧ (∀ rest, grow ((Cl.zero e.pos).take s e) (l ++ rest) = grow C rest) ∧ 0 < C.n0 + C.n1
theorem Gone.more {C : Cl} {zs : List (Bool × Ev)} {x : Bool × Ev} (h : Gone C zs) (hx : ¬ C.to < x.2.e.pos) (_h0 : 0 ≤ C.n0 ∧ 0 ≤ C.n1) : Gone (C.take x.1 x.2.e) (zs ++ [x]) := by
  obtain ⟨s, e, l, h1, h2, h3⟩ := h
  refine ⟨s, e, l ++ [pr x], by rw [List.map_append, h1]; rfl, fun rest => ?_, ?_⟩
  · rw [List.append_assoc, h2, List.singleton_append]
    show grow C ((x.1, x.2.e) :: rest) = _
    rw [grow, if_neg hx]
  · unfold Cl.take
    split <;> simp only <;> omega
theorem Gone.first (C : Cl) (x : Bool × Ev) (hC : C = (Cl.zero x.2.e.pos).take x.1 x.2.e) : Gone C [x] := by
  refine ⟨x.1, x.2.e, [], rfl, fun rest => by rw [hC]; rfl, ?_⟩
  rw [hC]
  unfold Cl.take Cl.zero
  split <;> simp
theorem Ct.grown {w0 A B : World} {b : Nat} {xs ys : List Ed} {row : Option Nat} (h : Ct w0 A b xs ys) (hg : A.grownBy B row) (hr : ∀ r, row = some r → w0.heap.size ≤ r ∧ r ≠ b) : Ct w0 B b xs ys := by
  obtain ⟨A1, c, A', c', hrow, h1, h2⟩ := h.st
  exact ⟨h.low.grown hg fun k e => (hr k e).1, h.out, A1, c, A', c', hrow.grown hg fun e => (hr b e.symm).2 rfl, h1, h2⟩
/-- no edit yet -/
def Cl.nil : Cl := ⟨0, 0, 0, 0, 0, 0⟩
/-- what a round of the loop finds: the cluster's block, the result's, the iterator's -/
structure Pads (w : World) (b N : Nat) (C : Cl) (W : World) : Prop where
  clu : Row W (N + 1) tC (clC C)
  res : Row W N tC (clC Cl.nil)
  it : Row W (N + 1 + 1) 189 [.pointer (some ⟨b, 0, none⟩)]
  gr : w.grownBy W (some b)
theorem Pads.grown {w A B : World} {b N : Nat} {C : Cl} {row : Option Nat} (h : Pads w b N C A) (hg : A.grownBy B row) (hr : ∀ r, row = some r → r ≠ N ∧ r ≠ N + 1 ∧ r ≠ N + 1 + 1 ∧ (w.heap.size ≤ r ∨ r = b)) : Pads w b N C B :=
  ⟨h.clu.grown hg fun e => (hr _ e.symm).2.1 rfl, h.res.grown hg fun e => (hr _ e.symm).1 rfl, h.it.grown hg fun e => (hr _ e.symm).2.2.1 rfl, grown_b h.gr hg fun r e => (hr r e).2.2.2⟩
def JI (w : World) (b N : Nat) (M : Int) (zs : List (Bool × Ev)) (W : World) : Prop := ∃ C, Pads w b N C W ∧ Few M zs.length C ∧ ((zs = [] ∧ C = Cl.nil) ∨ Gone C zs)
def JX (w : World) (b N : Nat) (id : Nat) (zs : List (Bool × Ev)) (W : World) : Prop := id = 0 ∧ ∃ C vs v, zs = vs ++ [v] ∧ Pads w b N C W ∧ Gone C vs ∧ C.to < v.2.e.pos
theorem JI.grown {w A B : World} {b N : Nat} {M : Int} {zs : List (Bool × Ev)} {row : Option Nat} (h : JI w b N M zs A) (hg : A.grownBy B row) (hr : ∀ r, row = some r → r ≠ N ∧ r ≠ N + 1 ∧ r ≠ N + 1 + 1 ∧ (w.heap.size ≤ r ∨ r = b)) : JI w b N M zs B := by
  obtain ⟨C, h1, h2⟩ := h
  exact ⟨C, h1.grown hg hr, h2⟩
theorem JX.grown {w A B : World} {b N : Nat} {id : Nat} {zs : List (Bool × Ev)} {row : Option Nat} (h : JX w b N id zs A) (hg : A.grownBy B row) (hr : ∀ r, row = some r → r ≠ N ∧ r ≠ N + 1 ∧ r ≠ N + 1 + 1 ∧ (w.heap.size ≤ r ∨ r = b)) : JX w b N id zs B := by
  obtain ⟨h0, C, vs, v, h1, h2, h3⟩ := h
  exact ⟨h0, C, vs, v, h1, h2.grown hg hr, h3⟩
end Go.Proofs.YtahcokfoifdlmaaGreatDoor.Al
