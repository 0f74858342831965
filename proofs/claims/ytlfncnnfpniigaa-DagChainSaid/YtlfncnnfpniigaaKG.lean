/-
  What stays but for some blocks.
-/
import Derived.Test.YtlfncnnfpniigaaKit
namespace Go.Proofs.Ytlfncnnfpniigaa.Kg
open Go Go.RowKit Kt

/-- but the blocks of S, all that was there is as it was -/
structure Oth (S : Nat → Prop) (A B : World) : Prop where
  os : B.os = A.os
  tape : B.tape = A.tape
  output : B.output = A.output
  size : A.heap.size ≤ B.heap.size
  block : ∀ k, k < A.heap.size → ¬ S k → B.heap[k]? = A.heap[k]?
section
variable {S T : Nat → Prop} {A B C : World}
theorem Oth.refl (S : Nat → Prop) (A : World) : Oth S A A := ⟨rfl, rfl, rfl, Nat.le_refl _, fun _ _ _ => rfl⟩
theorem Oth.trans (h : Oth S A B) (k : Oth T B C) (hi : ∀ i, i < A.heap.size → T i → S i) : Oth S A C :=
  ⟨k.os.trans h.os, k.tape.trans h.tape, k.output.trans h.output, Nat.le_trans h.size k.size, fun i hl hn => (k.block i (Nat.lt_of_lt_of_le hl h.size) fun ht => hn (hi i hl ht)).trans (h.block i hl hn)⟩
theorem Oth.mono (h : Oth S A B) (hi : ∀ i, i < A.heap.size → S i → T i) : Oth T A B := ⟨h.os, h.tape, h.output, h.size, fun i hl hn => h.block i hl fun hs => hn (hi i hl hs)⟩
theorem Oth.of_below (S : Nat → Prop) (h : Below A.heap.size A B) : Oth S A B := ⟨h.os, h.tape, h.output, h.size, fun i hl _ => h.block i hl⟩
theorem Oth.of_grown {r : Option Nat} (h : A.grownBy B r) (hr : ∀ g, r = some g → S g) : Oth S A B :=
  ⟨h.os, h.tape, h.output, h.size, fun i hl hn => h.block i hl fun e => hn (hr i e.symm)⟩
theorem Oth.below (h : Oth S A B) {n : Nat} {w0 : World} (hb : Below n w0 A) (hn : n ≤ A.heap.size) (hS : ∀ k, k < n → ¬ S k) : Below n w0 B :=
  ⟨h.os.trans hb.os, h.tape.trans hb.tape, h.output.trans hb.output, Nat.le_trans hb.size h.size, fun k hk => (h.block k (Nat.lt_of_lt_of_le hk hn) (hS k hk)).trans (hb.block k hk)⟩
theorem Oth.put (h : Oth S A B) {g i : Nat} (hg : S g ∨ A.heap.size ≤ g) (u : Value) : Oth S A (B.setCell ⟨g, i, none⟩ u) :=
  ⟨h.os, h.tape, h.output, by simpa [World.setCell] using h.size, fun k hk hn => (Below.heap_setCell B ⟨g, i, none⟩ u k (fun e => by
    subst e
    rcases hg with hg | hg
    · exact hn hg
    · omega)).trans (h.block k hk hn)⟩
theorem Oth.drew (h : Oth S A B) : Oth S A B.drew := ⟨h.os, h.tape, h.output, h.size, h.block⟩
theorem Oth.drewN (h : Oth S A B) (n : Nat) : Oth S A (B.drewN n) := ⟨h.os, h.tape, h.output, h.size, h.block⟩
theorem Oth.alloc (h : Oth S A B) (o : Obj) : Oth S A (B.alloc o) :=
  ⟨h.os, h.tape, h.output, Nat.le_trans h.size (by simp), fun k hk hn => (Below.heap_alloc B o k (Nat.lt_of_lt_of_le hk h.size)).trans (h.block k hk hn)⟩
theorem Oth.row {g : Nat} {t : TypeId} {cs : List Value} (h : Oth S A B) (hr : Row A g t cs) (hg : ¬ S g) : Row B g t cs := (h.block g hr.lt hg).trans hr
theorem grown_two {r : Option Nat} (h : A.grownBy B r) (k : B.grownBy C r) : A.grownBy C r :=
  ⟨k.os.trans h.os, k.tape.trans h.tape, k.output.trans h.output, Nat.le_trans h.size k.size, fun i hi hne => (k.block i (Nat.lt_of_lt_of_le hi h.size) hne).trans (h.block i hi hne)⟩
end
end Go.Proofs.Ytlfncnnfpniigaa.Kg
