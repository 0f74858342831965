/-
  Rows of regions: such that came in, and such that the call itself owns.
-/
import Derived.Test.YtahcokfoifdlmaaGreatDoorQJH
import Derived.Test.YtahcokfoifdlmaaGreatDoorQWS
import Derived.Test.YtahcokfoifdlmaaGreatDoorKit
import Derived.BigQuiet
import Derived.Test.YtahcokfoifdlmaaGreatDoorQWA
namespace Go.Proofs.YtahcokfoifdlmaaGreatDoor.Al
open Go Go.RowKit Go.WideShapes Go.ChangeShapes Go.ChangeAt Go.ChangeMaps Go.Deep Kt Lw Li Df

/-- a region's cells -/
def rgC (r : Rg) : List Value := [.int .i64 r.kind, .int .i64 r.o0, .int .i64 r.on, .int .i64 r.a0, .int .i64 r.an, .int .i64 r.b0, .int .i64 r.bn]
/-- regions in a row of the call's own -/
def OwR (w : World) (B : Nat) (v : Value) (L : List Rg) : Prop := w.ownsRow B tR 7 v L.length (L.flatMap rgC)
/-- '.slice A n c' reads as these regions -/
def Rgs (w : World) (A : Option Addr) (c : Nat) (L : List Rg) : Prop :=
  L.length ≤ c ∧ (0 < L.length → ∃ b o, A = some ⟨b, o, none⟩ ∧ b < w.heap.size ∧ ∀ j r, L[j]? = some r → w.rangeAt b (o + 7 * j) (rgC r))
theorem OwR.nil (w : World) (B : Nat) : OwR w B (.slice none 0 0) [] := World.ownsRow_nil _ _ _ _
theorem Rgs.nil (w : World) (A : Option Addr) (c : Nat) : Rgs w A c [] := ⟨Nat.zero_le _, fun h => by simp at h⟩
theorem Rgs.keep {w w' : World} {A : Option Addr} {c : Nat} {L : List Rg} (h : Rgs w A c L) (hb : Below w.heap.size w w') : Rgs w' A c L :=
  ⟨h.1, fun hn => by
    obtain ⟨b, o, rfl, hlt, he⟩ := h.2 hn
    exact ⟨b, o, rfl, Nat.lt_of_lt_of_le hlt hb.size, fun j e hj i v hi => (World.cell?_of_block (a := ⟨b, o + 7 * j + i, none⟩) (hb.block b hlt)).trans (he j e hj i v hi)⟩⟩
theorem OwR.below {w w' : World} {B : Nat} {v : Value} {L : List Rg} (h : OwR w B v L) {B' : Nat} (hb : Below B' w w') (hv : ∀ g, v.ownBlock = some g → g < B') : OwR w' B v L := by
  refine ⟨h.1, ?_⟩
  rcases h.2 with ⟨h1, h2⟩ | ⟨g, cap, cur, hv', h1, h2, h3⟩
  · exact .inl ⟨h1, h2⟩
  · exact .inr ⟨g, cap, cur, hv', h1, (hb.block g (hv g (by rw [hv']; rfl))).trans h2, h3⟩
theorem OwR.keep {w w' : World} {B : Nat} {v : Value} {L : List Rg} (h : OwR w B v L) (hb : Below w.heap.size w w') : OwR w' B v L := h.below hb fun g hg => (World.ownsRow.lt h g hg).2
theorem OwR.grown {w w' : World} {B : Nat} {v : Value} {L : List Rg} {r : Option Nat} (h : OwR w B v L) (hg : w.grownBy w' r) (hr : ∀ g, v.ownBlock = some g → some g ≠ r) : OwR w' B v L := by
  refine ⟨h.1, ?_⟩
  rcases h.2 with ⟨h1, h2⟩ | ⟨g, cap, cur, hv', h1, h2, h3⟩
  · exact .inl ⟨h1, h2⟩
  · exact .inr ⟨g, cap, cur, hv', h1, (hg.block g (Array.getElem?_eq_some_iff.1 h2).1 (hr g (by rw [hv']; rfl))).trans h2, h3⟩
theorem OwR.base {w : World} {B B' : Nat} {v : Value} {L : List Rg} (h : OwR w B v L) (hb : B' ≤ B) : OwR w B' v L :=
  ⟨h.1, h.2.imp id fun ⟨g, cap, cur, hv', h1, h2⟩ => ⟨g, cap, cur, hv', Nat.le_trans hb h1, h2⟩⟩
theorem OwR.drewN {w : World} {B : Nat} {v : Value} {L : List Rg} (h : OwR w B v L) (n : Nat) : OwR (w.drewN n) B v L := h
theorem OwR.drew {w : World} {B : Nat} {v : Value} {L : List Rg} (h : OwR w B v L) : OwR w.drew B v L := h
/-- a block of other cells is none of the row's -/
theorem OwR.ne {w : World} {B g : Nat} {t : TypeId} {cs : List Value} {v : Value} {L : List Rg} (hrow : Row w g t cs) (ht : t ≠ tR) (h : OwR w B v L) : ∀ b, v.ownBlock = some b → b ≠ g := by
  intro b hb e
  subst e
  rcases h.2 with ⟨rfl, _⟩ | ⟨g', cap, cur, rfl, _, hg', _⟩
  · cases hb
  · simp only [Value.ownBlock, Option.some.injEq] at hb
    subst hb
    unfold Row at hrow
    rw [hg'] at hrow
    simp only [Option.some.injEq, Obj.cells.injEq] at hrow
    exact ht hrow.2.1.symm
/-- the region number k, in a world behind -/
theorem Rgs.at {w w' : World} {A : Option Addr} {c : Nat} {L : List Rg} (h : Rgs w A c L) (hb : Below w.heap.size w w') {k : Nat} (hk : k < L.length) :
    ∃ b o r, A = some ⟨b, o, none⟩ ∧ b < w.heap.size ∧ L[k]? = some r ∧ L.drop k = r :: L.drop (k + 1) ∧ (w'.cell? ⟨b, o + k * 7, none⟩ = some (.int .i64 r.kind) ∧ w'.cell? ⟨b, o + k * 7 + 1, none⟩ = some (.int .i64 r.o0) ∧ w'.cell? ⟨b, o + k * 7 + 2, none⟩ = some (.int .i64 r.on) ∧ w'.cell? ⟨b, o + k * 7 + 3, none⟩ = some (.int .i64 r.a0) ∧
      w'.cell? ⟨b, o + k * 7 + 4, none⟩ = some (.int .i64 r.an) ∧ w'.cell? ⟨b, o + k * 7 + 5, none⟩ = some (.int .i64 r.b0) ∧ w'.cell? ⟨b, o + k * 7 + 6, none⟩ = some (.int .i64 r.bn)) := by
  obtain ⟨b, o, rfl, hlt, he⟩ := h.2 (by omega)
  have h1 := he k _ (List.getElem?_eq_getElem hk)
  rw [Nat.mul_comm] at h1
  have h3 : ∀ i v, (rgC L[k])[i]? = some v → w'.cell? ⟨b, o + k * 7 + i, none⟩ = some v := fun i v hi => (World.cell?_of_block (a := ⟨b, o + k * 7 + i, none⟩) (hb.block b hlt)).trans (h1 i v hi)
  exact ⟨b, o, _, rfl, hlt, List.getElem?_eq_getElem hk, List.drop_eq_getElem_cons hk, h3 0 _ rfl, h3 1 _ rfl, h3 2 _ rfl, h3 3 _ rfl, h3 4 _ rfl, h3 5 _ rfl, h3 6 _ rfl⟩
section
variable {H : Type} {enc : TypeId × Value → H}
end
end Go.Proofs.YtahcokfoifdlmaaGreatDoor.Al
namespace Go.Proofs.YtahcokfoifdlmaaGreatDoor.Kg
open Go Go.RowKit Kt

/-- but the blocks of S, all that was there is as it was -/
structure Oth (S : Nat → Prop) (A B : World) : Prop where
  os : B.os = A.os
  tape : B.tape = A.tape
  output : B.output = A.output
  size : A.heap.size ≤ B.heap.size
  block : ∀ k, k < A.heap.size → ¬ S k → B.heap[k]? = A.heap[k]?
section
variable {S T : Nat → Prop} {A B C : World}
theorem Oth.refl (S : Nat → Prop) (A : World) : Oth S A A := ⟨rfl, rfl, rfl, Nat.le_refl _, fun _ _ _ => rfl⟩
theorem Oth.trans (h : Oth S A B) (k : Oth T B C) (hi : ∀ i, i < A.heap.size → T i → S i) : Oth S A C :=
  ⟨k.os.trans h.os, k.tape.trans h.tape, k.output.trans h.output, Nat.le_trans h.size k.size, fun i hl hn => (k.block i (Nat.lt_of_lt_of_le hl h.size) fun ht => hn (hi i hl ht)).trans (h.block i hl hn)⟩
theorem Oth.mono (h : Oth S A B) (hi : ∀ i, i < A.heap.size → S i → T i) : Oth T A B := ⟨h.os, h.tape, h.output, h.size, fun i hl hn => h.block i hl fun hs => hn (hi i hl hs)⟩
theorem Oth.of_below (S : Nat → Prop) (h : Below A.heap.size A B) : Oth S A B := ⟨h.os, h.tape, h.output, h.size, fun i hl _ => h.block i hl⟩
theorem Oth.below (h : Oth S A B) {n : Nat} {w0 : World} (hb : Below n w0 A) (hn : n ≤ A.heap.size) (hS : ∀ k, k < n → ¬ S k) : Below n w0 B :=
  ⟨h.os.trans hb.os, h.tape.trans hb.tape, h.output.trans hb.output, Nat.le_trans hb.size h.size, fun k hk => (h.block k (Nat.lt_of_lt_of_le hk hn) (hS k hk)).trans (hb.block k hk)⟩
theorem Oth.put (h : Oth S A B) {g i : Nat} (hg : S g ∨ A.heap.size ≤ g) (u : Value) : Oth S A (B.setCell ⟨g, i, none⟩ u) :=
  ⟨h.os, h.tape, h.output, by simpa [World.setCell] using h.size, fun k hk hn => (Below.heap_setCell B ⟨g, i, none⟩ u k (fun e => by
    subst e
    rcases hg with hg | hg
    · exact hn hg
    · omega)).trans (h.block k hk hn)⟩
theorem Oth.drew (h : Oth S A B) : Oth S A B.drew := ⟨h.os, h.tape, h.output, h.size, h.block⟩
theorem Oth.drewN (h : Oth S A B) (n : Nat) : Oth S A (B.drewN n) := ⟨h.os, h.tape, h.output, h.size, h.block⟩
theorem Oth.alloc (h : Oth S A B) (o : Obj) : Oth S A (B.alloc o) :=
  ⟨h.os, h.tape, h.output, Nat.le_trans h.size (by simp), fun k hk hn => (Below.heap_alloc B o k (Nat.lt_of_lt_of_le hk h.size)).trans (h.block k hk hn)⟩
theorem Oth.row {g : Nat} {t : TypeId} {cs : List Value} (h : Oth S A B) (hr : Row A g t cs) (hg : ¬ S g) : Row B g t cs := (h.block g hr.lt hg).trans hr
end
end Go.Proofs.YtahcokfoifdlmaaGreatDoor.Kg
namespace Go.Proofs.YtahcokfoifdlmaaGreatDoor.Al
open Go Go.RowKit Kt Kg Lw Li Df Kf

/-- the cells of lists that are parted -/
def psC (Ao : Option Addr) (no co : Nat) (x : Int) (Aa : Option Addr) (na ca : Nat) (y : Int) (Ab : Option Addr) (nb cb : Nat) (z : Int) (v : Value) : List Value :=
  [.slice Ao no co, .int .i64 x, .slice Aa na ca, .int .i64 y, .slice Ab nb cb, .int .i64 z, v]

end Go.Proofs.YtahcokfoifdlmaaGreatDoor.Al
namespace Go.Proofs.YtahcokfoifdlmaaGreatDoor.Al
open Go Go.RowKit Kt Kg Lw Li Df Kf

/-- what parts of a world the calls here ask and leave -/
structure Parts (w0 : World) (B0 : Nat) (W : World) (g : Nat) (Ao Aa Ab : Option Addr) (co ca cb : Nat) (o a b : Ls) (v : Value) (s : St) : Prop where
  row : Row W g tPs (psC Ao o.length co s.x Aa a.length ca s.y Ab b.length cb s.z v)
  own : OwR W B0 v s.l
  base : w0.heap.size ≤ B0 ∧ B0 ≤ W.heap.size
  low : Below w0.heap.size w0 W
  out : w0.heap.size ≤ g
/-- what came in -/
structure Trio (w0 : World) (Ao Aa Ab : Option Addr) (co ca cb : Nat) (o a b : Ls) : Prop where
  o_ : Vs w0 (fun b => b < w0.heap.size) Ao co (texts o)
  a_ : Vs w0 (fun b => b < w0.heap.size) Aa ca (texts a)
  b_ : Vs w0 (fun b => b < w0.heap.size) Ab cb (texts b)
  lo_ : o.length ≤ 1000
  la_ : a.length ≤ 1000
  lb_ : b.length ≤ 1000
section
variable {w0 w : World} {B0 g : Nat} {Ao Aa Ab : Option Addr} {co ca cb : Nat} {o a b : Ls} {v : Value} {s : St}
theorem Parts.grown {w' : World} {r : Option Nat} (h : Parts w0 B0 w g Ao Aa Ab co ca cb o a b v s) (hg : w.grownBy w' r) (hr : ∀ k, r = some k → w0.heap.size ≤ k ∧ k ≠ g ∧ (k < B0 ∨ w.heap.size ≤ k)) : Parts w0 B0 w' g Ao Aa Ab co ca cb o a b v s :=
  ⟨h.row.grown hg fun e => (hr g e.symm).2.1 rfl, h.own.grown hg fun k hk e => by
    have h1 := World.ownsRow.lt h.own k hk
    have h2 := (hr k e.symm).2.2
    omega, ⟨h.base.1, Nat.le_trans h.base.2 hg.size⟩, h.low.grown hg h.low.size fun k hk => (hr k hk).1, h.out⟩
theorem Parts.drew (h : Parts w0 B0 w g Ao Aa Ab co ca cb o a b v s) : Parts w0 B0 w.drew g Ao Aa Ab co ca cb o a b v s := ⟨h.row.drew, h.own.drew, h.base, h.low.drew, h.out⟩
end
end Go.Proofs.YtahcokfoifdlmaaGreatDoor.Al
