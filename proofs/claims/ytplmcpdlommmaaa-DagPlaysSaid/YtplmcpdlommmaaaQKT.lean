/-
  Rows of texts that the call itself owns: append, a slice of texts out of such a row.
-/
import Derived.Test.YtplmcpdlommmaaaQKitB
import Derived.Test.YtplmcpdlommmaaaKit
namespace Go.Proofs.Ytplmcpdlommmaaa.Kt
open Go Go.RowKit Lw

/-- a list of texts in a row of the call's own (E: the number of the type string) -/
def OwT (w : World) (B : Nat) (E : TypeId) (v : Value) (l : List (List UInt8)) : Prop := w.ownsRow B E 1 v l.length (texts l)
theorem texts_append (l r : List (List UInt8)) : texts (l ++ r) = texts l ++ texts r := by simp [texts]
theorem texts_one (l : List (List UInt8)) : ∀ v ∈ texts l, v.oneCell' = true := by
  intro v hv; simp only [texts, List.mem_map] at hv; obtain ⟨_, _, rfl⟩ := hv; rfl
section
variable {w w' : World} {B : Nat} {E : TypeId} {v : Value} {l : List (List UInt8)}
theorem OwT.nil (w : World) (B : Nat) (E : TypeId) : OwT w B E (.slice none 0 0) [] := World.ownsRow_nil w B E 1
theorem OwT.lit (w : World) (B : Nat) (E : TypeId) (l : List (List UInt8)) (c : Array Value) (hc : c = (texts l).toArray) (hB : B ≤ w.heap.size) (hl : l.length ≤ maxLen) :
    OwT (w.alloc (.cells c E)) B E (.slice (some ⟨w.heap.size, 0, none⟩) l.length l.length) l := by
  subst hc
  have := World.ownsRow_lit (e := E) (size := 1) (base := B) w (texts l).toArray l.length hB hl (by simp [texts_len])
  simpa [OwT] using this
theorem OwT.alloc (h : OwT w B E v l) (o : Obj) : OwT (w.alloc o) B E v l := World.ownsRow.alloc h o
theorem OwT.drew (h : OwT w B E v l) : OwT w.drew B E v l := h
theorem OwT.drewN (h : OwT w B E v l) (n : Nat) : OwT (w.drewN n) B E v l := h
theorem OwT.below (h : OwT w B E v l) {B' : Nat} (hb : Below B' w w') (hv : ∀ g, v.ownBlock = some g → g < B') : OwT w' B E v l := by
  refine ⟨h.1, ?_⟩
  rcases h.2 with ⟨h1, h2⟩ | ⟨g, cap, cur, hv', h1, h2, h3⟩
  · exact .inl ⟨h1, h2⟩
  · exact .inr ⟨g, cap, cur, hv', h1, (hb.block g (hv g (by rw [hv']; rfl))).trans h2, h3⟩
theorem OwT.kept (h : OwT w B E v l) (hb : Below w.heap.size w w') : OwT w' B E v l := h.below hb fun g hg => (World.ownsRow.lt h g hg).2
theorem OwT.vs (h : OwT w B E v l) : ∃ A c, v = .slice A l.length c ∧ Vs w (fun b => B ≤ b ∧ v.ownBlock = some b) A c (texts l) := by
  rcases h.2 with ⟨rfl, h0⟩ | ⟨g, cap, cur, rfl, hB, hg, hnc, hcm, hs, ht⟩
  · have e : l = [] := List.eq_nil_of_length_eq_zero h0
    subst e
    exact ⟨none, 0, rfl, Nat.le_refl _, fun h => by simp [texts] at h⟩
  · refine ⟨_, cap, rfl, by rw [texts_len]; exact hnc, fun _ => ⟨g, 0, rfl, ⟨hB, rfl⟩, fun j v hj => ?_⟩⟩
    have hlt : j < l.length := by have := (List.getElem?_eq_some_iff.1 hj).1; rwa [texts_len] at this
    have := World.ownsRow.cellAt (cap := cap) h j (by omega)
    rw [Nat.zero_add, this, hj]
end

theorem run_append_nothingT {P : Program} {w : World} {t ty e : TypeId} {i : TypeInfo} (ht : P.underlying t = some (.slice e)) (hi : P.info? e = some i) {B size : Nat}
    {v : Value} {n : Nat} {xs : List Value} (hown : w.ownsRow B e size v n xs) (c : Nat) : (Builtin.append_ #[t, t] ty #[v, .slice none 0 c]).run P w = .ok v w := by
  rcases hown.2 with ⟨rfl, rfl⟩ | ⟨g, cap, cur, rfl, _, _, hnc, _⟩
  · simp [Builtin.append_, run_underlying ht, sizeOf, typeInfo, hi, Builtin.lenOf, Builtin.firstCells]
  · simp [Builtin.append_, run_underlying ht, sizeOf, typeInfo, hi, Builtin.lenOf, Builtin.firstCells, hnc, storeCells]

/-- append(s, texts..) onto a row of texts of the call's own -/
theorem wp_catT {P : Program} {o : Oper} {a : Act} {K : Act → World → Prop} {Q : Exit → Act → World → Prop} {w : World} {E : TypeId}
    (s x : Operand) (t : TypeId) (ho : o.op = .call { callee := .builtin .append, args := #[s, x], argTypes := #[t, t] })
    (ht : P.underlying t = some (.slice E)) (hi : (P.info? E).map (fun i => (i.zero, i.size, i.bytes)) = some (some (.string ⟨#[]⟩), 1, 16))
    (B : Nat) (w0 : World) (v : Value) (l r : List (List UInt8)) (Pb : Nat → Prop) (A : Option Addr) (c : Nat) (hs : a.eval s = v) (hx : a.eval x = .slice A r.length c)
    (hown : OwT w B E v l) (hsl : Vs w Pb A c (texts r)) (hlen : l.length + r.length ≤ 4398046511104) (hb : Below B w0 w) (hbase : B ≤ w.heap.size)
    (h : ∀ v' w', OwT w' B E v' (l ++ r) → Below B w0 w' → w.grownBy w' v.ownBlock → K (a.put o.dst v') w') : o.wp P a w K Q := by
  obtain ⟨i0, hi0, hz0, hz1, hz2⟩ := info_parts hi
  cases A with
  | none =>
    have h0 : r = [] := by
      cases r with
      | nil => rfl
      | cons b r => obtain ⟨_, _, he, _⟩ := hsl.2 (by simp [texts]); cases he
    subst h0
    have hrun := run_append_nothingT (P := P) (ty := o.type) ht hi0 hown c
    simp only [List.length_nil] at hx
    unfold Oper.wp execOp
    simp only [ho, resolve, invoke, builtin, Sem.run_bind, Sem.run_pure, Result.andThen_ok, List.map_toArray, List.map_cons, List.map_nil, hs, hx, hrun]
    exact h v w (by simpa using hown) hb (World.grownBy.refl _ _)
  | some ad =>
    refine wp_append_own _ s x t ho B E i0 (.string ⟨#[]⟩) 1 16 ht hi0 hz0 hz1 hz2 rfl (by omega) v l.length (texts l) hs hown ad r.length c (texts r) hx (by simp [texts_len])
      (fun j u hu => ?_) (texts_one r) (by unfold maxLen; omega) (by omega) hbase (fun v' w' h1 h2 _ => ?_)
    · have hj : j < r.length := by have := (List.getElem?_eq_some_iff.1 hu).1; rwa [texts_len] at this
      obtain ⟨b, k, he, _, hc⟩ := hsl.2 (by rw [texts_len]; omega)
      injection he with he
      subst he
      rw [Addr.add_mid]
      exact hc j u hu
    · refine h v' w' ?_ (hb.grown h2 hbase fun k hk => (World.ownsRow.lt hown k hk).1) h2
      unfold OwT
      rw [List.length_append, texts_append]
      exact h1
theorem wpList_catT {P : Program} {ops : Array Oper} {rest : List Oper} {o : Oper} {a : Act} {Q : Exit → Act → World → Prop} {w : World} {E : TypeId}
    (hgd : o.guard = none) (s x : Operand) (t : TypeId) (ho : o.op = .call { callee := .builtin .append, args := #[s, x], argTypes := #[t, t] })
    (ht : P.underlying t = some (.slice E)) (hi : (P.info? E).map (fun i => (i.zero, i.size, i.bytes)) = some (some (.string ⟨#[]⟩), 1, 16))
    (B : Nat) (w0 : World) (v : Value) (l r : List (List UInt8)) (Pb : Nat → Prop) (A : Option Addr) (c : Nat) (hs : a.eval s = v) (hx : a.eval x = .slice A r.length c)
    (hown : OwT w B E v l) (hsl : Vs w Pb A c (texts r)) (hlen : l.length + r.length ≤ 4398046511104) (hb : Below B w0 w) (hbase : B ≤ w.heap.size)
    (h : ∀ v' w', OwT w' B E v' (l ++ r) → Below B w0 w' → w.grownBy w' v.ownBlock → wpList P ops Q rest (a.put o.dst v') w') : wpList P ops Q (o :: rest) a w :=
  wpList_plain hgd fun _ hK => wp_catT s x t ho ht hi B w0 v l r Pb A c hs hx hown hsl hlen hb hbase fun v' w' h1 h2 h3 => hK _ _ (h v' w' h1 h2 h3)
/-- the same where the operation's guard says yes -/
theorem wpList_catTg {P : Program} {ops : Array Oper} {rest : List Oper} {o : Oper} {a : Act} {Q : Exit → Act → World → Prop} {w : World} {E : TypeId}
    (hgd : Region.wanted o (yielded ops a.tmps) = true) (s x : Operand) (t : TypeId) (ho : o.op = .call { callee := .builtin .append, args := #[s, x], argTypes := #[t, t] })
    (ht : P.underlying t = some (.slice E)) (hi : (P.info? E).map (fun i => (i.zero, i.size, i.bytes)) = some (some (.string ⟨#[]⟩), 1, 16))
    (B : Nat) (w0 : World) (v : Value) (l r : List (List UInt8)) (Pb : Nat → Prop) (A : Option Addr) (c : Nat) (hs : a.eval s = v) (hx : a.eval x = .slice A r.length c)
    (hown : OwT w B E v l) (hsl : Vs w Pb A c (texts r)) (hlen : l.length + r.length ≤ 4398046511104) (hb : Below B w0 w) (hbase : B ≤ w.heap.size)
    (h : ∀ v' w', OwT w' B E v' (l ++ r) → Below B w0 w' → w.grownBy w' v.ownBlock → wpList P ops Q rest (a.put o.dst v') w') : wpList P ops Q (o :: rest) a w :=
  wpList_step fun K hK => by
    rw [if_pos hgd]
    exact wp_catT s x t ho ht hi B w0 v l r Pb A c hs hx hown hsl hlen hb hbase fun v' w' h1 h2 h3 => hK _ _ (h v' w' h1 h2 h3)
theorem Vs.one (w : World) (E : TypeId) (y : List UInt8) : Vs (w.alloc (.cells #[.string ⟨y.toArray⟩] E)) (fun _ => True) (some ⟨w.heap.size, 0, none⟩) 1 (texts [y]) :=
  ⟨by simp [texts], fun _ => ⟨w.heap.size, 0, rfl, trivial, fun j v hj => by
    rw [Nat.zero_add, (Row.fresh w _ _).cell]
    exact hj⟩⟩
end Go.Proofs.Ytplmcpdlommmaaa.Kt
namespace Go.Proofs.Ytplmcpdlommmaaa.Kg
open Go Go.RowKit Kt

/-- but the blocks of S, all that was there is as it was -/
structure Oth (S : Nat → Prop) (A B : World) : Prop where
  os : B.os = A.os
  tape : B.tape = A.tape
  output : B.output = A.output
  size : A.heap.size ≤ B.heap.size
  block : ∀ k, k < A.heap.size → ¬ S k → B.heap[k]? = A.heap[k]?
section
variable {S T : Nat → Prop} {A B C : World}
theorem Oth.refl (S : Nat → Prop) (A : World) : Oth S A A := ⟨rfl, rfl, rfl, Nat.le_refl _, fun _ _ _ => rfl⟩
theorem Oth.trans (h : Oth S A B) (k : Oth T B C) (hi : ∀ i, i < A.heap.size → T i → S i) : Oth S A C :=
  ⟨k.os.trans h.os, k.tape.trans h.tape, k.output.trans h.output, Nat.le_trans h.size k.size, fun i hl hn => (k.block i (Nat.lt_of_lt_of_le hl h.size) fun ht => hn (hi i hl ht)).trans (h.block i hl hn)⟩
theorem Oth.mono (h : Oth S A B) (hi : ∀ i, i < A.heap.size → S i → T i) : Oth T A B := ⟨h.os, h.tape, h.output, h.size, fun i hl hn => h.block i hl fun hs => hn (hi i hl hs)⟩
theorem Oth.of_below (S : Nat → Prop) (h : Below A.heap.size A B) : Oth S A B := ⟨h.os, h.tape, h.output, h.size, fun i hl _ => h.block i hl⟩
theorem Oth.of_grown {r : Option Nat} (h : A.grownBy B r) (hr : ∀ g, r = some g → S g) : Oth S A B :=
  ⟨h.os, h.tape, h.output, h.size, fun i hl hn => h.block i hl fun e => hn (hr i e.symm)⟩
theorem Oth.below (h : Oth S A B) {n : Nat} {w0 : World} (hb : Below n w0 A) (hn : n ≤ A.heap.size) (hS : ∀ k, k < n → ¬ S k) : Below n w0 B :=
  ⟨h.os.trans hb.os, h.tape.trans hb.tape, h.output.trans hb.output, Nat.le_trans hb.size h.size, fun k hk => (h.block k (Nat.lt_of_lt_of_le hk hn) (hS k hk)).trans (hb.block k hk)⟩
theorem Oth.put (h : Oth S A B) {g i : Nat} (hg : S g ∨ A.heap.size ≤ g) (u : Value) : Oth S A (B.setCell ⟨g, i, none⟩ u) :=
  ⟨h.os, h.tape, h.output, by simpa [World.setCell] using h.size, fun k hk hn => (Below.heap_setCell B ⟨g, i, none⟩ u k (fun e => by
    subst e
    rcases hg with hg | hg
    · exact hn hg
    · omega)).trans (h.block k hk hn)⟩
theorem Oth.drew (h : Oth S A B) : Oth S A B.drew := ⟨h.os, h.tape, h.output, h.size, h.block⟩
theorem Oth.drewN (h : Oth S A B) (n : Nat) : Oth S A (B.drewN n) := ⟨h.os, h.tape, h.output, h.size, h.block⟩
theorem Oth.alloc (h : Oth S A B) (o : Obj) : Oth S A (B.alloc o) :=
  ⟨h.os, h.tape, h.output, Nat.le_trans h.size (by simp), fun k hk hn => (Below.heap_alloc B o k (Nat.lt_of_lt_of_le hk h.size)).trans (h.block k hk hn)⟩
theorem Oth.row {g : Nat} {t : TypeId} {cs : List Value} (h : Oth S A B) (hr : Row A g t cs) (hg : ¬ S g) : Row B g t cs := (h.block g hr.lt hg).trans hr
theorem grown_two {r : Option Nat} (h : A.grownBy B r) (k : B.grownBy C r) : A.grownBy C r :=
  ⟨k.os.trans h.os, k.tape.trans h.tape, k.output.trans h.output, Nat.le_trans h.size k.size, fun i hi hne => (k.block i (Nat.lt_of_lt_of_le hi h.size) hne).trans (h.block i hi hne)⟩
end
end Go.Proofs.Ytplmcpdlommmaaa.Kg
