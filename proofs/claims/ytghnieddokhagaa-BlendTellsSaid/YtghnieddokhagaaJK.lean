/-
  The next cluster, in memory.
-/
import Derived.Test.YtghnieddokhagaaQJI
import Derived.Test.YtghnieddokhagaaQJH
import Derived.Laws.ResultCell
import Derived.Scope
import Derived.ControlIn
import Derived.Laws.Rows
namespace Go.Proofs.Ytghnieddokhagaa.Al
open Go Go.RowKit Go.Shelf Kt Lw Li Df Rs
attribute [local go_sem] Oper.semAt_some

theorem firm_row {β : Type} {b g : Nat} {t : TypeId} (f : β → List Value) (h : g ≠ b) : Firm b (fun s W => Row W g t (f s)) := fun _ _ _ hr hg => hr.grown hg (by simp; exact h)
theorem own_row {β : Type} {B g : Nat} {t : TypeId} (f : β → List Value) (h : g < B) : OwnFrom B (fun s W => Row W g t (f s)) := fun _ _ _ _ hr hg hro => hr.grown hg (fun e => by have := (hro _ e.symm).1; omega)
theorem grown_b {w A B : World} {b : Nat} {row : Option Nat} (h : w.grownBy A (some b)) (hg : A.grownBy B row) (hr : ∀ r, row = some r → w.heap.size ≤ r ∨ r = b) : w.grownBy B (some b) :=
  ⟨hg.os.trans h.os, hg.tape.trans h.tape, hg.output.trans h.output, Nat.le_trans h.size hg.size, fun k hk hne => (hg.block k (Nat.lt_of_lt_of_le hk h.size) (fun e => by
    rcases hr k e.symm with h1 | h1
    · omega
    · exact hne (by rw [h1]))).trans (h.block k hk hne)⟩
/-- what a cluster of up to k edits has -/
structure Few (M : Int) (k : Nat) (C : Cl) : Prop where
  to : 0 ≤ C.to ∧ C.to ≤ M
  n0 : 0 ≤ C.n0 ∧ C.n0 ≤ k
  n1 : 0 ≤ C.n1 ∧ C.n1 ≤ k
  m0 : -(k * 1000000) ≤ C.m0 ∧ C.m0 ≤ k * 1000000
  m1 : -(k * 1000000) ≤ C.m1 ∧ C.m1 ≤ k * 1000000
theorem Few.take {M : Int} {k : Nat} {C : Cl} (h : Few M k C) (s : Bool) (e : Ed) (he : 0 ≤ e.pos ∧ 0 ≤ e.del ∧ e.pos + e.del ≤ M ∧ e.ins.length ≤ 1000000) (hM : M ≤ 1000000) : Few M (k + 1) (C.take s e) := by
  obtain ⟨⟨a1, a2⟩, ⟨b1, b2⟩, ⟨c1, c2⟩, ⟨d1, d2⟩, e1, e2⟩ := h
  cases s
  · refine ⟨?_, ?_, ?_, ?_, ?_⟩ <;> simp only [Cl.take, Bool.false_eq_true, if_false] <;> omega
  · refine ⟨?_, ?_, ?_, ?_, ?_⟩ <;> simp only [Cl.take, if_true] <;> omega
theorem Few.sm {M : Int} {k : Nat} {C : Cl} (h : Few M k C) (hM : M ≤ 1000000) (hk : k ≤ 100000) : C.Sm := by
  obtain ⟨⟨a1, a2⟩, ⟨b1, b2⟩, ⟨c1, c2⟩, ⟨d1, d2⟩, e1, e2⟩ := h
  exact ⟨by omega, by omega, by omega, by omega, by omega⟩
/-- the cluster so far, of those that have come -/
def Gone (C : Cl) (zs : List (Bool × Ev)) : Prop := ∃ s e l, zs.map pr = (s, e) :: l ∧ (∀ rest, grow ((Cl.zero e.pos).take s e) (l ++ rest) = grow C rest) ∧ 0 < C.n0 + C.n1
theorem Gone.more {C : Cl} {zs : List (Bool × Ev)} {x : Bool × Ev} (h : Gone C zs) (hx : ¬ C.to < x.2.e.pos) (_h0 : 0 ≤ C.n0 ∧ 0 ≤ C.n1) : Gone (C.take x.1 x.2.e) (zs ++ [x]) := by
  obtain ⟨s, e, l, h1, h2, h3⟩ := h
  refine ⟨s, e, l ++ [pr x], by rw [List.map_append, h1]; rfl, fun rest => ?_, ?_⟩
  · rw [List.append_assoc, h2, List.singleton_append]
    show grow C ((x.1, x.2.e) :: rest) = _
    rw [grow, if_neg hx]
  · unfold Cl.take
    split <;> simp only <;> omega
theorem Gone.first (C : Cl) (x : Bool × Ev) (hC : C = (Cl.zero x.2.e.pos).take x.1 x.2.e) : Gone C [x] := by
  refine ⟨x.1, x.2.e, [], rfl, fun rest => by rw [hC]; rfl, ?_⟩
  rw [hC]
  unfold Cl.take Cl.zero
  split <;> simp
theorem grown_both {A B C : World} {r : Option Nat} (h : A.grownBy B r) (k : B.grownBy C r) : A.grownBy C r :=
  ⟨k.os.trans h.os, k.tape.trans h.tape, k.output.trans h.output, Nat.le_trans h.size k.size, fun i hi hne => (k.block i (Nat.lt_of_lt_of_le hi h.size) hne).trans (h.block i hi hne)⟩
theorem kpE_grown {w0 A B : World} {b Bs : Nat} {row : Option Nat} (hg : A.grownBy B row) (hb : b < A.heap.size) (hBs : Bs < A.heap.size) (h0 : w0.heap.size ≤ A.heap.size) (hr : ∀ r, row = some r → w0.heap.size ≤ r ∧ r ≠ b ∧ r ≠ Bs) : KpE w0 b Bs A B :=
  ⟨(Below.refl _ _).grown hg h0 fun k e => (hr k e).1, hg.block b hb fun e => (hr b e.symm).2.1 rfl, hg.block Bs hBs fun e => (hr Bs e.symm).2.2 rfl⟩
theorem Ct.grown {w0 A B : World} {b : Nat} {xs ys : List Ed} {row : Option Nat} (h : Ct w0 A b xs ys) (hg : A.grownBy B row) (hr : ∀ r, row = some r → w0.heap.size ≤ r ∧ r ≠ b) : Ct w0 B b xs ys := by
  obtain ⟨A1, c, A', c', hrow, h1, h2⟩ := h.st
  exact ⟨h.low.grown hg fun k e => (hr k e).1, h.out, A1, c, A', c', hrow.grown hg fun e => (hr b e.symm).2 rfl, h1, h2⟩
theorem take_any (s : Bool) (g : Nat) (c : Cl) (e : Ed) (A : Option Addr) (k : Nat) (w : World) (hr : Row w g tC (clC c)) (hc : c.Sm) (hp : -1099511627776 ≤ e.pos ∧ e.pos ≤ 1099511627776) (hd : -1099511627776 ≤ e.del ∧ e.del ≤ 1099511627776) (hi : e.ins.length ≤ 1099511627776) :
    Calls Try.prog 79 #[.pointer (some ⟨g, 0, none⟩), sideV s, .agg #[.int .i64 e.pos, .int .i64 e.del, .slice A e.ins.length k]] w fun y w' => y = .returned (.tuple #[]) ∧ Row w' g tC (clC (c.take s e)) ∧ w.grownBy w' (some g) := by
  cases s
  · exact take_a g c e A k w hr hc hp hd hi
  · exact take_b g c e A k w hr hc hp hd hi
/-- no edit yet -/
def Cl.nil : Cl := ⟨0, 0, 0, 0, 0, 0⟩
/-- what a round of the loop finds: the cluster's block, the result's, the iterator's -/
structure Pads (w : World) (b N : Nat) (C : Cl) (W : World) : Prop where
  clu : Row W (N + 1) tC (clC C)
  res : Row W N tC (clC Cl.nil)
  it : Row W (N + 1 + 1) 117 [.pointer (some ⟨b, 0, none⟩)]
  gr : w.grownBy W (some b)
theorem Pads.grown {w A B : World} {b N : Nat} {C : Cl} {row : Option Nat} (h : Pads w b N C A) (hg : A.grownBy B row) (hr : ∀ r, row = some r → r ≠ N ∧ r ≠ N + 1 ∧ r ≠ N + 1 + 1 ∧ (w.heap.size ≤ r ∨ r = b)) : Pads w b N C B :=
  ⟨h.clu.grown hg fun e => (hr _ e.symm).2.1 rfl, h.res.grown hg fun e => (hr _ e.symm).1 rfl, h.it.grown hg fun e => (hr _ e.symm).2.2.1 rfl, grown_b h.gr hg fun r e => (hr r e).2.2.2⟩
theorem Pads.turn {w A B : World} {b N : Nat} {C C' : Cl} (h : Pads w b N C A) (hg : A.grownBy B (some (N + 1))) (hN : w.heap.size ≤ N) (hc : Row B (N + 1) tC (clC C')) : Pads w b N C' B :=
  ⟨hc, h.res.grown hg fun e => by injection e with e; omega, h.it.grown hg fun e => by injection e with e; omega, grown_b h.gr hg fun r e => by cases e; exact .inl (by omega)⟩
def JI (w : World) (b N : Nat) (M : Int) (zs : List (Bool × Ev)) (W : World) : Prop := ∃ C, Pads w b N C W ∧ Few M zs.length C ∧ ((zs = [] ∧ C = Cl.nil) ∨ Gone C zs)
def JX (w : World) (b N : Nat) (id : Nat) (zs : List (Bool × Ev)) (W : World) : Prop := id = 0 ∧ ∃ C vs v, zs = vs ++ [v] ∧ Pads w b N C W ∧ Gone C vs ∧ C.to < v.2.e.pos
theorem JI.grown {w A B : World} {b N : Nat} {M : Int} {zs : List (Bool × Ev)} {row : Option Nat} (h : JI w b N M zs A) (hg : A.grownBy B row) (hr : ∀ r, row = some r → r ≠ N ∧ r ≠ N + 1 ∧ r ≠ N + 1 + 1 ∧ (w.heap.size ≤ r ∨ r = b)) : JI w b N M zs B := by
  obtain ⟨C, h1, h2⟩ := h
  exact ⟨C, h1.grown hg hr, h2⟩
theorem JX.grown {w A B : World} {b N : Nat} {id : Nat} {zs : List (Bool × Ev)} {row : Option Nat} (h : JX w b N id zs A) (hg : A.grownBy B row) (hr : ∀ r, row = some r → r ≠ N ∧ r ≠ N + 1 ∧ r ≠ N + 1 + 1 ∧ (w.heap.size ≤ r ∨ r = b)) : JX w b N id zs B := by
  obtain ⟨h0, C, vs, v, h1, h2, h3⟩ := h
  exact ⟨h0, C, vs, v, h1, h2.grown hg hr, h3⟩
/-- a round's frame -/
def roundT (b N q : Nat) (x : Bool × Ev) : Array Value := #[.pointer (some ⟨b, 0, none⟩), undef, .pointer (some ⟨N, 0, none⟩), .pointer (some ⟨N + 1, 0, none⟩), sideV x.1, .pointer (some ⟨q, 0, none⟩), .pointer (some ⟨b, 0, none⟩), .func (.func 91) #[] #[.pointer (some ⟨N + 1 + 1, 0, none⟩)], sideV x.1, evV x.2, undef, undef, undef, undef, undef, undef, undef, undef, undef, undef, undef, undef, undef, undef, undef]
def JA (b N : Nat) (x : Bool × Ev) (a : Act) (W : World) : Prop := ∃ q, N + 1 + 1 < q ∧ Row W q tE [.int .i64 x.2.e.pos, .int .i64 x.2.e.del, .slice x.2.A x.2.e.ins.length x.2.c] ∧ a = { tmps := roundT b N q x, defers := [] }
theorem gone_end {C : Cl} {zs : List (Bool × Ev)} {d : Bool} {e : Ed} {r rest : List (Bool × Ed)} (h : Gone C zs) (hm : zs.map pr ++ rest = (d, e) :: r) (hr : grow C rest = (C, rest)) : C = clo d e r ∧ rest = clr d e r := by
  obtain ⟨s, e', l, h1, h2, _⟩ := h
  rw [h1, List.cons_append] at hm
  injection hm with hm1 hm2
  injection hm1 with hm3 hm4
  subst hm3 hm4
  have h3 := h2 rest
  rw [hr, hm2] at h3
  unfold clo clr
  rw [h3]
  exact ⟨rfl, rfl⟩
set_option maxRecDepth 100000 in
set_option maxHeartbeats 2000000 in
theorem next_any (w0 w : World) (b : Nat) (X Y : List Ed) (d : Bool) (e : Ed) (r : List (Bool × Ed)) (M : Int) (hm : mrg X Y = (d, e) :: r) (hct : Ct w0 w b X Y) (hbw : b < w.heap.size)
    (hM : M ≤ 1000000) (hN : X.length + Y.length ≤ 100000) (hall : ∀ p ∈ mrg X Y, 0 ≤ p.2.pos ∧ 0 ≤ p.2.del ∧ p.2.pos + p.2.del ≤ M ∧ p.2.ins.length ≤ 1000000) :
    Calls Try.prog 58 #[.pointer (some ⟨b, 0, none⟩)] w fun y w' => ∃ X' Y', y = .returned (.agg (clC (clo d e r)).toArray) ∧ mrg X' Y' = clr d e r ∧ Ct w0 w' b X' Y' ∧ w.grownBy w' (some b) := by
  have Hall := hide hall
  have Hm := hide hm
  have Hct := hide hct
  clear hall hm hct
  refine (callsIn_wide (n := 9)).1 ?_
  refine callsIn_of_wp_marks Try.func58 rfl trivial ?_ rfl
  simp only [Try.ntmps58, List.size_toArray, List.length_cons, List.length_nil, Nat.reduceAdd, Nat.reduceSub, Array.replicate_succ, Array.replicate_zero, List.push_toArray, List.append_toArray, List.nil_append, List.cons_append]
  gi_wp2
  refine wpIn_wide.2 (wp_scope_straight ((wpIn_wide (n := 9)).1 ?_))
  gi_wp2
  refine wpIn_label ?_
  gi_wp2_with (refine ⟨trivial, ?_⟩; gi_at_call 77; refine (callsIn_wide.2 (each_any b _)).mono ?_; rintro e' w' ⟨rfl, rfl⟩)
  obtain ⟨w3, hw3⟩ : ∃ w3, w3 = ((w.alloc (.cells #[.int .i64 0, .int .i64 0, .int .i64 0, .int .i64 0, .int .i64 0, .int .i64 0] tC)).alloc (.cells #[.int .i64 0, .int .i64 0, .int .i64 0, .int .i64 0, .int .i64 0, .int .i64 0] tC)).alloc (.cells #[.pointer (some ⟨b, 0, none⟩)] 117) := ⟨_, rfl⟩
  have rowR : Row w3 w.heap.size tC (clC ⟨0, 0, 0, 0, 0, 0⟩) := by
    rw [hw3]; exact ((Row.fresh w tC _).alloc _).alloc _
  have rowG : Row w3 (w.heap.size + 1) tC (clC ⟨0, 0, 0, 0, 0, 0⟩) := by
    rw [hw3]
    refine Row.alloc ?_ _
    exact Row.new _ tC (by simp) rfl
  have rowB : Row w3 (w.heap.size + 1 + 1) 117 [.pointer (some ⟨b, 0, none⟩)] := by
    rw [hw3]
    exact Row.new _ _ (by simp) rfl
  have hsz : w3.heap.size = w.heap.size + 1 + 1 + 1 := by rw [hw3]; simp
  have hgr : w.grownBy w3 (some b) := by
    rw [hw3]
    exact grown_b (grown_b (World.grownBy_alloc w _ (some b)) (World.grownBy_alloc _ _ none) (fun r e => by cases e)) (World.grownBy_alloc _ _ none) (fun r e => by cases e)
  have hct3 : Ct w0 w3 b X Y := by
    rw [hw3]
    exact ((Hct.out.grown (World.grownBy_alloc w _ none) fun r e => by cases e).grown (World.grownBy_alloc _ _ none) fun r e => by cases e).grown (World.grownBy_alloc _ _ none) fun r e => by cases e
  rw [← hw3]
  clear hw3
  obtain ⟨N, hN⟩ : ∃ N, N = w.heap.size := ⟨_, rfl⟩
  rw [← hN] at rowR rowG rowB hsz hbw ⊢
  have hwN : w0.heap.size ≤ N := by rw [hN]; exact Hct.out.low.size
  have hb0 := Hct.out.out
  have hBs := rowB.cell 0
  simp only [List.getElem?_cons_zero] at hBs
  have hpads : Pads w b N Cl.nil w3 := ⟨rowG, rowR, rowB, hgr⟩
  have hM0 : 0 ≤ M := by have := Hall.out (d, e) (by rw [Hm.out]; simp); omega
  have hwl : w.heap.size ≤ N := by omega
  have hml := mrg_len _ X Y (Nat.le_refl _)
  clear rowG rowR rowB hgr hN
  refine range_st rfl (by omega) (gf := 91) (lb := #[.pointer (some ⟨N + 1 + 1, 0, none⟩)]) rfl trivial (enters_of Try.func91 (by kernel_rfl) rfl)
    (encs := encS) (b := b) (Kp := KpE w0 b (N + 1 + 1)) (by omega) (each_st 8 (by omega) w0 w3 b (N + 1 + 1) X Y hct3 (by omega) hBs (by omega) (by omega))
    (fun h h' => ⟨h.1.trans h'.1, h'.2.1.trans h.2.1, h'.2.2.trans h.2.2⟩)
    (fun W r o hl => ⟨belowK_b (w := w3) (by omega) W _ _ _ (by omega) hl rfl rfl, World.putObj_heap_other (by omega), World.putObj_heap_other (by omega)⟩)
    (fun _ => rfl)
    (JI w b N M) (JX w b N) ?_ ?_ ?_ ?_ ?_ ?_ ?_ (JA b N) ?_ ?_ ?_ ?_ ?_
  · exact fun zs W W' row h hg hro => h.grown hg fun r e => by have := (hro r e).1; omega
  · exact fun c zs W W' row h hg hro => h.grown hg fun r e => by have := (hro r e).1; omega
  · exact fun zs A B h hg => h.grown hg fun r e => by cases e; omega
  · exact fun c zs A B h hg => h.grown hg fun r e => by cases e; omega
  · rintro zs W W' row ⟨h1, h2⟩ hg hro
    exact ⟨h1, h2.grown hg fun r e => by have := (hro r e).1; omega⟩
  · rintro zs W W' row ⟨X', Y', vs, v, h1, h2, h3, h4⟩ hg hro
    exact ⟨X', Y', vs, v, h1, h2, h3, h4.grown hg fun r e => by have := (hro r e).1; omega⟩
  · exact ⟨_, hpads, ⟨by simp [Cl.nil]; omega, by simp [Cl.nil], by simp [Cl.nil], by simp [Cl.nil], by simp [Cl.nil]⟩, .inl ⟨rfl, rfl⟩⟩
  · rintro x a' _ W W' row ⟨q, h1, h2, h3⟩ hg hro
    refine ⟨q, h1, h2.grown hg fun e => ?_, h3⟩
    obtain ⟨_, o, ho, hc⟩ := hro q e.symm
    unfold Row at h2
    rw [h2] at ho
    cases ho
    simp [Obj.isCells] at hc
  · rintro l pre ⟨s, ⟨p, dl, I⟩, A, c⟩ W K hI hK
    simp only [encS, evV]
    simp
    have HK := hide hK
    have HI := hide hI
    clear hK hI
    obtain ⟨sv, hsv⟩ : ∃ sv, sv = sideV s := ⟨_, rfl⟩
    rw [← hsv]
    have Hsv := hide hsv
    clear hsv
    gi_wp2
    obtain ⟨C, h1, h2⟩ := HI.out
    have hg : W.grownBy (W.alloc (.cells #[.int .i64 p, .int .i64 dl, .slice A I.length c] tE)) none := World.grownBy_alloc W _ none
    have hlt := h1.it.lt
    have hlb : b < W.heap.size := by have := h1.clu.lt; omega
    exact HK.out _ _ (KeepsFrom.of_grownBy hg fun j e => by cases e) (kpE_grown hg hlb hlt (by omega) fun r e => by cases e) (HI.out.grown hg fun r e => by cases e)
      ⟨W.heap.size, by omega, Row.fresh W tE _, by rw [Hsv.out]; rfl⟩
  · rintro l pre ⟨s, ⟨p, dl, I⟩, A, c⟩ a' W hl ⟨C, hp, hf, hg⟩ ⟨q, hq, hrow, rfl⟩ hG
    have hC2 := hp.clu.cell 2
    have hC4 := hp.clu.cell 4
    have hC1 := hp.clu.cell 1
    have hF0 := hp.clu.free 0
    simp only [clC, List.getElem?_cons_zero, List.getElem?_cons_succ] at hC1 hC2 hC4
    have HN := hide (none_any (N + 1) C.n0 C.n1 W hC2 hC4)
    obtain ⟨rest, hrest⟩ := hG
    have he := Hall.out (s, ⟨p, dl, I⟩) (by rw [← hrest]; simp [pr])
    have hpl : pre.length + 1 ≤ 100000 := by
      have h1 := congrArg List.length hrest
      simp only [List.length_append, List.length_map, List.length_cons, List.length_nil] at h1
      omega
    simp only at he
    have q0 := hrow.cell 0
    have q1 := hrow.cell 1
    have q2 := hrow.cell 2
    simp only [List.getElem?_cons_zero, List.getElem?_cons_succ] at q0 q1 q2
    have Hrow := hide hrow
    have Hp := hide hp
    have Hf := hide hf
    have hlb : b < W.heap.size := by have := hp.clu.lt; omega
    have Hke : Hid (∀ W', W.grownBy W' (some (N + 1)) → KeepsFrom w3.heap.size W W' ∧ KpE w0 b (N + 1 + 1) W W') := fun W' hg => ⟨KeepsFrom.of_grownBy hg fun j e => by cases e; omega, kpE_grown hg hlb hp.it.lt (by omega) fun r e => by cases e; omega⟩
    have Hhe := hide he
    have hqn : q ≠ N + 1 := by omega
    have hr1 := hrow.off hqn (i := 0) (.int .i64 p)
    have g1 : W.grownBy (W.setCell ⟨N + 1, 0, none⟩ (.int .i64 p)) (some (N + 1)) := grown_put (World.grownBy.refl W _) _
    have Hg1 := hide g1
    have hc1 := hp.clu.put 0 (.int .i64 p)
    have hC0 := hp.clu.cell 0
    simp only [clC, List.getElem?_cons_zero] at hC0
    have Hend : Hid (∀ C' a' W', W.grownBy W' (some (N + 1)) → Row W' (N + 1) tC (clC C') → Few M (pre.length + 1) C' → Gone C' (pre ++ [(s, ⟨⟨p, dl, I⟩, A, c⟩)]) → left w3.heap.size (KpE w0 b (N + 1 + 1)) (JI w b N M) (JX w b N) (pre ++ [(s, ⟨⟨p, dl, I⟩, A, c⟩)]) W .normal a' W') :=
      fun C' a' W' h1 h2 h3 h4 => ⟨(Hke.out W' h1).1, (Hke.out W' h1).2, C', Hp.out.turn h1 hwl h2, by rw [List.length_append, List.length_singleton]; exact h3, .inr h4⟩
    clear hrow hp hf hC2 hC4 hsz hct3 hpads hrest hbw hBs hlb g1
    show Code.wpIn _ 7 _ _ _ _ _
    rcases hg with ⟨rfl, rfl⟩ | hg
    · rw [decide_eq_true (show Cl.nil.n0 = 0 ∧ Cl.nil.n1 = 0 from ⟨rfl, rfl⟩)] at HN
      have c1 : Row (W.setCell ⟨N + 1, 0, none⟩ (.int .i64 p)) (N + 1) tC (clC (Cl.zero p)) := hc1
      have hft : Few M 0 (Cl.zero p) := ⟨by simp [Cl.zero]; omega, by simp [Cl.zero], by simp [Cl.zero], by simp [Cl.zero], by simp [Cl.zero]⟩
      have hft1 := hft.take s ⟨p, dl, I⟩ he hM
      have HT := hide (take_any s (N + 1) (Cl.zero p) ⟨p, dl, I⟩ A c _ c1 (hft.sm hM (by omega)) (by simp only; omega) (by simp only; omega) (by simp only; omega))
      simp only at HT
      have q0' := hr1.cell 0
      have q1' := hr1.cell 1
      have q2' := hr1.cell 2
      simp only [List.getElem?_cons_zero, List.getElem?_cons_succ] at q0' q1' q2'
      unfold roundT
      simp only [evV]
      obtain ⟨sv, hsv⟩ : ∃ sv, sv = sideV s := ⟨_, rfl⟩
      rw [← hsv] at HT ⊢
      clear hsv c1 hft hc1 hr1 he
      gi_wp2_with (refine ⟨trivial, ?_⟩; gi_at_call 78; refine (CallsIn.inRound l (callsIn_wide.2 HN.out)).mono ?_; rintro e' w' ⟨rfl, rfl⟩)
      gi_wp2_with (refine ⟨trivial, ?_⟩; gi_at_call 79; refine (CallsIn.inRound l (callsIn_wide.2 HT.out)).mono ?_; rintro e' w' ⟨rfl, hr2, hg2⟩)
      exact Hend.out _ _ _ (grown_both Hg1.out hg2) hr2 (by simpa using hft1) (Gone.first _ _ rfl)
    · have hn : ¬ (C.n0 = 0 ∧ C.n1 = 0) := by obtain ⟨_, _, _, _, _, h⟩ := hg; omega
      rw [decide_eq_false hn] at HN
      have HT := hide (take_any s (N + 1) C ⟨p, dl, I⟩ A c _ Hp.out.clu (Hf.out.sm hM (by omega)) (by simp only; omega) (by simp only; omega) (by simp only; omega))
      simp only at HT
      have Hg := hide hg
      unfold roundT
      simp only [evV]
      obtain ⟨sv, hsv⟩ : ∃ sv, sv = sideV s := ⟨_, rfl⟩
      rw [← hsv] at HT ⊢
      clear hn hg hsv hc1 hr1 he hC0 hF0
      by_cases hlt : C.to < p
      · have hd : decide (C.to < p) = true := decide_eq_true hlt
        gi_wp2_with (refine ⟨trivial, ?_⟩; gi_at_call 78; refine (CallsIn.inRound l (callsIn_wide.2 HN.out)).mono ?_; rintro e' w' ⟨rfl, rfl⟩)
        exact ⟨KeepsFrom.refl _ _, ⟨Below.refl _ _, rfl, rfl⟩, rfl, C, pre, _, rfl, Hp.out, Hg.out, hlt⟩
      · have hd : decide (C.to < p) = false := decide_eq_false hlt
        gi_wp2_with (refine ⟨trivial, ?_⟩; gi_at_call 78; refine (CallsIn.inRound l (callsIn_wide.2 HN.out)).mono ?_; rintro e' w' ⟨rfl, rfl⟩)
        gi_wp2_with (refine ⟨trivial, ?_⟩; gi_at_call 79; refine (CallsIn.inRound l (callsIn_wide.2 HT.out)).mono ?_; rintro e' w' ⟨rfl, hr2, hg2⟩)
        exact Hend.out _ _ _ hg2 hr2 (Hf.out.take s _ Hhe.out hM) (Hg.out.more (Int.not_lt.2 hlt) ⟨Hf.out.n0.1, Hf.out.n1.1⟩)
  · rintro D zs W hD ⟨hz, hc⟩ ⟨C, hp, hf, hg⟩ hK
    have hg2 : Gone C zs := by
      rcases hg with ⟨rfl, rfl⟩ | hg
      · rw [Hm.out] at hz; cases hz
      · exact hg
    obtain ⟨rfl, hcl⟩ := gone_end hg2 (rest := []) (by rw [List.append_nil, hz, Hm.out]) rfl
    have k0 := hp.clu.cell 0
    have k1 := hp.clu.cell 1
    have k2 := hp.clu.cell 2
    have k3 := hp.clu.cell 3
    have k4 := hp.clu.cell 4
    have k5 := hp.clu.cell 5
    have r0 := hp.res.cell 0
    have f0 := hp.res.free 0
    have r1 := hp.res.cell 1
    have f1 := hp.res.free 1
    have r2 := hp.res.cell 2
    have f2 := hp.res.free 2
    have r3 := hp.res.cell 3
    have f3 := hp.res.free 3
    have r4 := hp.res.cell 4
    have f4 := hp.res.free 4
    have r5 := hp.res.cell 5
    have f5 := hp.res.free 5
    simp only [clC, List.getElem?_cons_zero, List.getElem?_cons_succ] at k0 k1 k2 k3 k4 k5 r0 r1 r2 r3 r4 r5
    obtain ⟨W6, hW6⟩ : ∃ W6, W6 = ((((((W.setCell ⟨N, 0, none⟩ (.int .i64 (clo d e r).fr)).setCell ⟨N, 1, none⟩ (.int .i64 (clo d e r).to)).setCell ⟨N, 2, none⟩ (.int .i64 (clo d e r).n0)).setCell ⟨N, 3, none⟩ (.int .i64 (clo d e r).m0)).setCell ⟨N, 4, none⟩ (.int .i64 (clo d e r).n1)).setCell ⟨N, 5, none⟩ (.int .i64 (clo d e r).m1)) := ⟨_, rfl⟩
    have hrow6 : Row W6 N tC (clC (clo d e r)) := by rw [hW6]; exact ((((((hp.res.put 0 (.int .i64 (clo d e r).fr)).put 1 (.int .i64 (clo d e r).to)).put 2 (.int .i64 (clo d e r).n0)).put 3 (.int .i64 (clo d e r).m0)).put 4 (.int .i64 (clo d e r).n1)).put 5 (.int .i64 (clo d e r).m1))
    have hg6 : W.grownBy W6 (some N) := by rw [hW6]; exact (grown_put (i := 5) (grown_put (i := 4) (grown_put (i := 3) (grown_put (i := 2) (grown_put (i := 1) (grown_put (i := 0) (World.grownBy.refl W (some N)) (.int .i64 (clo d e r).fr)) (.int .i64 (clo d e r).to)) (.int .i64 (clo d e r).n0)) (.int .i64 (clo d e r).m0)) (.int .i64 (clo d e r).n1)) (.int .i64 (clo d e r).m1))
    have hND : D ≠ N := by omega
    have hDN : N < D := by omega
    have hK6 : W6.heap[D]? = some (.deferred (some [])) := (hg6.block D (Array.getElem?_eq_some_iff.1 hK).1 (fun e => hND (Option.some.inj e))).trans hK
    have Hp := hide hp
    have Hc := hide hc
    have Hcl := hide hcl
    have Hrow6 := hide hrow6
    have Hg6 := hide hg6
    clear hp hc hcl hg hg2 hf hz hsz hpads hct3 hBs hrow6 hg6
    simp only
    gi_wp2
    rw [← hW6]
    refine ⟨by simp, .inl ⟨_, _, rfl, run_takeDeferred hK6, ?_⟩⟩
    have hg7 := grownBy_putObj' W6 D (.deferred none)
    have hrow7 := Hrow6.out.grown hg7 (fun e => hND (Option.some.inj e).symm)
    refine ⟨_, results_cell_row rfl _ _ N tC (clC (clo d e r)).toArray (0, 0) _ rfl hrow7 Try.underlying93 rfl (by kernel_rfl), [], [], rfl, ?_, ?_, ?_⟩
    · rw [mrg_nil]; exact Hcl.out
    · refine (Hc.out.grown Hg6.out fun r e => ?_).grown hg7 fun r e => ?_
      · cases e; omega
      · cases e; omega
    · refine grown_b (grown_b Hp.out.gr Hg6.out fun r e => ?_) hg7 fun r e => ?_
      · cases e; exact .inl hwl
      · cases e; exact .inl (by omega)
  · rintro D id pre W hD ⟨X', Y', vs, v, h1, ⟨r', h2⟩, h3, h4⟩ ⟨rfl, C, vs', v', h5, hp, h7, h8⟩ hK
    obtain ⟨rfl, hvv⟩ := List.append_inj' (h1.symm.trans h5) rfl
    injection hvv with hvv _
    subst hvv
    obtain ⟨rfl, hcl⟩ := gone_end h7 (rest := mrg X' Y') (by rw [h3, Hm.out]) (by rw [h2]; show grow C ((v.1, v.2.e) :: r') = _; rw [grow, if_pos h8]; rfl)
    clear h1 h2 h3 h5 h7 h8
    have hc := h4
    have k0 := hp.clu.cell 0
    have k1 := hp.clu.cell 1
    have k2 := hp.clu.cell 2
    have k3 := hp.clu.cell 3
    have k4 := hp.clu.cell 4
    have k5 := hp.clu.cell 5
    have r0 := hp.res.cell 0
    have f0 := hp.res.free 0
    have r1 := hp.res.cell 1
    have f1 := hp.res.free 1
    have r2 := hp.res.cell 2
    have f2 := hp.res.free 2
    have r3 := hp.res.cell 3
    have f3 := hp.res.free 3
    have r4 := hp.res.cell 4
    have f4 := hp.res.free 4
    have r5 := hp.res.cell 5
    have f5 := hp.res.free 5
    simp only [clC, List.getElem?_cons_zero, List.getElem?_cons_succ] at k0 k1 k2 k3 k4 k5 r0 r1 r2 r3 r4 r5
    obtain ⟨W6, hW6⟩ : ∃ W6, W6 = ((((((W.setCell ⟨N, 0, none⟩ (.int .i64 (clo d e r).fr)).setCell ⟨N, 1, none⟩ (.int .i64 (clo d e r).to)).setCell ⟨N, 2, none⟩ (.int .i64 (clo d e r).n0)).setCell ⟨N, 3, none⟩ (.int .i64 (clo d e r).m0)).setCell ⟨N, 4, none⟩ (.int .i64 (clo d e r).n1)).setCell ⟨N, 5, none⟩ (.int .i64 (clo d e r).m1)) := ⟨_, rfl⟩
    have hrow6 : Row W6 N tC (clC (clo d e r)) := by rw [hW6]; exact ((((((hp.res.put 0 (.int .i64 (clo d e r).fr)).put 1 (.int .i64 (clo d e r).to)).put 2 (.int .i64 (clo d e r).n0)).put 3 (.int .i64 (clo d e r).m0)).put 4 (.int .i64 (clo d e r).n1)).put 5 (.int .i64 (clo d e r).m1))
    have hg6 : W.grownBy W6 (some N) := by rw [hW6]; exact (grown_put (i := 5) (grown_put (i := 4) (grown_put (i := 3) (grown_put (i := 2) (grown_put (i := 1) (grown_put (i := 0) (World.grownBy.refl W (some N)) (.int .i64 (clo d e r).fr)) (.int .i64 (clo d e r).to)) (.int .i64 (clo d e r).n0)) (.int .i64 (clo d e r).m0)) (.int .i64 (clo d e r).n1)) (.int .i64 (clo d e r).m1))
    have hND : D ≠ N := by omega
    have hDN : N < D := by omega
    have hK6 : W6.heap[D]? = some (.deferred (some [])) := (hg6.block D (Array.getElem?_eq_some_iff.1 hK).1 (fun e => hND (Option.some.inj e))).trans hK
    have Hp := hide hp
    have Hc := hide hc
    have Hcl := hide hcl
    have Hrow6 := hide hrow6
    have Hg6 := hide hg6
    clear hp hc hcl h4 hsz hpads hct3 hBs hrow6 hg6
    simp only
    gi_wp2
    rw [← hW6]
    refine ⟨by simp, .inl ⟨_, _, rfl, run_takeDeferred hK6, ?_⟩⟩
    have hg7 := grownBy_putObj' W6 D (.deferred none)
    have hrow7 := Hrow6.out.grown hg7 (fun e => hND (Option.some.inj e).symm)
    refine ⟨_, results_cell_row rfl _ _ N tC (clC (clo d e r)).toArray (0, 0) _ rfl hrow7 Try.underlying93 rfl (by kernel_rfl), X', Y', rfl, Hcl.out, ?_, ?_⟩
    · refine (Hc.out.grown Hg6.out fun r e => ?_).grown hg7 fun r e => ?_
      · cases e; omega
      · cases e; omega
    · refine grown_b (grown_b Hp.out.gr Hg6.out fun r e => ?_) hg7 fun r e => ?_
      · cases e; exact .inl hwl
      · cases e; exact .inl (by omega)
end Go.Proofs.Ytghnieddokhagaa.Al
