/-
  What the calls of a reader come to.
-/
import Derived.Test.YtahcokfoifdlmaaGreatDoorQWA
import GoSem.Op.String
import Derived.Lib.Bytealg

namespace Go.Proofs.YtahcokfoifdlmaaGreatDoor.Wr
open Go Go.RowKit Kt

/-- a reader in block g: what is ahead of it, and why it failed; its bytes lie in a block from B on -/
def Rd (w : World) (B g : Nat) (bs : List UInt8) (e : Nat) : Prop :=
  ∃ A c, Row w g 121 [.slice A bs.length c, .int .i64 (e : Int)] ∧ Sl w (fun b => B ≤ b ∧ b ≠ g) A c bs ∧ B ≤ g ∧ bs.length ≤ 70368744177664
/-- the same, its bytes in a block that S tells -/
def RdP (w : World) (S : Nat → Prop) (g : Nat) (bs : List UInt8) (e : Nat) : Prop :=
  ∃ A c, Row w g 121 [.slice A bs.length c, .int .i64 (e : Int)] ∧ Sl w (fun b => S b ∧ b ≠ g) A c bs ∧ S g ∧ bs.length ≤ 70368744177664
theorem RdP.lt {w : World} {S : Nat → Prop} {g : Nat} {bs : List UInt8} {e : Nat} (h : RdP w S g bs e) : g < w.heap.size := by obtain ⟨A, c, hr, _⟩ := h; exact hr.lt
theorem RdP.of {w : World} {B g : Nat} {bs : List UInt8} {e : Nat} (h : Rd w B g bs e) : RdP w (fun b => B ≤ b) g bs e := h
theorem RdP.rd {w : World} {B g : Nat} {bs : List UInt8} {e : Nat} (h : RdP w (fun b => B ≤ b) g bs e) : Rd w B g bs e := h
theorem RdP.imp {w : World} {S T : Nat → Prop} {g : Nat} {bs : List UInt8} {e : Nat} (h : RdP w S g bs e) (hi : ∀ b, b < w.heap.size → S b → T b) : RdP w T g bs e := by
  have hlt := h.lt
  obtain ⟨A, c, hr, hs, h1, h2⟩ := h
  exact ⟨A, c, hr, hs.imp fun b hb hp => ⟨hi b hb hp.1, hp.2⟩, hi g hlt h1, h2⟩
theorem RdP.below {w w' : World} {S : Nat → Prop} {g : Nat} {bs : List UInt8} {e : Nat} (h : RdP w S g bs e) (hb : Below w.heap.size w w') : RdP w' S g bs e := by
  obtain ⟨A, c, hr, hs, h1, h2⟩ := h
  exact ⟨A, c, hr.below hb hr.lt, hs.move fun b _ hlt => hb.block b hlt, h1, h2⟩
theorem Rd.lt {w : World} {B g : Nat} {bs : List UInt8} {e : Nat} (h : Rd w B g bs e) : g < w.heap.size := by obtain ⟨A, c, hr, _⟩ := h; exact hr.lt
theorem Rd.from {w : World} {B g : Nat} {bs : List UInt8} {e : Nat} (h : Rd w B g bs e) : B ≤ g := by obtain ⟨A, c, _, _, hB, _⟩ := h; exact hB
/-- two readers are apart -/
theorem Rd.apart {w : World} {B B' g g' : Nat} {bs bs' : List UInt8} {e e' : Nat} (h : Rd w B g bs e) (h' : Rd w B' g' bs' e') : ∃ A c, Row w g 121 [.slice A bs.length c, .int .i64 (e : Int)] ∧ Sl w (fun b => B ≤ b ∧ b ≠ g ∧ b ≠ g') A c bs ∧ B ≤ g ∧ bs.length ≤ 70368744177664 := by
  obtain ⟨A, c, hr, hs, h1, h2⟩ := h
  obtain ⟨A', c', hr', _⟩ := h'
  refine ⟨A, c, hr, ⟨hs.1, fun hn => ?_⟩, h1, h2⟩
  obtain ⟨b, o, rfl, hp, hc⟩ := hs.2 hn
  refine ⟨b, o, rfl, ⟨hp.1, hp.2, fun hb => ?_⟩, hc⟩
  have := hc 0 hn
  rw [hb, hr'.cell] at this
  rcases o with _ | _ | o
  · simp at this
  · simp at this
  · simp at this
theorem Rd.only {S : Nat → Prop} {w w' : World} {B g : Nat} {bs : List UInt8} {e : Nat} (h : Rd w B g bs e) (ho : Only S w w') (hS : ∀ k, B ≤ k → k < w.heap.size → ¬ S k) : Rd w' B g bs e := by
  obtain ⟨A, c, hr, hs, h1, h2⟩ := h
  refine ⟨A, c, hr.only ho (hS g h1 hr.lt), ?_, h1, h2⟩
  exact hs.move fun b hb hlt => ho.block b hlt (hS b hb.1 hlt)
theorem Rd.below {w w' : World} {B g : Nat} {bs : List UInt8} {e : Nat} (h : Rd w B g bs e) (hb : Below w.heap.size w w') : Rd w' B g bs e := h.only (Only.of_below (fun _ => False) hb) fun _ _ _ h => h
theorem Rd.drew {w : World} {B g : Nat} {bs : List UInt8} {e : Nat} (h : Rd w B g bs e) : Rd w.drew B g bs e := h

theorem Only.over {S T : Nat → Prop} {w W w1 : World} (h : Only S W w1) (hb : Below w.heap.size w W) (hi : ∀ b, b < w.heap.size → S b → T b) : Only T w w1 :=
  ⟨h.os.trans hb.os, h.tape.trans hb.tape, h.output.trans hb.output, Nat.le_trans hb.size h.size, fun k hk hn => (h.block k (Nat.lt_of_lt_of_le hk hb.size) fun hs => hn (hi k hk hs)).trans (hb.block k hk)⟩

def stepNum (bs : List UInt8) (e : Nat) : Nat × List UInt8 × Nat := if e = 0 then ((numOf bs).1, bs.drop (numOf bs).2.1, (numOf bs).2.2) else (0, bs, e)
def stepText (bs : List UInt8) (e : Nat) (most : Int) : List UInt8 × List UInt8 × Nat := if e = 0 then ((textOf bs most).1, bs.drop (textOf bs most).2.1, (textOf bs most).2.2) else ([], bs, e)
def endOf (bs : List UInt8) (e : Nat) : Nat := if e = 0 then (if 0 < bs.length then 5 else 0) else e

theorem RdP.cut {w' : World} {S : Nat → Prop} {g k e : Nat} {bs : List UInt8} {A : Option Addr} {c : Nat} (hr : Row w' g 121 [cutV A bs.length c k, .int .i64 (e : Int)]) (hs : Sl w' (fun b => S b ∧ b ≠ g) A c bs)
    (hB : S g) (hl : bs.length ≤ 70368744177664) (hk : k ≤ bs.length) : RdP w' S g (bs.drop k) e := by
  refine ⟨_, _, ?_, hs.cut hk, hB, by rw [List.length_drop]; omega⟩
  rw [List.length_drop]
  exact hr

theorem own_open {w : World} {B : Nat} {E : TypeId} {v : Value} {l : List UInt8} (h : Own w B E v l) : ∃ A c, v = .slice A l.length c ∧ Sl w (fun b => B ≤ b) A c l := by
  have hs := Is.own h
  rcases h.2 with ⟨rfl, h0⟩ | ⟨g, cap, cur, rfl, hB, hg, hnc, hcm, _⟩
  · have e : l = [] := List.eq_nil_of_length_eq_zero h0
    subst e
    exact ⟨none, 0, rfl, Sl.nil _ _ _ _⟩
  · obtain ⟨A, c, he, hs⟩ := hs
    injection he with h1 _ h3
    subst h1 h3
    exact ⟨_, _, rfl, hs.imp fun _ _ hb => hb.1⟩

theorem numOf_le (bs : List UInt8) : (numOf bs).2.1 ≤ bs.length := by
  by_cases he : (numOf bs).2.2 = 0
  · exact (numOf_ok bs (numOf bs).1 (numOf bs).2.1 (by rw [← he])).2.2.2.1
  · have := numOf_fail bs (numOf bs).1 (numOf bs).2.1 _ rfl he
    omega
set_option maxHeartbeats 1000000 in
set_option maxRecDepth 100000 in
theorem open_any (bs : List UInt8) (A : Option Addr) (c : Nat) (Pb : Nat → Prop) (w : World) (hs : Sl w Pb A c bs) (hl : bs.length ≤ 70368744177664) :
    Calls Tryz.prog 50 #[.slice A bs.length c] w fun y w' => ∃ g, y = .returned (.pointer (some ⟨g, 0, none⟩)) ∧ Rd w' w.heap.size g bs 0 ∧ Below w.heap.size w w' := by
  have Hs := hide hs
  have Hl := hide hl
  clear hs hl
  go_enter Tryz.func50, Tryz.ntmps50
  go_wp2_with (go_at_call 70; go_loud (refine (clone_any bs A c Pb _ Hs.out Hl.out).mono ?_; rintro y w1 ⟨v, rfl, hown, hb⟩; obtain ⟨A1, c1, rfl, hs1⟩ := own_open hown; have Hs1 := hide hs1; have Hb := hide hb; clear hown hb hs1))
  go_ret
  have hr := Row.fresh w1 121 #[.slice A1 bs.length c1, .int .i64 0]
  refine ⟨_, rfl, ⟨A1, c1, hr, ?_, Hb.out.size, Hl.out⟩, Hb.out.alloc Hb.out.size _⟩
  exact (Hs1.out.bound.move (w' := w1.alloc (.cells #[.slice A1 bs.length c1, .int .i64 0] 121)) fun b _ hlt => Below.heap_alloc w1 _ b hlt).imp fun b _ hb => ⟨hb.1, by omega⟩

set_option maxHeartbeats 1000000 in
set_option maxRecDepth 100000 in
theorem end_any {w : World} {B g : Nat} {bs : List UInt8} {e : Nat} (h : Rd w B g bs e) :
    Calls Tryz.prog 54 #[.pointer (some ⟨g, 0, none⟩)] w fun y w' => y = .returned (.int .i64 (endOf bs e : Nat)) ∧ Below w.heap.size w w' := by
  obtain ⟨A, c, hr, _, _, hl⟩ := h
  have c0 : w.cell? ⟨g, 0, none⟩ = some (.slice A bs.length c) := hr.cell 0
  have c1 : w.cell? ⟨g, 1, none⟩ = some (.int .i64 (e : Int)) := hr.cell 1
  have c0a : ∀ o, (w.alloc o).cell? ⟨g, 0, none⟩ = some (.slice A bs.length c) := fun o => (hr.alloc o).cell 0
  have c1a : ∀ o, (w.alloc o).cell? ⟨g, 1, none⟩ = some (.int .i64 (e : Int)) := fun o => (hr.alloc o).cell 1
  clear hr
  unfold endOf
  by_cases he : e = 0
  · subst he
    by_cases hb : 0 < bs.length
    · go_enter Tryz.func54, Tryz.ntmps54
      go_wp2
      go_ret
      exact ⟨rfl, (Below.refl _ _).alloc (Nat.le_refl _) _⟩
    · go_enter Tryz.func54, Tryz.ntmps54
      go_wp2
      go_ret
      exact ⟨rfl, (Below.refl _ _).alloc (Nat.le_refl _) _⟩
  · go_enter Tryz.func54, Tryz.ntmps54
    go_wp2
    go_ret
    exact ⟨rfl, (Below.refl _ _).alloc (Nat.le_refl _) _⟩

set_option maxHeartbeats 1000000 in
set_option maxRecDepth 100000 in
/-- whether it failed is asked once: what is to be done is done -/
theorem unless_num {w : World} {g : Nat} {a b : Value} {R : Value → World → Prop} (c1 : w.cell? ⟨g, 1, none⟩ = some (.int .i64 0)) (hf : Calls Tryz.prog 88 #[a, b] w fun y w' => ∃ v, y = .returned v ∧ R v w') :
    Calls Tryz.prog 72 #[.pointer (some ⟨g, 0, none⟩), .func (.func 88) #[] #[a, b]] w fun y w' => ∃ v, y = .returned v ∧ R v w' := by
  have Hf := hide hf
  clear hf
  go_enter Tryz.func72, Tryz.ntmps72
  go_wp2_with fail
  refine Hf.out.mono ?_
  rintro y w1 ⟨v, rfl, hR⟩
  have HR := hide hR
  clear hR
  go_wp2
  go_ret
  exact ⟨v, rfl, HR.out⟩

set_option maxHeartbeats 1000000 in
set_option maxRecDepth 100000 in
/-- whether it failed is asked once: what is to be done is done -/
theorem unless_text {w : World} {g : Nat} {a b c : Value} {R : Value → World → Prop} (c1 : w.cell? ⟨g, 1, none⟩ = some (.int .i64 0)) (hf : Calls Tryz.prog 73 #[a, b, c] w fun y w' => ∃ v, y = .returned v ∧ R v w') :
    Calls Tryz.prog 72 #[.pointer (some ⟨g, 0, none⟩), .func (.func 73) #[] #[a, b, c]] w fun y w' => ∃ v, y = .returned v ∧ R v w' := by
  have Hf := hide hf
  clear hf
  go_enter Tryz.func72, Tryz.ntmps72
  go_wp2_with fail
  refine Hf.out.mono ?_
  rintro y w1 ⟨v, rfl, hR⟩
  have HR := hide hR
  clear hR
  go_wp2
  go_ret
  exact ⟨v, rfl, HR.out⟩

set_option maxHeartbeats 1000000 in
set_option maxRecDepth 100000 in
theorem readP_num {w : World} {S : Nat → Prop} {g : Nat} {bs : List UInt8} {e : Nat} (h : RdP w S g bs e) :
    Calls Tryz.prog 71 #[.pointer (some ⟨g, 0, none⟩)] w fun y w' => y = .returned (.int .u64 ((stepNum bs e).1 : Nat)) ∧ RdP w' S g (stepNum bs e).2.1 (stepNum bs e).2.2 ∧ Only (· = g) w w' := by
  have Hrd := hide h
  obtain ⟨A, c, hr, hs, hB, hl⟩ := h
  have c1a : ∀ o o', ((w.alloc o).alloc o').cell? ⟨g, 1, none⟩ = some (.int .i64 (e : Int)) := fun o o' => ((hr.alloc o).alloc o').cell 1
  have Hr := hide hr
  have Hs := hide hs
  clear hr hs
  by_cases he : e = 0
  · subst he
    obtain ⟨n, k, e, hnum⟩ : ∃ n k e, numOf bs = (n, k, e) := ⟨_, _, _, rfl⟩
    have Hk := hide (show k ≤ bs.length by have := numOf_le bs; rw [hnum] at this; exact this)
    have Hst := hide (show stepNum bs 0 = (n, bs.drop k, e) by unfold stepNum; rw [if_pos rfl, hnum])
    have Hnum := hide hnum
    clear hnum
    have Hlt := hide Hr.out.lt
    go_enter Tryz.func71, Tryz.ntmps71
    go_wp2_with fail
    have hr1 := (Row.fresh w 74 #[.pointer (some ⟨g, 0, none⟩)]).alloc (.cells #[.int .u64 0] 95)
    have hn1 := Row.new (w.alloc (.cells #[.pointer (some ⟨g, 0, none⟩)] 74)) (g := w.heap.size + 1) 95 (cs := #[.int .u64 0]) (l := [.int .u64 ((0 : Nat) : Int)]) (by simp) rfl
    have hg1 := (Hr.out.alloc (.cells #[.pointer (some ⟨g, 0, none⟩)] 74)).alloc (.cells #[.int .u64 0] 95)
    have hb1 := ((Below.refl w.heap.size w).alloc (Nat.le_refl _) (.cells #[.pointer (some ⟨g, 0, none⟩)] 74)).alloc (by simp) (.cells #[.int .u64 0] 95)
    have hs1 := Hs.out.bound.move (w' := (w.alloc (.cells #[.pointer (some ⟨g, 0, none⟩)] 74)).alloc (.cells #[.int .u64 0] 95)) fun b hb _ => hb1.block b hb.2
    refine (unless_num (R := fun _ w1 => Row w1 (w.heap.size + 1) 95 [.int .u64 (n : Int)] ∧ Row w1 g 121 [cutV A bs.length c k, .int .i64 (e : Int)] ∧ Only (fun b => b = g ∨ b = w.heap.size + 1) ((w.alloc (.cells #[.pointer (some ⟨g, 0, none⟩)] 74)).alloc (.cells #[.int .u64 0] 95)) w1) (c1a _ _) ((num_clo bs A c g w.heap.size (w.heap.size + 1) 0 n k e _ _ hr1 hn1 hg1 hs1 (fun b hb => by omega) (by omega) (by have := Hlt.out; omega) (by have := Hlt.out; omega) hl Hnum.out).mono fun y w1 hq => ⟨_, hq.1, hq.2⟩)).mono ?_
    rintro y w1 ⟨v, rfl, hn2, hg2, ho2⟩
    have Ho := hide (ho2.over (T := (· = g)) hb1 fun b hb h => by omega)
    have Hg2 := hide hg2
    have cn : w1.cell? ⟨w.heap.size + 1, 0, none⟩ = some (.int .u64 (n : Int)) := hn2.cell 0
    clear hr1 hn1 hg1 hb1 hs1 hn2 hg2 ho2
    go_wp2
    go_ret
    rw [Hst.out]
    exact ⟨rfl, RdP.cut Hg2.out (Hs.out.only Ho.out fun b hb => hb.2) hB hl Hk.out, Ho.out⟩
  · have Hst := hide (show stepNum bs e = (0, bs, e) by unfold stepNum; rw [if_neg he])
    have hb : ((e : Int) != 0) = true := by rw [bne_iff_ne]; omega
    go_enter Tryz.func71, Tryz.ntmps71
    go_wp2
    go_ret
    rw [Hst.out]
    have hb1 := ((Below.refl w.heap.size w).alloc (Nat.le_refl _) (.cells #[.pointer (some ⟨g, 0, none⟩)] 74)).alloc (by simp) (.cells #[.int .u64 0] 95)
    exact ⟨rfl, Hrd.out.below hb1, Only.of_below _ hb1⟩
end Go.Proofs.YtahcokfoifdlmaaGreatDoor.Wr
namespace Go.Proofs.YtahcokfoifdlmaaGreatDoor.Wr
open Go Go.RowKit Kt

set_option maxHeartbeats 1000000 in
set_option maxRecDepth 100000 in
theorem readP_text {w : World} {S : Nat → Prop} {g : Nat} {bs : List UInt8} {e : Nat} (most : Int) (h : RdP w S g bs e) (hm : most ≤ 9223372036854775807) :
    Calls Tryz.prog 52 #[.pointer (some ⟨g, 0, none⟩), .int .i64 most] w fun y w' => ∃ v, y = .returned v ∧ Own w' w.heap.size 5 v (stepText bs e most).1 ∧ RdP w' S g (stepText bs e most).2.1 (stepText bs e most).2.2 ∧ Only (· = g) w w' := by
  have Hrd := hide h
  have Hm := hide hm
  clear hm
  obtain ⟨A, c, hr, hs, hB, hl⟩ := h
  have c1a : ∀ o o' o'', (((w.alloc o).alloc o').alloc o'').cell? ⟨g, 1, none⟩ = some (.int .i64 (e : Int)) := fun o o' o'' => (((hr.alloc o).alloc o').alloc o'').cell 1
  have Hr := hide hr
  have Hs := hide hs
  clear hr hs
  obtain ⟨w1, hw1⟩ : ∃ w1, w1 = w.alloc (.cells #[.pointer (some ⟨g, 0, none⟩)] 74) := ⟨_, rfl⟩
  obtain ⟨w2, hw2⟩ : ∃ w2, w2 = w1.alloc (.cells #[.int .i64 most] 3) := ⟨_, rfl⟩
  obtain ⟨w3, hw3⟩ : ∃ w3, w3 = w2.alloc (.cells #[.slice none 0 0] 39) := ⟨_, rfl⟩
  have e1 : w1.heap.size = w.heap.size + 1 := by rw [hw1]; simp
  have e2 : w2.heap.size = w.heap.size + 2 := by rw [hw2]; simp [e1]
  have hb1 : Below w.heap.size w w3 := by rw [hw3, hw2, hw1]; exact (((Below.refl _ _).alloc (Nat.le_refl _) _).alloc (by simp) _).alloc (by simp; omega) _
  have hr1 : Row w3 w.heap.size 74 [.pointer (some ⟨g, 0, none⟩)] := by rw [hw3, hw2, hw1]; exact ((Row.fresh w _ _).alloc _).alloc _
  have hm1 : Row w3 (w.heap.size + 1) 3 [.int .i64 most] := by rw [hw3, hw2]; exact (Row.new w1 _ e1.symm rfl).alloc _
  have hn1 : Row w3 (w.heap.size + 2) 39 [.slice none 0 0] := by rw [hw3]; exact Row.new w2 _ e2.symm rfl
  have hg1 := Hr.out.below hb1 Hr.out.lt
  have hs1 := Hs.out.bound.move (w' := w3) fun b hb _ => hb1.block b hb.2
  have Hlt := hide Hr.out.lt
  have Hb1 := hide hb1
  by_cases he : e = 0
  · subst he
    obtain ⟨x, k, e, htx⟩ : ∃ x k e, textOf bs most = (x, k, e) := ⟨_, _, _, rfl⟩
    have Hk := hide (show k ≤ bs.length by have := text_le bs most; rw [htx] at this; exact this)
    have Hst := hide (show stepText bs 0 most = (x, bs.drop k, e) by unfold stepText; rw [if_pos rfl, htx])
    have Hun := hide (unless_text (w := w3) (g := g) (R := fun _ w4 => (∃ v, Own w4 w3.heap.size 5 v x ∧ Row w4 (w.heap.size + 2) 39 [v]) ∧ Row w4 g 121 [cutV A bs.length c k, .int .i64 (e : Int)] ∧ Only (fun b => b = g ∨ b = w.heap.size + 2) w3 w4) (hg1.cell 1)
      ((text_clo bs x most (.slice none 0 0) A c g w.heap.size (w.heap.size + 1) (w.heap.size + 2) k e _ w3 hr1 hm1 hn1 rfl hg1 hs1 (fun b hb => by omega) (by omega) (by omega) (by have := Hlt.out; omega) (by have := Hlt.out; omega) (by have := Hlt.out; omega) hl Hm.out htx).mono fun y w1 hq => ⟨_, hq.1, hq.2⟩))
    clear hr1 hm1 hn1 hg1 hs1 htx e1 e2
    subst hw1 hw2 hw3
    go_enter Tryz.func52, Tryz.ntmps52
    go_wp2_with fail
    refine Hun.out.mono ?_
    rintro y w4 ⟨_, rfl, ⟨v, hv, hn2⟩, hg2, ho2⟩
    have Ho := hide (ho2.over (T := (· = g)) hb1 fun b hb h => by omega)
    have Hg2 := hide hg2
    have Hv := hide hv
    have cn : w4.cell? ⟨w.heap.size + 2, 0, none⟩ = some v := hn2.cell 0
    clear hb1 hn2 hg2 ho2 hv
    go_wp2
    go_ret
    rw [Hst.out]
    exact ⟨_, rfl, Hv.out.base Hb1.out.size, RdP.cut Hg2.out (Hs.out.only Ho.out fun b hb => hb.2) hB hl Hk.out, Ho.out⟩
  · have Hst := hide (show stepText bs e most = ([], bs, e) by unfold stepText; rw [if_neg he])
    have hb : ((e : Int) != 0) = true := by rw [bne_iff_ne]; omega
    clear hr1 hm1 hn1 hg1 hs1 e1 e2 hb1
    subst hw1 hw2 hw3
    go_enter Tryz.func52, Tryz.ntmps52
    go_wp2
    go_ret
    rw [Hst.out]
    exact ⟨_, rfl, Own.nil _ _ _, Hrd.out.below Hb1.out, Only.of_below _ Hb1.out⟩
end Go.Proofs.YtahcokfoifdlmaaGreatDoor.Wr
namespace Go.Proofs.YtahcokfoifdlmaaGreatDoor.Rv
open Go Rg

/-- how many aren't done -/
def left : List Bool → Nat
  | [] => 0
  | b :: l => (if b then 0 else 1) + left l
theorem left_set : ∀ (l : List Bool) (i : Nat), l[i]? = some false → left (l.set i true) + 1 = left l
  | [], _, h => by simp at h
  | b :: l, 0, h => by
    simp at h
    subst h
    simp [left]; omega
  | b :: l, i + 1, h => by
    have := left_set l i (by simpa using h)
    simp only [List.set_cons_succ, left]; omega
theorem left_zero : ∀ (l : List Bool) (i : Nat), left l = 0 → i < l.length → l[i]? = some true
  | [], _, _, h => by simp at h
  | b :: l, 0, h, _ => by
    cases b
    · simp only [left, Bool.false_eq_true, if_false] at h; omega
    · rfl
  | b :: l, i + 1, h, hi => by
    rw [List.getElem?_cons_succ]
    simp only [left] at h
    exact left_zero l i (by omega) (by simpa using hi)
theorem left_le : ∀ l : List Bool, left l ≤ l.length
  | [] => Nat.le_refl _
  | b :: l => by
    have := left_le l
    simp only [left, List.length_cons]
    split <;> omega
/-- no operation is guarded, and each waits for earlier ones alone -/
def plain (ops : Array Oper) : Bool := (List.range ops.size).all fun i => ((ops[i]?).map fun o => o.guard.isNone && o.after.all fun e => decide (e.on < i)).getD true
section
variable {P : Program} {ops : Array Oper} {Q : Exit → Act → World → Prop}
theorem plain_spec (hp : plain ops = true) {i : Nat} {o : Oper} (ho : ops[i]? = some o) : o.guard = none ∧ ∀ e ∈ o.after, e.on < i := by
  have hlt : i < ops.size := (Array.getElem?_eq_some_iff.1 ho).1
  have h1 := List.all_eq_true.1 hp i (List.mem_range.2 hlt)
  rw [ho] at h1
  simp only [Option.map_some, Option.getD_some, Bool.and_eq_true, Option.isNone_iff_eq_none] at h1
  exact ⟨h1.1, fun e he => by have := Array.all_eq_true_iff_forall_mem.1 h1.2 e he; simpa using this⟩
theorem get_listed {listed : Array Bool} {i : Nat} (h : i < listed.size) : listed.getD i true = listed.getD i false := by
  simp [h]
theorem all_listed (hp : plain ops = true) {listed : Array Bool} (hs : listed.size = ops.size) (hr : Region.ready .any ops listed = []) : ∀ n i, i < n → i < ops.size → listed.getD i false = true
  | 0, _, h, _ => absurd h (Nat.not_lt_zero _)
  | n + 1, i, h, hi => by
    cases hb : listed.getD i false with
    | true => rfl
    | false =>
      have ho : ops[i]? = some ops[i] := Array.getElem?_eq_getElem hi
      have hm : i ∈ Region.ready .any ops listed := mem_ready.2 ⟨by rw [get_listed (by omega), hb], ops[i], ho, fun e he _ => by
        have hlt := (plain_spec hp ho).2 e he
        exact all_listed hp hs hr n e.on (by omega) (by omega)⟩
      rw [hr] at hm
      cases hm
theorem any_inv (hp : plain ops = true) (I : Array Bool → Act → World → Prop)
    (hstep : ∀ listed a w i o, I listed a w → ops[i]? = some o → listed.getD i true = false → (∀ e ∈ o.after, Region.binds .any e = true → listed.getD e.on false = true) → o.wp P a w (I (listed.setIfInBounds i true)) Q)
    (hend : ∀ listed a w, I listed a w → (∀ i, i < ops.size → listed.getD i false = true) → Q .normal a w) :
    ∀ (fuel : Nat) (listed : Array Bool) (a : Act) (w : World), listed.size = ops.size → left listed.toList ≤ fuel → I listed a w → wpAny P .any ops Q fuel listed a w
  | 0, listed, a, w, hs, hl, hI => by
    have hall : ∀ i, i < ops.size → listed.getD i false = true := fun i hi => by
      have h1 := left_zero listed.toList i (by omega) (by simp; omega)
      have h2 : listed[i]? = some true := by simpa using h1
      simp [h2]
    refine ⟨?_, hend _ _ _ hI hall⟩
    rw [List.eq_nil_iff_forall_not_mem]
    intro i hi
    obtain ⟨h1, o, ho, _⟩ := mem_ready.1 hi
    have hlt : i < ops.size := (Array.getElem?_eq_some_iff.1 ho).1
    have := hall i hlt
    rw [get_listed (by omega), this] at h1
    cases h1
  | fuel + 1, listed, a, w, hs, hl, hI => by
    refine ⟨fun hr => hend _ _ _ hI fun i hi => all_listed hp hs hr (i + 1) i (by omega) hi, fun i hi => ?_⟩
    obtain ⟨h1, o, ho, hdep⟩ := mem_ready.1 hi
    have hlt : i < ops.size := (Array.getElem?_eq_some_iff.1 ho).1
    have h3 := hstep listed a w i o hI ho h1 hdep
    unfold wpOp
    simp only [ho]
    rw [if_pos (by unfold Region.wanted; rw [(plain_spec hp ho).1])]
    refine .inl (Oper.wp_mono (fun a' w' h' => any_inv hp I hstep hend fuel _ a' w' (by simp [hs]) ?_ h') h3)
    have h4 : listed.toList[i]? = some false := by
      have hlt' : i < listed.size := by omega
      simp [hlt'] at h1
      simp [hlt', h1]
    have h5 := left_set _ _ h4
    rw [Array.toList_setIfInBounds]
    omega
/-- THE REGION, WALKED BY WHAT HOLDS. -/
theorem wp_region_inv {id : Nat} {l : List Oper} {a : Act} {w : World} (I : Array Bool → Act → World → Prop) (hm : P.follows .mixedOrders = true) (hp : plain l.toArray = true)
    (hstart : I (Array.replicate l.length false) a w.drew)
    (hstep : ∀ listed a w i o, I listed a w → l[i]? = some o → listed.size = l.length → (∀ k, Rg.waits l.toArray i k = true → listed.getD k false = true) →
      ∀ K : Act → World → Prop, (∀ a' w', I (listed.setIfInBounds i true) a' w' → K a' w') → o.wp P a w K (NoPanic Q))
    (hend : ∀ listed a w, I listed a w → (∀ i, i < l.length → listed.getD i false = true) → Q .normal a w) : (Code.region id l.toArray true).wp P Q a w := by
  refine wp_region_noPanic ?_
  refine wp_region_any hm ?_
  refine any_inv hp (fun listed a w => listed.size = l.length ∧ I listed a w) (fun listed a w i o hI ho _ hdep => ?_) (fun listed a w hI hl => NoPanic.normal (hend listed a w hI.2 (by simpa using hl))) _ _ _ _ (by simp) ?_ ⟨by simp, by simpa using hstart⟩
  · refine hstep listed a w i o hI.2 (by simpa using ho) hI.1 (fun k hk => ?_) _ fun a' w' h => ⟨by simp [hI.1], h⟩
    obtain ⟨e, he, hb, rfl⟩ := Rg.waits_spec ho hk
    exact hdep e he hb
  · have := left_le (Array.replicate l.toArray.size false).toList
    simpa using this
end
end Go.Proofs.YtahcokfoifdlmaaGreatDoor.Rv
namespace Go.Proofs.YtahcokfoifdlmaaGreatDoor.Tr
open Go

abbrev Bs := List UInt8
abbrev lt (a b : Bs) : Bool := Op.bytesLess a b
theorem lt_cons (x y : UInt8) (p q : Bs) : lt (x :: p) (y :: q) = (decide (x < y) || (x == y && lt p q)) := rfl
theorem lt_irr : ∀ a : Bs, lt a a = false
  | [] => rfl
  | x :: a => by rw [lt_cons, lt_irr a]; simp
theorem lt_tri : ∀ a b : Bs, lt a b = true ∨ a = b ∨ lt b a = true
  | [], [] => .inr (.inl rfl)
  | [], _ :: _ => .inl rfl
  | _ :: _, [] => .inr (.inr rfl)
  | x :: a, y :: b => by
    rw [lt_cons, lt_cons]
    rcases Nat.lt_trichotomy x.toNat y.toNat with h | h | h
    · left; simp [UInt8.lt_iff_toNat_lt, h]
    · have e : x = y := UInt8.toNat_inj.1 h
      subst e
      rcases lt_tri a b with h | h | h
      · left; simp [h]
      · right; left; rw [h]
      · right; right; simp [h]
    · right; right; simp [UInt8.lt_iff_toNat_lt, h]
theorem lt_trans : ∀ {a b c : Bs}, lt a b = true → lt b c = true → lt a c = true
  | _, [], _, h, _ => by simp [lt, Op.bytesLess] at h
  | _, _ :: _, [], _, h => by simp [lt, Op.bytesLess] at h
  | [], _ :: _, _ :: _, _, _ => rfl
  | x :: a, y :: b, z :: c, h1, h2 => by
    rw [lt_cons, Bool.or_eq_true, Bool.and_eq_true, decide_eq_true_iff, beq_iff_eq, UInt8.lt_iff_toNat_lt] at h1 h2 ⊢
    rcases h1 with h1 | ⟨e1, h1⟩
    · rcases h2 with h2 | ⟨e2, h2⟩
      · left; omega
      · subst e2; left; exact h1
    · subst e1
      rcases h2 with h2 | ⟨e2, h2⟩
      · left; exact h2
      · subst e2; right; exact ⟨rfl, lt_trans h1 h2⟩
theorem lt_asymm {a b : Bs} (h : lt a b = true) : lt b a = false := by
  cases hb : lt b a with
  | false => rfl
  | true => have := lt_trans h hb; rw [lt_irr] at this; cases this
theorem lt_ne {a b : Bs} (h : lt a b = true) : a ≠ b := fun e => by rw [e, lt_irr] at h; cases h
/-- a part of a path that can be -/
def part (p : Bs) : Bool := !decide (p = []) && !decide (p = [46]) && !decide (p = [46, 46])
/-- the rest of a path, behind the bytes of a part -/
def rest : Bs → Bs → Bool
  | q, [] => part q
  | q, c :: r => if c = 47 then part q && rest [] r else !(decide (c < 32) || c == 127) && rest (q ++ [c]) r
/-- can a path be? -/
def can (p : Bs) : Bool := decide (p.length ≤ 200) && rest [] p
/-- a file -/
structure Fl where
  path : Bs
  text : Bs
deriving DecidableEq
/-- is a path above the one ahead of it? -/
def above : Option Bs → Bs → Bool
  | none, _ => true
  | some p, q => lt p q
/-- are files right, behind the path of the one ahead? -/
def go : Option Bs → List Fl → Bool
  | _, [] => true
  | p, f :: t => can f.path && decide (f.text.length ≤ 65536) && above p f.path && go (some f.path) t
def right (t : List Fl) : Bool := go none t && decide (t.length ≤ 1000)
def get (t : List Fl) (p : Bs) : Bs × Bool :=
  match t with
  | [] => ([], false)
  | f :: t => if f.path = p then (f.text, true) else get t p
def drop (t : List Fl) (p : Bs) : List Fl := t.filter fun f => !decide (f.path = p)
def ins (f : Fl) : List Fl → List Fl
  | [] => [f]
  | g :: t => if lt f.path g.path then f :: g :: t else g :: ins f t
/-- a tree with a file; why there is none -/
def put (t : List Fl) (f : Fl) : List Fl × Nat :=
  if can f.path = false then ([], 7) else if 65536 < f.text.length ∨ 1000 ≤ (drop t f.path).length then ([], 4) else (ins f (drop t f.path), 0)

theorem go_weak {p q : Option Bs} {t : List Fl} (h : go p t = true) (hw : ∀ x, above p x = true → above q x = true) : go q t = true := by
  cases t with
  | nil => rfl
  | cons f t =>
    simp only [go, Bool.and_eq_true] at h ⊢
    exact ⟨⟨h.1.1, hw _ h.1.2⟩, h.2⟩
theorem above_trans {p : Option Bs} {x y : Bs} (h : above p x = true) (h' : lt x y = true) : above p y = true := by
  cases p with
  | none => rfl
  | some p => exact lt_trans h h'
theorem go_above {p : Option Bs} : ∀ {t : List Fl}, go p t = true → ∀ f ∈ t, above p f.path = true ∧ can f.path = true ∧ f.text.length ≤ 65536
  | [], _, f, hf => by cases hf
  | g :: t, h, f, hf => by
    simp only [go, Bool.and_eq_true, decide_eq_true_eq] at h
    rcases List.mem_cons.1 hf with rfl | hf
    · exact ⟨h.1.2, h.1.1.1, h.1.1.2⟩
    · obtain ⟨h1, h2⟩ := go_above h.2 f hf
      exact ⟨above_trans h.1.2 h1, h2⟩
/-- dropped, files stay right -/
theorem go_drop (p : Bs) : ∀ {q : Option Bs} {t : List Fl}, go q t = true → go q (drop t p) = true
  | _, [], _ => rfl
  | q, f :: t, h => by
    simp only [go, Bool.and_eq_true] at h
    have ih := go_drop p h.2
    unfold drop at ih ⊢
    rw [List.filter_cons]
    split
    · simp only [go, Bool.and_eq_true]
      exact ⟨h.1, ih⟩
    · exact go_weak ih fun x hx => above_trans h.1.2 hx
theorem drop_none {t : List Fl} {p : Bs} (h : ∀ f ∈ t, f.path ≠ p) : drop t p = t := by
  unfold drop
  rw [List.filter_eq_self]
  intro f hf
  simp [h f hf]
theorem drop_not (t : List Fl) (p : Bs) : ∀ f ∈ drop t p, f.path ≠ p := by
  intro f hf
  unfold drop at hf
  have := (List.mem_filter.1 hf).2
  simpa using this
theorem mem_drop {t : List Fl} {p : Bs} {f : Fl} : f ∈ drop t p ↔ f ∈ t ∧ f.path ≠ p := by
  unfold drop
  rw [List.mem_filter]
  simp
theorem mem_ins {f g : Fl} : ∀ {t : List Fl}, g ∈ ins f t ↔ g = f ∨ g ∈ t
  | [] => by simp [ins]
  | h :: t => by
    have ih := mem_ins (f := f) (g := g) (t := t)
    rw [ins]
    split
    · simp
    · rw [List.mem_cons, ih, List.mem_cons]
      constructor
      · rintro (h | h | h)
        · exact .inr (.inl h)
        · exact .inl h
        · exact .inr (.inr h)
      · rintro (h | h | h)
        · exact .inr (.inl h)
        · exact .inl h
        · exact .inr (.inr h)
theorem ins_len (f : Fl) : ∀ t : List Fl, (ins f t).length = t.length + 1
  | [] => rfl
  | g :: t => by
    have ih := ins_len f t
    rw [ins]
    split
    · simp
    · simp [ih]
/-- put among others, files stay right -/
theorem go_ins {f : Fl} (hc : can f.path = true) (hl : f.text.length ≤ 65536) : ∀ {q : Option Bs} {t : List Fl}, go q t = true → above q f.path = true → (∀ g ∈ t, g.path ≠ f.path) → go q (ins f t) = true
  | q, [], _, hq, _ => by simp [ins, go, hc, hl, hq]
  | q, g :: t, h, hq, hn => by
    have h' := h
    simp only [go, Bool.and_eq_true] at h
    rw [ins]
    split
    · rename_i hlt
      simp only [go, Bool.and_eq_true, decide_eq_true_eq]
      exact ⟨⟨⟨hc, hl⟩, hq⟩, ⟨⟨h.1.1.1, of_decide_eq_true h.1.1.2⟩, hlt⟩, h.2⟩
    · rename_i hlt
      simp only [go, Bool.and_eq_true]
      refine ⟨h.1, go_ins hc hl h.2 ?_ fun x hx => hn x (by simp [hx])⟩
      show lt g.path f.path = true
      rcases lt_tri g.path f.path with h1 | h1 | h1
      · exact h1
      · exact absurd h1 (hn g (by simp))
      · exact absurd h1 hlt
/-- files that are right are told by which they are -/
theorem go_ext : ∀ {q r : Option Bs} {t u : List Fl}, go q t = true → go r u = true → (∀ f, f ∈ t ↔ f ∈ u) → t = u
  | _, _, [], [], _, _, _ => rfl
  | _, _, [], f :: u, _, _, h => by have := (h f).2 (by simp); cases this
  | _, _, f :: t, [], _, _, h => by have := (h f).1 (by simp); cases this
  | q, r, f :: t, g :: u, h1, h2, h => by
    simp only [go, Bool.and_eq_true] at h1 h2
    have a1 := go_above h1.2
    have a2 := go_above h2.2
    have e : f = g := by
      rcases List.mem_cons.1 ((h f).1 (by simp)) with h' | h'
      · exact h'
      · rcases List.mem_cons.1 ((h g).2 (by simp)) with h'' | h''
        · exact h''.symm
        · have := lt_trans (a1 g h'').1 (a2 f h').1
          rw [lt_irr] at this; cases this
    subst e
    congr 1
    refine go_ext h1.2 h2.2 fun x => ⟨fun hx => ?_, fun hx => ?_⟩
    · rcases List.mem_cons.1 ((h x).1 (by simp [hx])) with h' | h'
      · subst h'; have := (a1 x hx).1; rw [show above (some x.path) x.path = lt x.path x.path from rfl, lt_irr] at this; cases this
      · exact h'
    · rcases List.mem_cons.1 ((h x).2 (by simp [hx])) with h' | h'
      · subst h'; have := (a2 x hx).1; rw [show above (some x.path) x.path = lt x.path x.path from rfl, lt_irr] at this; cases this
      · exact h'
theorem get_some {t : List Fl} {p : Bs} (h : (get t p).2 = true) : ∃ f ∈ t, f.path = p ∧ (get t p).1 = f.text := by
  induction t with
  | nil => simp [get] at h
  | cons g t ih =>
    rw [get] at h ⊢
    by_cases hg : g.path = p
    · rw [if_pos hg]; exact ⟨g, by simp, hg, rfl⟩
    · rw [if_neg hg] at h ⊢
      obtain ⟨f, hf, e⟩ := ih h
      exact ⟨f, by simp [hf], e⟩
theorem get_none {t : List Fl} {p : Bs} (h : ∀ f ∈ t, f.path ≠ p) : get t p = ([], false) := by
  induction t with
  | nil => rfl
  | cons g t ih =>
    rw [get, if_neg (h g (by simp))]
    exact ih fun f hf => h f (by simp [hf])
/-- of right files the one with a path is told -/
theorem get_is {q : Option Bs} {t : List Fl} (h : go q t = true) {f : Fl} (hf : f ∈ t) : get t f.path = (f.text, true) := by
  induction t generalizing q with
  | nil => cases hf
  | cons g t ih =>
    simp only [go, Bool.and_eq_true] at h
    rw [get]
    by_cases hg : g.path = f.path
    · rw [if_pos hg]
      rcases List.mem_cons.1 hf with rfl | hf
      · rfl
      · have := (go_above h.2 f hf).1
        exact absurd hg (lt_ne this)
    · rw [if_neg hg]
      rcases List.mem_cons.1 hf with rfl | hf
      · exact absurd rfl hg
      · exact ih h.2 hf
theorem get_same {q r : Option Bs} {t u : List Fl} (h : go q t = true) (h' : go r u = true) {p : Bs} (hm : ∀ f, f.path = p → (f ∈ t ↔ f ∈ u)) : get t p = get u p := by
  by_cases hx : ∃ f ∈ t, f.path = p
  · obtain ⟨f, hf, e⟩ := hx
    subst e
    rw [get_is h hf, get_is h' ((hm f rfl).1 hf)]
  · have hn : ∀ f ∈ t, f.path ≠ p := fun f hf e => hx ⟨f, hf, e⟩
    rw [get_none hn, get_none fun f hf e => hn f ((hm f e).2 hf) e]
end Go.Proofs.YtahcokfoifdlmaaGreatDoor.Tr
namespace Go.Proofs.YtahcokfoifdlmaaGreatDoor.Tr
open Go

theorem drop_le (t : List Fl) (p : Bs) : (drop t p).length ≤ t.length := List.length_filter_le _ _
theorem put_ok {t : List Fl} {f : Fl} (hl : t.length < 1000) (hc : can f.path = true) (hf : f.text.length ≤ 65536) : put t f = (ins f (drop t f.path), 0) := by
  have := drop_le t f.path
  unfold put
  rw [if_neg (by rw [hc]; decide), if_neg (by omega)]
theorem mem_put {t : List Fl} {f x : Fl} : x ∈ ins f (drop t f.path) ↔ x = f ∨ (x ∈ t ∧ x.path ≠ f.path) := by rw [mem_ins, mem_drop]
theorem right_go {t : List Fl} (h : right t = true) : go none t = true ∧ t.length ≤ 1000 := by
  unfold right at h
  rw [Bool.and_eq_true, decide_eq_true_eq] at h
  exact h
theorem go_put {t : List Fl} {f : Fl} (h : go none t = true) (hc : can f.path = true) (hf : f.text.length ≤ 65536) : go none (ins f (drop t f.path)) = true :=
  go_ins hc hf (go_drop _ h) rfl (drop_not t f.path)
theorem put_len (t : List Fl) (f : Fl) : (ins f (drop t f.path)).length ≤ t.length + 1 := by
  have := drop_le t f.path
  rw [ins_len]; omega
end Go.Proofs.YtahcokfoifdlmaaGreatDoor.Tr
