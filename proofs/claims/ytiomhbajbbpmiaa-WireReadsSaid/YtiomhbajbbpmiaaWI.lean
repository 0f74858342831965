/-
  What the calls of a reader come to.
-/
import Derived.Test.YtiomhbajbbpmiaaWH

namespace Go.Proofs.Ytiomhbajbbpmiaa.Wr
open Go Go.RowKit Kt

/-- a reader in block g: what is ahead of it, and why it failed; its bytes lie in a block from B on -/
def Rd (w : World) (B g : Nat) (bs : List UInt8) (e : Nat) : Prop :=
  ∃ A c, Row w g 53 [.slice A bs.length c, .int .i64 (e : Int)] ∧ Sl w (fun b => B ≤ b ∧ b ≠ g) A c bs ∧ B ≤ g ∧ bs.length ≤ 70368744177664
theorem Rd.lt {w : World} {B g : Nat} {bs : List UInt8} {e : Nat} (h : Rd w B g bs e) : g < w.heap.size := by obtain ⟨A, c, hr, _⟩ := h; exact hr.lt
theorem Rd.from {w : World} {B g : Nat} {bs : List UInt8} {e : Nat} (h : Rd w B g bs e) : B ≤ g := by obtain ⟨A, c, _, _, hB, _⟩ := h; exact hB
/-- two readers are apart -/
theorem Rd.apart {w : World} {B B' g g' : Nat} {bs bs' : List UInt8} {e e' : Nat} (h : Rd w B g bs e) (h' : Rd w B' g' bs' e') : ∃ A c, Row w g 53 [.slice A bs.length c, .int .i64 (e : Int)] ∧ Sl w (fun b => B ≤ b ∧ b ≠ g ∧ b ≠ g') A c bs ∧ B ≤ g ∧ bs.length ≤ 70368744177664 := by
  obtain ⟨A, c, hr, hs, h1, h2⟩ := h
  obtain ⟨A', c', hr', _⟩ := h'
  refine ⟨A, c, hr, ⟨hs.1, fun hn => ?_⟩, h1, h2⟩
  obtain ⟨b, o, rfl, hp, hc⟩ := hs.2 hn
  refine ⟨b, o, rfl, ⟨hp.1, hp.2, fun hb => ?_⟩, hc⟩
  have := hc 0 hn
  rw [hb, hr'.cell] at this
  rcases o with _ | _ | o
  · simp at this
  · simp at this
  · simp at this
theorem Rd.only {S : Nat → Prop} {w w' : World} {B g : Nat} {bs : List UInt8} {e : Nat} (h : Rd w B g bs e) (ho : Only S w w') (hS : ∀ k, B ≤ k → k < w.heap.size → ¬ S k) : Rd w' B g bs e := by
  obtain ⟨A, c, hr, hs, h1, h2⟩ := h
  refine ⟨A, c, hr.only ho (hS g h1 hr.lt), ?_, h1, h2⟩
  exact hs.move fun b hb hlt => ho.block b hlt (hS b hb.1 hlt)
theorem Rd.other {w w' : World} {B B' g g' : Nat} {bs bs' : List UInt8} {e e' : Nat} (h : Rd w B g bs e) (h' : Rd w B' g' bs' e') (hne : g ≠ g') (ho : Only (· = g') w w') : Rd w' B g bs e := by
  obtain ⟨A, c, hr, hs, h1, h2⟩ := h.apart h'
  exact ⟨A, c, hr.only ho hne, (hs.only ho fun b hb => hb.2.2).imp fun b _ hb => ⟨hb.1, hb.2.1⟩, h1, h2⟩
theorem Rd.below {w w' : World} {B g : Nat} {bs : List UInt8} {e : Nat} (h : Rd w B g bs e) (hb : Below w.heap.size w w') : Rd w' B g bs e := h.only (Only.of_below (fun _ => False) hb) fun _ _ _ h => h
theorem Rd.drew {w : World} {B g : Nat} {bs : List UInt8} {e : Nat} (h : Rd w B g bs e) : Rd w.drew B g bs e := h

theorem Only.over {S T : Nat → Prop} {w W w1 : World} (h : Only S W w1) (hb : Below w.heap.size w W) (hi : ∀ b, b < w.heap.size → S b → T b) : Only T w w1 :=
  ⟨h.os.trans hb.os, h.tape.trans hb.tape, h.output.trans hb.output, Nat.le_trans hb.size h.size, fun k hk hn => (h.block k (Nat.lt_of_lt_of_le hk hb.size) fun hs => hn (hi k hk hs)).trans (hb.block k hk)⟩

def stepNum (bs : List UInt8) (e : Nat) : Nat × List UInt8 × Nat := if e = 0 then ((numOf bs).1, bs.drop (numOf bs).2.1, (numOf bs).2.2) else (0, bs, e)
def stepText (bs : List UInt8) (e : Nat) (most : Int) : List UInt8 × List UInt8 × Nat := if e = 0 then ((textOf bs most).1, bs.drop (textOf bs most).2.1, (textOf bs most).2.2) else ([], bs, e)
def endOf (bs : List UInt8) (e : Nat) : Nat := if e = 0 then (if 0 < bs.length then 5 else 0) else e

theorem Rd.cut {w' : World} {B g k e : Nat} {bs : List UInt8} {A : Option Addr} {c : Nat} (hr : Row w' g 53 [cutV A bs.length c k, .int .i64 (e : Int)]) (hs : Sl w' (fun b => B ≤ b ∧ b ≠ g) A c bs)
    (hB : B ≤ g) (hl : bs.length ≤ 70368744177664) (hk : k ≤ bs.length) : Rd w' B g (bs.drop k) e := by
  refine ⟨_, _, ?_, hs.cut hk, hB, by rw [List.length_drop]; omega⟩
  rw [List.length_drop]
  exact hr

theorem own_open {w : World} {B : Nat} {E : TypeId} {v : Value} {l : List UInt8} (h : Own w B E v l) : ∃ A c, v = .slice A l.length c ∧ Sl w (fun b => B ≤ b) A c l := by
  have hs := Is.own h
  rcases h.2 with ⟨rfl, h0⟩ | ⟨g, cap, cur, rfl, hB, hg, hnc, hcm, _⟩
  · have e : l = [] := List.eq_nil_of_length_eq_zero h0
    subst e
    exact ⟨none, 0, rfl, Sl.nil _ _ _ _⟩
  · obtain ⟨A, c, he, hs⟩ := hs
    injection he with h1 _ h3
    subst h1 h3
    exact ⟨_, _, rfl, hs.imp fun _ _ hb => hb.1⟩

theorem numOf_le (bs : List UInt8) : (numOf bs).2.1 ≤ bs.length := by
  by_cases he : (numOf bs).2.2 = 0
  · exact (numOf_ok bs (numOf bs).1 (numOf bs).2.1 (by rw [← he])).2.2.2.1
  · have := numOf_fail bs (numOf bs).1 (numOf bs).2.1 _ rfl he
    omega
theorem sizeReader : (Try.prog.info? 53).map (·.size) = some 2 := by kernel_rfl

set_option maxHeartbeats 1000000 in
set_option maxRecDepth 100000 in
theorem open_any (bs : List UInt8) (A : Option Addr) (c : Nat) (Pb : Nat → Prop) (w : World) (hs : Sl w Pb A c bs) (hl : bs.length ≤ 70368744177664) :
    Calls Try.prog 16 #[.slice A bs.length c] w fun y w' => ∃ g, y = .returned (.pointer (some ⟨g, 0, none⟩)) ∧ Rd w' w.heap.size g bs 0 ∧ Below w.heap.size w w' := by
  have Hs := hide hs
  have Hl := hide hl
  clear hs hl
  go_enter Try.func16, Try.ntmps16
  go_wp2_with (go_at_call 28; go_loud (refine (clone_any bs A c Pb _ Hs.out Hl.out).mono ?_; rintro y w1 ⟨v, rfl, hown, hb⟩; obtain ⟨A1, c1, rfl, hs1⟩ := own_open hown; have Hs1 := hide hs1; have Hb := hide hb; clear hown hb hs1))
  go_ret
  have hr := Row.fresh w1 53 #[.slice A1 bs.length c1, .int .i64 0]
  refine ⟨_, rfl, ⟨A1, c1, hr, ?_, Hb.out.size, Hl.out⟩, Hb.out.alloc Hb.out.size _⟩
  exact (Hs1.out.bound.move (w' := w1.alloc (.cells #[.slice A1 bs.length c1, .int .i64 0] 53)) fun b _ hlt => Below.heap_alloc w1 _ b hlt).imp fun b _ hb => ⟨hb.1, by omega⟩

set_option maxHeartbeats 1000000 in
set_option maxRecDepth 100000 in
theorem left_any {w : World} {B g : Nat} {bs : List UInt8} {e : Nat} (h : Rd w B g bs e) :
    Calls Try.prog 21 #[.pointer (some ⟨g, 0, none⟩)] w fun y w' => y = .returned (.int .i64 (bs.length : Nat)) ∧ w = w' := by
  obtain ⟨A, c, hr, _⟩ := h
  have c0 : w.cell? ⟨g, 0, none⟩ = some (.slice A bs.length c) := hr.cell 0
  clear hr
  go_enter Try.func21, Try.ntmps21
  go_wp2
  go_ret
  exact ⟨rfl, rfl⟩
set_option maxHeartbeats 1000000 in
set_option maxRecDepth 100000 in
theorem fail_any {w : World} {B g : Nat} {bs : List UInt8} {e : Nat} (h : Rd w B g bs e) :
    Calls Try.prog 23 #[.pointer (some ⟨g, 0, none⟩)] w fun y w' => y = .returned (.int .i64 (e : Nat)) ∧ w = w' := by
  obtain ⟨A, c, hr, _⟩ := h
  have c0 : w.cell? ⟨g, 1, none⟩ = some (.int .i64 (e : Int)) := hr.cell 1
  clear hr
  go_enter Try.func23, Try.ntmps23
  go_wp2
  go_ret
  exact ⟨rfl, rfl⟩
set_option maxHeartbeats 1000000 in
set_option maxRecDepth 100000 in
theorem end_any {w : World} {B g : Nat} {bs : List UInt8} {e : Nat} (h : Rd w B g bs e) :
    Calls Try.prog 24 #[.pointer (some ⟨g, 0, none⟩)] w fun y w' => y = .returned (.int .i64 (endOf bs e : Nat)) ∧ Below w.heap.size w w' := by
  obtain ⟨A, c, hr, _, _, hl⟩ := h
  have c0 : w.cell? ⟨g, 0, none⟩ = some (.slice A bs.length c) := hr.cell 0
  have c1 : w.cell? ⟨g, 1, none⟩ = some (.int .i64 (e : Int)) := hr.cell 1
  have c0a : ∀ o, (w.alloc o).cell? ⟨g, 0, none⟩ = some (.slice A bs.length c) := fun o => (hr.alloc o).cell 0
  have c1a : ∀ o, (w.alloc o).cell? ⟨g, 1, none⟩ = some (.int .i64 (e : Int)) := fun o => (hr.alloc o).cell 1
  clear hr
  unfold endOf
  by_cases he : e = 0
  · subst he
    by_cases hb : 0 < bs.length
    · go_enter Try.func24, Try.ntmps24
      go_wp2
      go_ret
      exact ⟨rfl, (Below.refl _ _).alloc (Nat.le_refl _) _⟩
    · go_enter Try.func24, Try.ntmps24
      go_wp2
      go_ret
      exact ⟨rfl, (Below.refl _ _).alloc (Nat.le_refl _) _⟩
  · go_enter Try.func24, Try.ntmps24
    go_wp2
    go_ret
    exact ⟨rfl, (Below.refl _ _).alloc (Nat.le_refl _) _⟩

set_option maxHeartbeats 1000000 in
set_option maxRecDepth 100000 in
/-- whether it failed is asked once: what is to be done is done -/
theorem unless_num {w : World} {g : Nat} {a b : Value} {R : Value → World → Prop} (c1 : w.cell? ⟨g, 1, none⟩ = some (.int .i64 0)) (hf : Calls Try.prog 30 #[a, b] w fun y w' => ∃ v, y = .returned v ∧ R v w') :
    Calls Try.prog 29 #[.pointer (some ⟨g, 0, none⟩), .func (.func 30) #[] #[a, b]] w fun y w' => ∃ v, y = .returned v ∧ R v w' := by
  have Hf := hide hf
  clear hf
  go_enter Try.func29, Try.ntmps29
  go_wp2_with fail
  refine Hf.out.mono ?_
  rintro y w1 ⟨v, rfl, hR⟩
  have HR := hide hR
  clear hR
  go_wp2
  go_ret
  exact ⟨v, rfl, HR.out⟩

set_option maxHeartbeats 1000000 in
set_option maxRecDepth 100000 in
/-- whether it failed is asked once: what is to be done is done -/
theorem unless_text {w : World} {g : Nat} {a b c : Value} {R : Value → World → Prop} (c1 : w.cell? ⟨g, 1, none⟩ = some (.int .i64 0)) (hf : Calls Try.prog 33 #[a, b, c] w fun y w' => ∃ v, y = .returned v ∧ R v w') :
    Calls Try.prog 29 #[.pointer (some ⟨g, 0, none⟩), .func (.func 33) #[] #[a, b, c]] w fun y w' => ∃ v, y = .returned v ∧ R v w' := by
  have Hf := hide hf
  clear hf
  go_enter Try.func29, Try.ntmps29
  go_wp2_with fail
  refine Hf.out.mono ?_
  rintro y w1 ⟨v, rfl, hR⟩
  have HR := hide hR
  clear hR
  go_wp2
  go_ret
  exact ⟨v, rfl, HR.out⟩

set_option maxHeartbeats 1000000 in
set_option maxRecDepth 100000 in
theorem read_num {w : World} {B g : Nat} {bs : List UInt8} {e : Nat} (h : Rd w B g bs e) :
    Calls Try.prog 17 #[.pointer (some ⟨g, 0, none⟩)] w fun y w' => y = .returned (.int .u64 ((stepNum bs e).1 : Nat)) ∧ Rd w' B g (stepNum bs e).2.1 (stepNum bs e).2.2 ∧ Only (· = g) w w' := by
  have Hrd := hide h
  obtain ⟨A, c, hr, hs, hB, hl⟩ := h
  have c1a : ∀ o o', ((w.alloc o).alloc o').cell? ⟨g, 1, none⟩ = some (.int .i64 (e : Int)) := fun o o' => ((hr.alloc o).alloc o').cell 1
  have Hr := hide hr
  have Hs := hide hs
  clear hr hs
  by_cases he : e = 0
  · subst he
    obtain ⟨n, k, e, hnum⟩ : ∃ n k e, numOf bs = (n, k, e) := ⟨_, _, _, rfl⟩
    have Hk := hide (show k ≤ bs.length by have := numOf_le bs; rw [hnum] at this; exact this)
    have Hst := hide (show stepNum bs 0 = (n, bs.drop k, e) by unfold stepNum; rw [if_pos rfl, hnum])
    have Hnum := hide hnum
    clear hnum
    have Hlt := hide Hr.out.lt
    go_enter Try.func17, Try.ntmps17
    go_wp2_with fail
    have hr1 := (Row.fresh w 30 #[.pointer (some ⟨g, 0, none⟩)]).alloc (.cells #[.int .u64 0] 23)
    have hn1 := Row.new (w.alloc (.cells #[.pointer (some ⟨g, 0, none⟩)] 30)) (g := w.heap.size + 1) 23 (cs := #[.int .u64 0]) (l := [.int .u64 ((0 : Nat) : Int)]) (by simp) rfl
    have hg1 := (Hr.out.alloc (.cells #[.pointer (some ⟨g, 0, none⟩)] 30)).alloc (.cells #[.int .u64 0] 23)
    have hb1 := ((Below.refl w.heap.size w).alloc (Nat.le_refl _) (.cells #[.pointer (some ⟨g, 0, none⟩)] 30)).alloc (by simp) (.cells #[.int .u64 0] 23)
    have hs1 := Hs.out.bound.move (w' := (w.alloc (.cells #[.pointer (some ⟨g, 0, none⟩)] 30)).alloc (.cells #[.int .u64 0] 23)) fun b hb _ => hb1.block b hb.2
    refine (unless_num (R := fun _ w1 => Row w1 (w.heap.size + 1) 23 [.int .u64 (n : Int)] ∧ Row w1 g 53 [cutV A bs.length c k, .int .i64 (e : Int)] ∧ Only (fun b => b = g ∨ b = w.heap.size + 1) ((w.alloc (.cells #[.pointer (some ⟨g, 0, none⟩)] 30)).alloc (.cells #[.int .u64 0] 23)) w1) (c1a _ _) ((num_clo bs A c g w.heap.size (w.heap.size + 1) 0 n k e _ _ hr1 hn1 hg1 hs1 (fun b hb => by omega) (by omega) (by have := Hlt.out; omega) (by have := Hlt.out; omega) hl Hnum.out).mono fun y w1 hq => ⟨_, hq.1, hq.2⟩)).mono ?_
    rintro y w1 ⟨v, rfl, hn2, hg2, ho2⟩
    have Ho := hide (ho2.over (T := (· = g)) hb1 fun b hb h => by omega)
    have Hg2 := hide hg2
    have cn : w1.cell? ⟨w.heap.size + 1, 0, none⟩ = some (.int .u64 (n : Int)) := hn2.cell 0
    clear hr1 hn1 hg1 hb1 hs1 hn2 hg2 ho2
    go_wp2
    go_ret
    rw [Hst.out]
    exact ⟨rfl, Rd.cut Hg2.out (Hs.out.only Ho.out fun b hb => hb.2) hB hl Hk.out, Ho.out⟩
  · have Hst := hide (show stepNum bs e = (0, bs, e) by unfold stepNum; rw [if_neg he])
    have hb : ((e : Int) != 0) = true := by rw [bne_iff_ne]; omega
    go_enter Try.func17, Try.ntmps17
    go_wp2
    go_ret
    rw [Hst.out]
    have hb1 := ((Below.refl w.heap.size w).alloc (Nat.le_refl _) (.cells #[.pointer (some ⟨g, 0, none⟩)] 30)).alloc (by simp) (.cells #[.int .u64 0] 23)
    exact ⟨rfl, Hrd.out.below hb1, Only.of_below _ hb1⟩
end Go.Proofs.Ytiomhbajbbpmiaa.Wr
