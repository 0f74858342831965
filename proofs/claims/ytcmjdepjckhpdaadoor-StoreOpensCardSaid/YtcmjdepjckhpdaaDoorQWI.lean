/-
  What the calls of a reader come to.
-/
import Derived.Test.YtcmjdepjckhpdaaDoorQWE
import Derived.Test.YtcmjdepjckhpdaaDoorQWD
import Derived.Test.YtcmjdepjckhpdaaDoorQSE

namespace Go.Proofs.YtcmjdepjckhpdaaDoor.Wr
open Go Go.RowKit Kt

/-- a reader in block g: what is ahead of it, and why it failed; its bytes lie in a block from B on -/
def Rd (w : World) (B g : Nat) (bs : List UInt8) (e : Nat) : Prop :=
  ∃ A c, Row w g 122 [.slice A bs.length c, .int .i64 (e : Int)] ∧ Sl w (fun b => B ≤ b ∧ b ≠ g) A c bs ∧ B ≤ g ∧ bs.length ≤ 70368744177664
/-- the same, its bytes in a block that S tells -/
def RdP (w : World) (S : Nat → Prop) (g : Nat) (bs : List UInt8) (e : Nat) : Prop :=
  ∃ A c, Row w g 122 [.slice A bs.length c, .int .i64 (e : Int)] ∧ Sl w (fun b => S b ∧ b ≠ g) A c bs ∧ S g ∧ bs.length ≤ 70368744177664
theorem RdP.lt {w : World} {S : Nat → Prop} {g : Nat} {bs : List UInt8} {e : Nat} (h : RdP w S g bs e) : g < w.heap.size := by obtain ⟨A, c, hr, _⟩ := h; exact hr.lt
theorem RdP.of {w : World} {B g : Nat} {bs : List UInt8} {e : Nat} (h : Rd w B g bs e) : RdP w (fun b => B ≤ b) g bs e := h
theorem RdP.rd {w : World} {B g : Nat} {bs : List UInt8} {e : Nat} (h : RdP w (fun b => B ≤ b) g bs e) : Rd w B g bs e := h
theorem RdP.imp {w : World} {S T : Nat → Prop} {g : Nat} {bs : List UInt8} {e : Nat} (h : RdP w S g bs e) (hi : ∀ b, b < w.heap.size → S b → T b) : RdP w T g bs e := by
  have hlt := h.lt
  obtain ⟨A, c, hr, hs, h1, h2⟩ := h
  exact ⟨A, c, hr, hs.imp fun b hb hp => ⟨hi b hb hp.1, hp.2⟩, hi g hlt h1, h2⟩
theorem RdP.below {w w' : World} {S : Nat → Prop} {g : Nat} {bs : List UInt8} {e : Nat} (h : RdP w S g bs e) (hb : Below w.heap.size w w') : RdP w' S g bs e := by
  obtain ⟨A, c, hr, hs, h1, h2⟩ := h
  exact ⟨A, c, hr.below hb hr.lt, hs.move fun b _ hlt => hb.block b hlt, h1, h2⟩
theorem Rd.lt {w : World} {B g : Nat} {bs : List UInt8} {e : Nat} (h : Rd w B g bs e) : g < w.heap.size := by obtain ⟨A, c, hr, _⟩ := h; exact hr.lt
theorem Rd.from {w : World} {B g : Nat} {bs : List UInt8} {e : Nat} (h : Rd w B g bs e) : B ≤ g := by obtain ⟨A, c, _, _, hB, _⟩ := h; exact hB
/-- two readers are apart -/
theorem Rd.apart {w : World} {B B' g g' : Nat} {bs bs' : List UInt8} {e e' : Nat} (h : Rd w B g bs e) (h' : Rd w B' g' bs' e') : ∃ A c, Row w g 122 [.slice A bs.length c, .int .i64 (e : Int)] ∧ Sl w (fun b => B ≤ b ∧ b ≠ g ∧ b ≠ g') A c bs ∧ B ≤ g ∧ bs.length ≤ 70368744177664 := by
  obtain ⟨A, c, hr, hs, h1, h2⟩ := h
  obtain ⟨A', c', hr', _⟩ := h'
  refine ⟨A, c, hr, ⟨hs.1, fun hn => ?_⟩, h1, h2⟩
  obtain ⟨b, o, rfl, hp, hc⟩ := hs.2 hn
  refine ⟨b, o, rfl, ⟨hp.1, hp.2, fun hb => ?_⟩, hc⟩
  have := hc 0 hn
  rw [hb, hr'.cell] at this
  rcases o with _ | _ | o
  · simp at this
  · simp at this
  · simp at this
theorem Rd.only {S : Nat → Prop} {w w' : World} {B g : Nat} {bs : List UInt8} {e : Nat} (h : Rd w B g bs e) (ho : Only S w w') (hS : ∀ k, B ≤ k → k < w.heap.size → ¬ S k) : Rd w' B g bs e := by
  obtain ⟨A, c, hr, hs, h1, h2⟩ := h
  refine ⟨A, c, hr.only ho (hS g h1 hr.lt), ?_, h1, h2⟩
  exact hs.move fun b hb hlt => ho.block b hlt (hS b hb.1 hlt)
theorem Rd.other {w w' : World} {B B' g g' : Nat} {bs bs' : List UInt8} {e e' : Nat} (h : Rd w B g bs e) (h' : Rd w B' g' bs' e') (hne : g ≠ g') (ho : Only (· = g') w w') : Rd w' B g bs e := by
  obtain ⟨A, c, hr, hs, h1, h2⟩ := h.apart h'
  exact ⟨A, c, hr.only ho hne, (hs.only ho fun b hb => hb.2.2).imp fun b _ hb => ⟨hb.1, hb.2.1⟩, h1, h2⟩
theorem Rd.below {w w' : World} {B g : Nat} {bs : List UInt8} {e : Nat} (h : Rd w B g bs e) (hb : Below w.heap.size w w') : Rd w' B g bs e := h.only (Only.of_below (fun _ => False) hb) fun _ _ _ h => h
theorem Rd.drew {w : World} {B g : Nat} {bs : List UInt8} {e : Nat} (h : Rd w B g bs e) : Rd w.drew B g bs e := h

theorem Only.over {S T : Nat → Prop} {w W w1 : World} (h : Only S W w1) (hb : Below w.heap.size w W) (hi : ∀ b, b < w.heap.size → S b → T b) : Only T w w1 :=
  ⟨h.os.trans hb.os, h.tape.trans hb.tape, h.output.trans hb.output, Nat.le_trans hb.size h.size, fun k hk hn => (h.block k (Nat.lt_of_lt_of_le hk hb.size) fun hs => hn (hi k hk hs)).trans (hb.block k hk)⟩

def stepNum (bs : List UInt8) (e : Nat) : Nat × List UInt8 × Nat := if e = 0 then ((numOf bs).1, bs.drop (numOf bs).2.1, (numOf bs).2.2) else (0, bs, e)
def stepText (bs : List UInt8) (e : Nat) (most : Int) : List UInt8 × List UInt8 × Nat := if e = 0 then ((textOf bs most).1, bs.drop (textOf bs most).2.1, (textOf bs most).2.2) else ([], bs, e)
def endOf (bs : List UInt8) (e : Nat) : Nat := if e = 0 then (if 0 < bs.length then 5 else 0) else e

theorem RdP.cut {w' : World} {S : Nat → Prop} {g k e : Nat} {bs : List UInt8} {A : Option Addr} {c : Nat} (hr : Row w' g 122 [cutV A bs.length c k, .int .i64 (e : Int)]) (hs : Sl w' (fun b => S b ∧ b ≠ g) A c bs)
    (hB : S g) (hl : bs.length ≤ 70368744177664) (hk : k ≤ bs.length) : RdP w' S g (bs.drop k) e := by
  refine ⟨_, _, ?_, hs.cut hk, hB, by rw [List.length_drop]; omega⟩
  rw [List.length_drop]
  exact hr

theorem own_open {w : World} {B : Nat} {E : TypeId} {v : Value} {l : List UInt8} (h : Own w B E v l) : ∃ A c, v = .slice A l.length c ∧ Sl w (fun b => B ≤ b) A c l := by
  have hs := Is.own h
  rcases h.2 with ⟨rfl, h0⟩ | ⟨g, cap, cur, rfl, hB, hg, hnc, hcm, _⟩
  · have e : l = [] := List.eq_nil_of_length_eq_zero h0
    subst e
    exact ⟨none, 0, rfl, Sl.nil _ _ _ _⟩
  · obtain ⟨A, c, he, hs⟩ := hs
    injection he with h1 _ h3
    subst h1 h3
    exact ⟨_, _, rfl, hs.imp fun _ _ hb => hb.1⟩

theorem numOf_le (bs : List UInt8) : (numOf bs).2.1 ≤ bs.length := by
  by_cases he : (numOf bs).2.2 = 0
  · exact (numOf_ok bs (numOf bs).1 (numOf bs).2.1 (by rw [← he])).2.2.2.1
  · have := numOf_fail bs (numOf bs).1 (numOf bs).2.1 _ rfl he
    omega
theorem sizeReader : (Tryd.prog.info? 122).map (·.size) = some 2 := by kernel_rfl

set_option maxHeartbeats 1000000 in
set_option maxRecDepth 100000 in
theorem open_any (bs : List UInt8) (A : Option Addr) (c : Nat) (Pb : Nat → Prop) (w : World) (hs : Sl w Pb A c bs) (hl : bs.length ≤ 70368744177664) :
    Calls Tryd.prog 64 #[.slice A bs.length c] w fun y w' => ∃ g, y = .returned (.pointer (some ⟨g, 0, none⟩)) ∧ Rd w' w.heap.size g bs 0 ∧ Below w.heap.size w w' := by
  have Hs := hide hs
  have Hl := hide hl
  clear hs hl
  go_enter Tryd.func64, Tryd.ntmps64
  go_wp2_with (go_at_call 40; go_loud (refine (clone_any bs A c Pb _ Hs.out Hl.out).mono ?_; rintro y w1 ⟨v, rfl, hown, hb⟩; obtain ⟨A1, c1, rfl, hs1⟩ := own_open hown; have Hs1 := hide hs1; have Hb := hide hb; clear hown hb hs1))
  go_ret
  have hr := Row.fresh w1 122 #[.slice A1 bs.length c1, .int .i64 0]
  refine ⟨_, rfl, ⟨A1, c1, hr, ?_, Hb.out.size, Hl.out⟩, Hb.out.alloc Hb.out.size _⟩
  exact (Hs1.out.bound.move (w' := w1.alloc (.cells #[.slice A1 bs.length c1, .int .i64 0] 122)) fun b _ hlt => Below.heap_alloc w1 _ b hlt).imp fun b _ hb => ⟨hb.1, by omega⟩

set_option maxHeartbeats 1000000 in
set_option maxRecDepth 100000 in
theorem left_any {w : World} {B g : Nat} {bs : List UInt8} {e : Nat} (h : Rd w B g bs e) :
    Calls Tryd.prog 66 #[.pointer (some ⟨g, 0, none⟩)] w fun y w' => y = .returned (.int .i64 (bs.length : Nat)) ∧ w = w' := by
  obtain ⟨A, c, hr, _⟩ := h
  have c0 : w.cell? ⟨g, 0, none⟩ = some (.slice A bs.length c) := hr.cell 0
  clear hr
  go_enter Tryd.func66, Tryd.ntmps66
  go_wp2
  go_ret
  exact ⟨rfl, rfl⟩
set_option maxHeartbeats 1000000 in
set_option maxRecDepth 100000 in
theorem fail_any {w : World} {B g : Nat} {bs : List UInt8} {e : Nat} (h : Rd w B g bs e) :
    Calls Tryd.prog 67 #[.pointer (some ⟨g, 0, none⟩)] w fun y w' => y = .returned (.int .i64 (e : Nat)) ∧ w = w' := by
  obtain ⟨A, c, hr, _⟩ := h
  have c0 : w.cell? ⟨g, 1, none⟩ = some (.int .i64 (e : Int)) := hr.cell 1
  clear hr
  go_enter Tryd.func67, Tryd.ntmps67
  go_wp2
  go_ret
  exact ⟨rfl, rfl⟩
set_option maxHeartbeats 1000000 in
set_option maxRecDepth 100000 in
/-- whether it failed is asked once: what is to be done is done -/
theorem unless_num {w : World} {g : Nat} {a b : Value} {R : Value → World → Prop} (c1 : w.cell? ⟨g, 1, none⟩ = some (.int .i64 0)) (hf : Calls Tryd.prog 71 #[a, b] w fun y w' => ∃ v, y = .returned v ∧ R v w') :
    Calls Tryd.prog 70 #[.pointer (some ⟨g, 0, none⟩), .func (.func 71) #[] #[a, b]] w fun y w' => ∃ v, y = .returned v ∧ R v w' := by
  have Hf := hide hf
  clear hf
  go_enter Tryd.func70, Tryd.ntmps70
  go_wp2_with fail
  refine Hf.out.mono ?_
  rintro y w1 ⟨v, rfl, hR⟩
  have HR := hide hR
  clear hR
  go_wp2
  go_ret
  exact ⟨v, rfl, HR.out⟩

set_option maxHeartbeats 1000000 in
set_option maxRecDepth 100000 in
theorem readP_num {w : World} {S : Nat → Prop} {g : Nat} {bs : List UInt8} {e : Nat} (h : RdP w S g bs e) :
    Calls Tryd.prog 65 #[.pointer (some ⟨g, 0, none⟩)] w fun y w' => y = .returned (.int .u64 ((stepNum bs e).1 : Nat)) ∧ RdP w' S g (stepNum bs e).2.1 (stepNum bs e).2.2 ∧ Only (· = g) w w' := by
  have Hrd := hide h
  obtain ⟨A, c, hr, hs, hB, hl⟩ := h
  have c1a : ∀ o o', ((w.alloc o).alloc o').cell? ⟨g, 1, none⟩ = some (.int .i64 (e : Int)) := fun o o' => ((hr.alloc o).alloc o').cell 1
  have Hr := hide hr
  have Hs := hide hs
  clear hr hs
  by_cases he : e = 0
  · subst he
    obtain ⟨n, k, e, hnum⟩ : ∃ n k e, numOf bs = (n, k, e) := ⟨_, _, _, rfl⟩
    have Hk := hide (show k ≤ bs.length by have := numOf_le bs; rw [hnum] at this; exact this)
    have Hst := hide (show stepNum bs 0 = (n, bs.drop k, e) by unfold stepNum; rw [if_pos rfl, hnum])
    have Hnum := hide hnum
    clear hnum
    have Hlt := hide Hr.out.lt
    go_enter Tryd.func65, Tryd.ntmps65
    go_wp2_with fail
    have hr1 := (Row.fresh w 116 #[.pointer (some ⟨g, 0, none⟩)]).alloc (.cells #[.int .u64 0] 75)
    have hn1 := Row.new (w.alloc (.cells #[.pointer (some ⟨g, 0, none⟩)] 116)) (g := w.heap.size + 1) 75 (cs := #[.int .u64 0]) (l := [.int .u64 ((0 : Nat) : Int)]) (by simp) rfl
    have hg1 := (Hr.out.alloc (.cells #[.pointer (some ⟨g, 0, none⟩)] 116)).alloc (.cells #[.int .u64 0] 75)
    have hb1 := ((Below.refl w.heap.size w).alloc (Nat.le_refl _) (.cells #[.pointer (some ⟨g, 0, none⟩)] 116)).alloc (by simp) (.cells #[.int .u64 0] 75)
    have hs1 := Hs.out.bound.move (w' := (w.alloc (.cells #[.pointer (some ⟨g, 0, none⟩)] 116)).alloc (.cells #[.int .u64 0] 75)) fun b hb _ => hb1.block b hb.2
    refine (unless_num (R := fun _ w1 => Row w1 (w.heap.size + 1) 75 [.int .u64 (n : Int)] ∧ Row w1 g 122 [cutV A bs.length c k, .int .i64 (e : Int)] ∧ Only (fun b => b = g ∨ b = w.heap.size + 1) ((w.alloc (.cells #[.pointer (some ⟨g, 0, none⟩)] 116)).alloc (.cells #[.int .u64 0] 75)) w1) (c1a _ _) ((num_clo bs A c g w.heap.size (w.heap.size + 1) 0 n k e _ _ hr1 hn1 hg1 hs1 (fun b hb => by omega) (by omega) (by have := Hlt.out; omega) (by have := Hlt.out; omega) hl Hnum.out).mono fun y w1 hq => ⟨_, hq.1, hq.2⟩)).mono ?_
    rintro y w1 ⟨v, rfl, hn2, hg2, ho2⟩
    have Ho := hide (ho2.over (T := (· = g)) hb1 fun b hb h => by omega)
    have Hg2 := hide hg2
    have cn : w1.cell? ⟨w.heap.size + 1, 0, none⟩ = some (.int .u64 (n : Int)) := hn2.cell 0
    clear hr1 hn1 hg1 hb1 hs1 hn2 hg2 ho2
    go_wp2
    go_ret
    rw [Hst.out]
    exact ⟨rfl, RdP.cut Hg2.out (Hs.out.only Ho.out fun b hb => hb.2) hB hl Hk.out, Ho.out⟩
  · have Hst := hide (show stepNum bs e = (0, bs, e) by unfold stepNum; rw [if_neg he])
    have hb : ((e : Int) != 0) = true := by rw [bne_iff_ne]; omega
    go_enter Tryd.func65, Tryd.ntmps65
    go_wp2
    go_ret
    rw [Hst.out]
    have hb1 := ((Below.refl w.heap.size w).alloc (Nat.le_refl _) (.cells #[.pointer (some ⟨g, 0, none⟩)] 116)).alloc (by simp) (.cells #[.int .u64 0] 75)
    exact ⟨rfl, Hrd.out.below hb1, Only.of_below _ hb1⟩
theorem read_num {w : World} {B g : Nat} {bs : List UInt8} {e : Nat} (h : Rd w B g bs e) :
    Calls Tryd.prog 65 #[.pointer (some ⟨g, 0, none⟩)] w fun y w' => y = .returned (.int .u64 ((stepNum bs e).1 : Nat)) ∧ Rd w' B g (stepNum bs e).2.1 (stepNum bs e).2.2 ∧ Only (· = g) w w' := readP_num (RdP.of h)
end Go.Proofs.YtcmjdepjckhpdaaDoor.Wr
namespace Go.Proofs.YtcmjdepjckhpdaaDoor.Wr
open Go Go.RowKit Kt

/-- the reference's reader in block g: its bytes, how many are behind it, why it failed -/
def RR (w : World) (B g : Nat) (bs : List UInt8) (at_ e : Nat) : Prop :=
  ∃ A c, Row w g 74 [.slice A bs.length c, .int .i64 (at_ : Int), .int .i64 (e : Int)] ∧ Sl w (fun b => b < B) A c bs ∧ B ≤ g ∧ at_ ≤ bs.length ∧ bs.length ≤ 4000
theorem RR.lt {w : World} {B g : Nat} {bs : List UInt8} {at_ e : Nat} (h : RR w B g bs at_ e) : g < w.heap.size := by obtain ⟨A, c, hr, _⟩ := h; exact hr.lt
theorem RR.drewN {w : World} {B g : Nat} {bs : List UInt8} {at_ e : Nat} (h : RR w B g bs at_ e) (n : Nat) : RR (w.drewN n) B g bs at_ e := h
theorem RR.below {w w' : World} {B g : Nat} {bs : List UInt8} {at_ e : Nat} (h : RR w B g bs at_ e) (hb : Below w.heap.size w w') : RR w' B g bs at_ e := by
  obtain ⟨A, c, hr, hs, hB, h1, h2⟩ := h
  exact ⟨A, c, hr.below hb hr.lt, hs.move fun b _ hlt => hb.block b hlt, hB, h1, h2⟩

theorem Only.drewN {S : Nat → Prop} {a b : World} (h : Only S a b) (n : Nat) : Only S a (b.drewN n) := ⟨h.os, h.tape, h.output, h.size, h.block⟩
theorem RR.only {S : Nat → Prop} {w w' : World} {B g : Nat} {bs : List UInt8} {at_ e : Nat} (h : RR w B g bs at_ e) (ho : Only S w w') (hg : ¬ S g) (hS : ∀ b, b < B → ¬ S b) : RR w' B g bs at_ e := by
  obtain ⟨A, c, hr, hs, hB, h1, h2⟩ := h
  exact ⟨A, c, hr.only ho hg, hs.only ho hS, hB, h1, h2⟩

set_option maxHeartbeats 1000000 in
set_option maxRecDepth 100000 in
theorem rleft_any {w : World} {B g : Nat} {bs : List UInt8} {at_ e : Nat} (h : RR w B g bs at_ e) :
    Calls Tryd.prog 35 #[.pointer (some ⟨g, 0, none⟩)] w fun y w' => y = .returned (.int .i64 (bs.length - at_ : Nat)) ∧ ∃ n, w' = w.drewN n := by
  obtain ⟨A, c, hr, _, _, h1, h2⟩ := h
  have c0 : w.cell? ⟨g, 0, none⟩ = some (.slice A bs.length c) := hr.cell 0
  have c1 : w.cell? ⟨g, 1, none⟩ = some (.int .i64 (at_ : Int)) := hr.cell 1
  have hsub : (bs.length : Int) - (at_ : Int) = ((bs.length - at_ : Nat) : Int) := by omega
  have Hr := hide hr
  clear hr
  go_enter Tryd.func35, Tryd.ntmps35
  go_wp2
  go_quiet (fail)
  go_wp2
  go_ret
  exact ⟨rfl, _, rfl⟩

end Go.Proofs.YtcmjdepjckhpdaaDoor.Wr

namespace Go.Proofs.YtcmjdepjckhpdaaDoor.Wr
open Go Go.RowKit Kt

theorem drop_getD (bs : List UInt8) (a j : Nat) : (bs.drop a).getD j 0 = bs.getD (a + j) 0 := by
  simp [List.getD_eq_getElem?_getD, List.getElem?_drop]
/-- the number that stands next, by its value's remainder -/
theorem next_same (X : List UInt8) (k n : Nat) (h : lead X = k) (hk : k < X.length) (h9 : k < 10) (hn : n = val (X.take (k + 1)) % 18446744073709551616) :
    numOf X = if form n = X.take (k + 1) then (n, k + 1, 0) else (0, 0, 3) := by
  have hlt : n < 18446744073709551616 := by rw [hn]; exact Nat.mod_lt _ (by omega)
  split
  · rename_i he
    have hl : (X.take (k + 1)).length = k + 1 := by rw [List.length_take]; omega
    have := numOf_form n (X.drop (k + 1)) hlt
    rw [he, hl, List.take_append_drop] at this
    exact this
  · rename_i he
    by_cases hx : (0 < k ∧ (X.getD k 0).toNat = 0) ∨ (k = 9 ∧ 1 < (X.getD k 0).toNat)
    · exact num_form X k h h9 hk hx
    · exfalso
      have hok := num_ok X k h h9 hk hx
      obtain ⟨h1, _, _, _, h2⟩ := numOf_ok _ _ _ hok
      rw [Nat.mod_eq_of_lt h1] at hn
      rw [hn] at he
      exact he h2
theorem val_cons (D : List UInt8) (j : Nat) (h : j < D.length) : val (D.drop j) = (D.getD j 0).toNat % 128 + 128 * val (D.drop (j + 1)) := by
  rw [List.drop_eq_getElem_cons h, val]
  simp [List.getElem?_eq_getElem h]

set_option maxHeartbeats 2000000 in
set_option maxRecDepth 100000 in
theorem rnext_any {w : World} {B g : Nat} {bs : List UInt8} {at_ e : Nat} (h : RR w B g bs at_ e) :
    Calls Tryd.prog 50 #[.pointer (some ⟨g, 0, none⟩)] w fun y w' => y = .returned (numV (numOf (bs.drop at_))) ∧ Below w.heap.size w w' := by
  have Hrr := hide h
  obtain ⟨A, c, hr, hs, _, h1, h2⟩ := h
  have Hs := hide hs.bound
  have hc := hs.1
  have Hr := hide hr
  obtain ⟨L, hL⟩ : ∃ L, bs.length - at_ = L := ⟨_, rfl⟩
  have Hleft : Hid (∀ wx, RR wx B g bs at_ e → Calls Tryd.prog 35 #[.pointer (some ⟨g, 0, none⟩)] wx fun y w' => y = .returned (.int .i64 (L : Nat)) ∧ ∃ n, w' = wx.drewN n) := hide fun wx hx => by rw [← hL]; exact rleft_any hx
  have hLb : at_ + L = bs.length := by omega
  obtain ⟨X, hX⟩ : ∃ X, bs.drop at_ = X := ⟨_, rfl⟩
  have hXl : X.length = L := by rw [← hX, List.length_drop]; exact hL
  have HX := hide hX
  have HXl := hide hXl
  rw [hX]
  clear hX hXl hL hr hs
  go_enter Tryd.func50, Tryd.ntmps50
  go_wp2
  go_loopw [5] (fun i wr => ∃ k : Nat, k ≤ L ∧ k ≤ 10 ∧ i = .int .i64 k ∧ (∀ j, j < k → 128 ≤ (X.getD j 0).toNat) ∧ Below w.heap.size w wr) (fun i _ => L - (intOf i).toNat)
  case atStart => exact ⟨0, Nat.zero_le _, Nat.zero_le _, rfl, fun j h => absurd h (Nat.not_lt_zero _), Below.refl _ _⟩
  case round =>
    obtain ⟨k, hkL, hk10, rfl, hall, hb⟩ := hrel
    have Hb := hide hb
    have Hall := hide hall
    have c0 : wr.cell? ⟨g, 0, none⟩ = some (.slice A bs.length c) := (Hr.out.below hb Hr.out.lt).cell 0
    have c1 : wr.cell? ⟨g, 1, none⟩ = some (.int .i64 (at_ : Int)) := (Hr.out.below hb Hr.out.lt).cell 1
    clear hb hall
    by_cases hkl : k < L
    · by_cases hk : k < 10
      · obtain ⟨b, o, rfl, ⟨_, hblt⟩, hcell⟩ := Hs.out.2 (by omega)
        obtain ⟨x, hx⟩ : ∃ x, x = (X.getD k 0).toNat := ⟨_, rfl⟩
        have hx2 : x = (bs.getD (at_ + k) 0).toNat := by rw [hx, ← HX.out, drop_getD]
        have hcx := hcell (at_ + k) (by omega)
        rw [← hx2] at hcx
        obtain ⟨q, hq⟩ : ∃ q, at_ + k = q := ⟨_, rfl⟩
        have Hq := hide hq
        rw [hq] at hcx
        have hwq : IntKind.i64.wrap ((at_ : Int) + (k : Int)) = (q : Int) := by rw [IntKind.wrap_i64]; omega
        have hql : q < bs.length := by omega
        have cx : wr.cell? ⟨b, o + q, none⟩ = some (.int .u8 (x : Int)) := (World.cell?_of_block (a := ⟨b, o + q, none⟩) (Hb.out.block b hblt)).trans hcx
        have Hx := hide hx
        have Hcell := hide hcell
        have Hblt := hide hblt
        have hx8 : x < 256 := by rw [hx]; exact toNat_lt _
        have hd1 : decide ((k : Int) < (L : Int)) = true := decide_eq_true (by omega)
        have hd2 : decide ((k : Int) < 10) = true := decide_eq_true (by omega)
        clear hx hx2 hcx hcell hblt hq
        by_cases h128 : 128 ≤ x
        · have hd3 : decide (127 < (x : Int)) = true := decide_eq_true (by omega)
          go_wp2_with fail
          refine Rg.wp_region_ord (fun w' => w'.cell? ⟨g, 0, none⟩ = some (.slice (some ⟨b, o, none⟩) bs.length c) ∧ w'.cell? ⟨g, 1, none⟩ = some (.int .i64 (at_ : Int)) ∧ w'.cell? ⟨b, o + q, none⟩ = some (.int .u8 (x : Int))) [(0, true), (1, true), (2, false), (3, true), (4, true), (5, true), (6, true), (7, true), (8, true), (9, true), (10, true), (11, true), (12, true), (13, true), (14, true), (15, true), (16, true), (17, true), (18, true), (19, true), (20, true), (21, true), (22, true)] (by kernel_rfl) (by kernel_rfl) ?_
          simp only [Rg.pick, List.map_cons, List.map_nil, List.getD_cons_zero, List.getD_cons_succ]
          iterate 2 (refine Rg.ord_quiet (v := ?_) rfl (fun w' hS => ?_) ⟨c0, c1, cx⟩ ?_; rotate_left; (obtain ⟨s0, s1, s2⟩ := hS; go_simp; with_reducible rfl); simp only [Act.put, List.setIfInBounds_toArray, List.set_cons_succ, List.set_cons_zero])
          refine Rg.ord_loud rfl (fun K hK => ?_)
          go_simp
          refine (Hleft.out _ ((Hrr.out.below Hb.out).drewN 1)).mono ?_
          rintro y wz ⟨rfl, nz, rfl⟩
          refine hK _ _ (fun _ => ⟨c0, c1, cx⟩) ?_
          clear hK K
          iterate 2 (refine Rg.ord_quiet (v := ?_) rfl (fun w' hS => ?_) ⟨c0, c1, cx⟩ ?_; rotate_left; (obtain ⟨s0, s1, s2⟩ := hS; go_simp; with_reducible rfl); simp only [Act.put, List.setIfInBounds_toArray, List.set_cons_succ, List.set_cons_zero])
          iterate 2 (refine Rg.ord_guarded (v := ?_) (by rfl) (fun w' hS => ?_) ⟨c0, c1, cx⟩ ?_; rotate_left; (obtain ⟨s0, s1, s2⟩ := hS; go_simp; with_reducible rfl); simp only [Act.put, List.setIfInBounds_toArray, List.set_cons_succ, List.set_cons_zero])
          iterate 2 (refine Rg.ord_quiet (v := ?_) rfl (fun w' hS => ?_) ⟨c0, c1, cx⟩ ?_; rotate_left; (obtain ⟨s0, s1, s2⟩ := hS; go_simp; with_reducible rfl); simp only [Act.put, List.setIfInBounds_toArray, List.set_cons_succ, List.set_cons_zero])
          iterate 13 (refine Rg.ord_guarded (v := ?_) (by rfl) (fun w' hS => ?_) ⟨c0, c1, cx⟩ ?_; rotate_left; (obtain ⟨s0, s1, s2⟩ := hS; go_simp; with_reducible rfl); simp only [Act.put, List.setIfInBounds_toArray, List.set_cons_succ, List.set_cons_zero])
          iterate 1 (refine Rg.ord_quiet (v := ?_) rfl (fun w' hS => ?_) ⟨c0, c1, cx⟩ ?_; rotate_left; (obtain ⟨s0, s1, s2⟩ := hS; go_simp; with_reducible rfl); simp only [Act.put, List.setIfInBounds_toArray, List.set_cons_succ, List.set_cons_zero])
          refine Rg.ord_nil ?_
          go_wp2
          refine ⟨⟨k + 1, by omega, by omega, by go_num, fun j hj => ?_, below_drewN Hb.out _⟩, by simp [intOf]; omega⟩
          rcases Nat.lt_or_ge j k with hj' | hj'
          · exact Hall.out j hj'
          · obtain rfl : j = k := by omega
            rw [← Hx.out]; exact h128
        · have hd3 : decide (127 < (x : Int)) = false := decide_eq_false (by omega)
          go_wp2_with fail
          refine Rg.wp_region_ord (fun w' => w'.cell? ⟨g, 0, none⟩ = some (.slice (some ⟨b, o, none⟩) bs.length c) ∧ w'.cell? ⟨g, 1, none⟩ = some (.int .i64 (at_ : Int)) ∧ w'.cell? ⟨b, o + q, none⟩ = some (.int .u8 (x : Int))) [(0, true), (1, true), (2, false), (3, true), (4, true), (5, true), (6, true), (7, true), (8, true), (9, true), (10, true), (11, true), (12, true), (13, true), (14, true), (15, true), (16, true), (17, true), (18, true), (19, true), (20, true), (21, true), (22, true)] (by kernel_rfl) (by kernel_rfl) ?_
          simp only [Rg.pick, List.map_cons, List.map_nil, List.getD_cons_zero, List.getD_cons_succ]
          iterate 2 (refine Rg.ord_quiet (v := ?_) rfl (fun w' hS => ?_) ⟨c0, c1, cx⟩ ?_; rotate_left; (obtain ⟨s0, s1, s2⟩ := hS; go_simp; with_reducible rfl); simp only [Act.put, List.setIfInBounds_toArray, List.set_cons_succ, List.set_cons_zero])
          refine Rg.ord_loud rfl (fun K hK => ?_)
          go_simp
          refine (Hleft.out _ ((Hrr.out.below Hb.out).drewN 1)).mono ?_
          rintro y wz ⟨rfl, nz, rfl⟩
          refine hK _ _ (fun _ => ⟨c0, c1, cx⟩) ?_
          clear hK K
          iterate 2 (refine Rg.ord_quiet (v := ?_) rfl (fun w' hS => ?_) ⟨c0, c1, cx⟩ ?_; rotate_left; (obtain ⟨s0, s1, s2⟩ := hS; go_simp; with_reducible rfl); simp only [Act.put, List.setIfInBounds_toArray, List.set_cons_succ, List.set_cons_zero])
          iterate 2 (refine Rg.ord_guarded (v := ?_) (by rfl) (fun w' hS => ?_) ⟨c0, c1, cx⟩ ?_; rotate_left; (obtain ⟨s0, s1, s2⟩ := hS; go_simp; with_reducible rfl); simp only [Act.put, List.setIfInBounds_toArray, List.set_cons_succ, List.set_cons_zero])
          iterate 2 (refine Rg.ord_quiet (v := ?_) rfl (fun w' hS => ?_) ⟨c0, c1, cx⟩ ?_; rotate_left; (obtain ⟨s0, s1, s2⟩ := hS; go_simp; with_reducible rfl); simp only [Act.put, List.setIfInBounds_toArray, List.set_cons_succ, List.set_cons_zero])
          iterate 13 (refine Rg.ord_guarded (v := ?_) (by rfl) (fun w' hS => ?_) ⟨c0, c1, cx⟩ ?_; rotate_left; (obtain ⟨s0, s1, s2⟩ := hS; go_simp; with_reducible rfl); simp only [Act.put, List.setIfInBounds_toArray, List.set_cons_succ, List.set_cons_zero])
          iterate 1 (refine Rg.ord_quiet (v := ?_) rfl (fun w' hS => ?_) ⟨c0, c1, cx⟩ ?_; rotate_left; (obtain ⟨s0, s1, s2⟩ := hS; go_simp; with_reducible rfl); simp only [Act.put, List.setIfInBounds_toArray, List.set_cons_succ, List.set_cons_zero])
          refine Rg.ord_nil ?_
          go_wp2_with fail
          have Hb1 := hide (below_drewN Hb.out (1 + nz))
          have Hlead := hide (lead_of X k (by have := HXl.out; omega) Hall.out (by have := Hx.out; omega))
          clear c0 c1 cx
          refine (Hleft.out _ (Hrr.out.below Hb1.out)).mono ?_
          rintro y wz ⟨rfl, nz2, rfl⟩
          have hkne : ((k : Int) == (L : Int)) = false := beq_eq_false_iff_ne.2 (by omega)
          have Hb2 := hide (below_drewN Hb1.out nz2)
          go_wp2_with fail
          obtain ⟨D, hD⟩ : ∃ D, X.take (k + 1) = D := ⟨_, rfl⟩
          have HD := hide hD
          have HDl := hide (show D.length = k + 1 by rw [← hD, List.length_take]; have := HXl.out; omega)
          clear hD
          go_loopw [6, 7] (fun v i wx => ∃ (z : Int) (n : Nat), i = .int .i64 z ∧ -1 ≤ z ∧ z ≤ k ∧ v = .int .u64 (n : Int) ∧ n = val (D.drop (z + 1).toNat) % 18446744073709551616 ∧ Below w.heap.size w wx) (fun _ i _ => (intOf i + 1).toNat)
          case atStart =>
            refine ⟨k, 0, rfl, by omega, Int.le_refl _, rfl, ?_, below_drewN Hb.out _⟩
            rw [show ((k : Int) + 1).toNat = D.length by have := HDl.out; omega, List.drop_length]
            rfl
          case round =>
            clear Hb Hb1 Hb2
            obtain ⟨z, n, rfl, hz1, hz2, rfl, hn, hb⟩ := hrel
            have Hn := hide hn
            have Hb := hide hb
            have d0 : wr.cell? ⟨g, 0, none⟩ = some (.slice (some ⟨b, o, none⟩) bs.length c) := (Hr.out.below hb Hr.out.lt).cell 0
            have d1 : wr.cell? ⟨g, 1, none⟩ = some (.int .i64 (at_ : Int)) := (Hr.out.below hb Hr.out.lt).cell 1
            have hn64 : n < 18446744073709551616 := by rw [hn]; exact Nat.mod_lt _ (by omega)
            have Hn64 := hide hn64
            clear hb hn
            by_cases hz : 0 ≤ z
            · obtain ⟨j, rfl⟩ := Int.eq_ofNat_of_zero_le hz
              have hjk : j ≤ k := by omega
              obtain ⟨x2, hx2⟩ : ∃ x2, x2 = (D.getD j 0).toNat := ⟨_, rfl⟩
              have hxb : x2 = (bs.getD (at_ + j) 0).toNat := by rw [hx2, ← HD.out, take_getD _ _ _ (by omega), ← HX.out, drop_getD]
              have hcx := Hcell.out (at_ + j) (by omega)
              rw [← hxb] at hcx
              obtain ⟨q2, hq2⟩ : ∃ q2, at_ + j = q2 := ⟨_, rfl⟩
              rw [hq2] at hcx
              have hwq2 : IntKind.i64.wrap ((at_ : Int) + (j : Int)) = (q2 : Int) := by rw [IntKind.wrap_i64]; omega
              have hql2 : q2 < bs.length := by omega
              have dx : wr.cell? ⟨b, o + q2, none⟩ = some (.int .u8 (x2 : Int)) := (World.cell?_of_block (a := ⟨b, o + q2, none⟩) (Hb.out.block b Hblt.out)).trans hcx
              have hx28 : x2 < 256 := by rw [hx2]; exact toNat_lt _
              obtain ⟨p, hp⟩ : ∃ p : Nat, 128 * n % 18446744073709551616 = p := ⟨_, rfl⟩
              have hwp : IntKind.u64.wrap (128 * (n : Int)) = (p : Int) := by rw [IntKind.wrap_u64]; omega
              obtain ⟨r, hr'⟩ : ∃ r : Nat, (p + x2 % 128) % 18446744073709551616 = r := ⟨_, rfl⟩
              have hwr : IntKind.u64.wrap ((p : Int) + (x2 : Int) % 128) = (r : Int) := by rw [IntKind.wrap_u64]; omega
              have hwr2 : IntKind.u64.wrap ((p : Int) + IntKind.u64.wrap ((x2 : Int).tmod 128)) = (r : Int) := by
                rw [show (x2 : Int).tmod 128 = ((x2 % 128 : Nat) : Int) from rfl, IntKind.wrap_u64, IntKind.wrap_u64]; omega
              have Hval := hide (show r = val (D.drop j) % 18446744073709551616 by
                have hv := val_cons D j (by have := HDl.out; omega)
                have := Hn.out
                rw [show ((j : Int) + 1).toNat = j + 1 by omega] at this
                rw [← hx2] at hv
                rw [hv]
                omega)
              clear hxb hcx hq2 hx2 hp hr' hn64
              go_wp2_with fail
              refine Rg.wp_region_ord (fun w' => w'.cell? ⟨g, 0, none⟩ = some (.slice (some ⟨b, o, none⟩) bs.length c) ∧ w'.cell? ⟨g, 1, none⟩ = some (.int .i64 (at_ : Int)) ∧ w'.cell? ⟨b, o + q2, none⟩ = some (.int .u8 (x2 : Int))) [(0, true), (1, true), (2, true), (3, true), (4, true), (5, true), (6, true), (7, true), (8, true), (9, true), (10, true), (11, true), (12, true), (13, true), (14, true), (15, true), (16, true), (17, true)] (by kernel_rfl) (by kernel_rfl) ?_
              simp only [Rg.pick, List.map_cons, List.map_nil, List.getD_cons_zero, List.getD_cons_succ]
              iterate 18 (refine Rg.ord_quiet (v := ?_) rfl (fun w' hS => ?_) ⟨d0, d1, dx⟩ ?_; rotate_left; (obtain ⟨s0, s1, s2⟩ := hS; go_simp; with_reducible rfl); simp only [Act.put, List.setIfInBounds_toArray, List.set_cons_succ, List.set_cons_zero])
              refine Rg.ord_nil ?_
              go_wp2
              refine ⟨⟨(j : Int) - 1, r, rfl, by omega, by omega, rfl, ?_, Hb.out.drew⟩, by simp only [intOf]; omega⟩
              rw [show ((j : Int) - 1 + 1).toNat = j by omega]
              exact Hval.out
            · obtain rfl : z = -1 := by omega
              have hnD : n = val (X.take (k + 1)) % 18446744073709551616 := by
                rw [Hn.out, show ((-1 : Int) + 1).toNat = 0 by omega, List.drop_zero, HD.out]
              have Hsame := hide (next_same X k n Hlead.out (by have := HXl.out; omega) hk hnD)
              have Hsl := hide (sl_take (Hs.out.cut (k := at_) h1) (k := k + 1) (by rw [List.length_drop]; omega))
              have hck : ¬ c = at_ := by omega
              rw [if_neg hck, HX.out, HD.out] at Hsl
              simp only [Option.map_some, Addr.add_mid] at Hsl
              obtain ⟨q1, hq1⟩ : ∃ q1, q + 1 = q1 := ⟨_, rfl⟩
              have hwq1 : IntKind.i64.wrap ((q : Int) + 1) = (q1 : Int) := by rw [IntKind.wrap_i64]; omega
              have hq1c : q1 ≤ c := by omega
              have hatq : at_ ≤ q1 := by have := Hq.out; omega
              have hsubq : q1 - at_ = k + 1 := by have := Hq.out; omega
              clear hnD hq1
              go_wp2_with fail
              refine Rg.wp_region_ord (fun w' => w'.cell? ⟨g, 0, none⟩ = some (.slice (some ⟨b, o, none⟩) bs.length c) ∧ w'.cell? ⟨g, 1, none⟩ = some (.int .i64 (at_ : Int))) [(0, true), (2, true), (3, true), (4, true), (5, true), (6, true), (7, true), (8, true), (9, true), (10, true), (11, true), (12, true), (13, true), (14, true), (15, true), (16, true), (17, true), (1, false), (18, false), (19, true)] (by kernel_rfl) (by kernel_rfl) ?_
              simp only [Rg.pick, List.map_cons, List.map_nil, List.getD_cons_zero, List.getD_cons_succ]
              iterate 17 (refine Rg.ord_quiet (v := ?_) rfl (fun w' hS => ?_) ⟨d0, d1⟩ ?_; rotate_left; (obtain ⟨s0, s1⟩ := hS; go_simp; with_reducible rfl); simp only [Act.put, List.setIfInBounds_toArray, List.set_cons_succ, List.set_cons_zero])
              refine Rg.ord_loud rfl (fun K hK => ?_)
              go_simp
              refine (rnum_any [] n none 0 (fun _ => True) wr.drew (Sl.nil _ _ _ _) Hn64.out (by simp)).mono ?_
              rintro y w5 ⟨v5, rfl, hv5, hb5⟩
              rw [List.nil_append] at hv5
              obtain ⟨F, hF⟩ : ∃ F, form n = F := ⟨_, rfl⟩
              have Hfl := hide (show F.length ≤ 10 by rw [← hF]; exact form_short n 10 (by have := Hn64.out; omega) (by omega))
              rw [hF] at hv5 Hsame
              obtain ⟨A5, c5, rfl, hs5⟩ := Is.own hv5
              have Hs5 := hide hs5
              have Hb5 := hide (Hb.out.trans ((show Below wr.heap.size wr w5 from ⟨hb5.os, hb5.tape, hb5.output, hb5.size, hb5.block⟩).mono Hb.out.size))
              have e0 : w5.cell? ⟨g, 0, none⟩ = some (.slice (some ⟨b, o, none⟩) bs.length c) := (Hr.out.below Hb5.out Hr.out.lt).cell 0
              have e1 : w5.cell? ⟨g, 1, none⟩ = some (.int .i64 (at_ : Int)) := (Hr.out.below Hb5.out Hr.out.lt).cell 1
              clear hv5 hs5 hb5 hF d0 d1
              refine hK _ _ (fun _ => ⟨e0, e1⟩) ?_
              clear hK K
              refine Rg.ord_loud rfl (fun K hK => ?_)
              go_simp
              have hbt := bytes_any F D A5 (some ⟨b, o + at_, none⟩) c5 (c - at_) _ _ w5 Hs5.out (Hsl.out.move fun b _ hb => Hb5.out.block b (by omega)) (by have := Hfl.out; omega)
              rw [HDl.out] at hbt
              refine hbt.mono ?_
              rintro y w6 ⟨rfl, hb6⟩
              have Hb6 := hide (Hb5.out.trans (hb6.mono Hb5.out.size))
              have f0 : w6.cell? ⟨g, 0, none⟩ = some (.slice (some ⟨b, o, none⟩) bs.length c) := (Hr.out.below Hb6.out Hr.out.lt).cell 0
              have f1 : w6.cell? ⟨g, 1, none⟩ = some (.int .i64 (at_ : Int)) := (Hr.out.below Hb6.out Hr.out.lt).cell 1
              clear hbt hb6 e0 e1
              refine hK _ _ (fun _ => ⟨f0, f1⟩) ?_
              clear hK K
              by_cases hFD : F = D
              · rw [decide_eq_true hFD]
                rw [HD.out, if_pos hFD] at Hsame
                refine Rg.ord_quiet (v := ?_) rfl (fun w' hS => ?_) ⟨f0, f1⟩ ?_
                rotate_left
                · clear hS
                  go_simp
                  with_reducible rfl
                simp only [Act.put, List.setIfInBounds_toArray, List.set_cons_succ, List.set_cons_zero]
                refine Rg.ord_nil ?_
                go_wp2
                go_ret3
                exact ⟨by rw [Hsame.out]; simp [numV], Hb6.out⟩
              · rw [decide_eq_false hFD]
                rw [HD.out, if_neg hFD] at Hsame
                refine Rg.ord_quiet (v := ?_) rfl (fun w' hS => ?_) ⟨f0, f1⟩ ?_
                rotate_left
                · clear hS
                  go_simp
                  with_reducible rfl
                simp only [Act.put, List.setIfInBounds_toArray, List.set_cons_succ, List.set_cons_zero]
                refine Rg.ord_nil ?_
                go_wp2
                go_ret3
                exact ⟨by rw [Hsame.out]; simp [numV], Hb6.out⟩
      · have hk10' : k = 10 := by omega
        have hd1 : decide ((k : Int) < (L : Int)) = true := decide_eq_true (by omega)
        have hd2 : decide ((k : Int) < 10) = false := decide_eq_false (by omega)
        have hbq : ((k : Int) == 10) = true := by rw [beq_iff_eq]; omega
        have HE := hide (num_long X (fun j hj => Hall.out j (by omega)) (by have := HXl.out; omega))
        clear hk10'
        go_wp2_with fail
        refine Rg.wp_region_ord (fun w' => w'.cell? ⟨g, 0, none⟩ = some (.slice A bs.length c) ∧ w'.cell? ⟨g, 1, none⟩ = some (.int .i64 (at_ : Int))) [(0, true), (1, true), (2, false), (3, true), (4, true), (5, true), (6, true), (7, true), (8, true), (9, true), (10, true), (11, true), (12, true), (13, true), (14, true), (15, true), (16, true), (17, true), (18, true), (19, true), (20, true), (21, true), (22, true)] (by kernel_rfl) (by kernel_rfl) ?_
        simp only [Rg.pick, List.map_cons, List.map_nil, List.getD_cons_zero, List.getD_cons_succ]
        iterate 2 (refine Rg.ord_quiet (v := ?_) rfl (fun w' hS => ?_) ⟨c0, c1⟩ ?_; rotate_left; (obtain ⟨s0, s1⟩ := hS; go_simp; with_reducible rfl); simp only [Act.put, List.setIfInBounds_toArray, List.set_cons_succ, List.set_cons_zero])
        refine Rg.ord_loud rfl (fun K hK => ?_)
        go_simp
        refine (Hleft.out _ ((Hrr.out.below Hb.out).drewN 1)).mono ?_
        rintro y wz ⟨rfl, nz, rfl⟩
        refine hK _ _ (fun _ => ⟨c0, c1⟩) ?_
        clear hK K
        iterate 2 (refine Rg.ord_quiet (v := ?_) rfl (fun w' hS => ?_) ⟨c0, c1⟩ ?_; rotate_left; (obtain ⟨s0, s1⟩ := hS; go_simp; with_reducible rfl); simp only [Act.put, List.setIfInBounds_toArray, List.set_cons_succ, List.set_cons_zero])
        iterate 2 (refine Rg.ord_guarded (v := ?_) (by rfl) (fun w' hS => ?_) ⟨c0, c1⟩ ?_; rotate_left; (obtain ⟨s0, s1⟩ := hS; go_simp; with_reducible rfl); simp only [Act.put, List.setIfInBounds_toArray, List.set_cons_succ, List.set_cons_zero])
        iterate 2 (refine Rg.ord_quiet (v := ?_) rfl (fun w' hS => ?_) ⟨c0, c1⟩ ?_; rotate_left; (obtain ⟨s0, s1⟩ := hS; go_simp; with_reducible rfl); simp only [Act.put, List.setIfInBounds_toArray, List.set_cons_succ, List.set_cons_zero])
        iterate 13 (refine Rg.ord_passed (by rfl) ⟨c0, c1⟩ ?_; simp only [Act.put, List.setIfInBounds_toArray, List.set_cons_succ, List.set_cons_zero])
        iterate 1 (refine Rg.ord_quiet (v := ?_) rfl (fun w' hS => ?_) ⟨c0, c1⟩ ?_; rotate_left; (obtain ⟨s0, s1⟩ := hS; go_simp; with_reducible rfl); simp only [Act.put, List.setIfInBounds_toArray, List.set_cons_succ, List.set_cons_zero])
        refine Rg.ord_nil ?_
        go_wp2
        go_ret3
        exact ⟨by rw [HE.out]; rfl, below_drewN Hb.out _⟩
    · obtain rfl : k = L := by omega
      have hd1 : decide ((k : Int) < (k : Int)) = false := decide_eq_false (by omega)
      by_cases hk : k = 10
      · have hbq : ((k : Int) == 10) = true := by rw [beq_iff_eq]; omega
        have HE := hide (num_long X (fun j hj => Hall.out j (by omega)) (by have := HXl.out; omega))
        clear hk
        go_wp2_with fail
        refine Rg.wp_region_ord (fun w' => w'.cell? ⟨g, 0, none⟩ = some (.slice A bs.length c) ∧ w'.cell? ⟨g, 1, none⟩ = some (.int .i64 (at_ : Int))) [(0, true), (1, true), (2, false), (3, true), (4, true), (5, true), (6, true), (7, true), (8, true), (9, true), (10, true), (11, true), (12, true), (13, true), (14, true), (15, true), (16, true), (17, true), (18, true), (19, true), (20, true), (21, true), (22, true)] (by kernel_rfl) (by kernel_rfl) ?_
        simp only [Rg.pick, List.map_cons, List.map_nil, List.getD_cons_zero, List.getD_cons_succ]
        iterate 2 (refine Rg.ord_quiet (v := ?_) rfl (fun w' hS => ?_) ⟨c0, c1⟩ ?_; rotate_left; (obtain ⟨s0, s1⟩ := hS; go_simp; with_reducible rfl); simp only [Act.put, List.setIfInBounds_toArray, List.set_cons_succ, List.set_cons_zero])
        refine Rg.ord_loud rfl (fun K hK => ?_)
        go_simp
        refine (Hleft.out _ ((Hrr.out.below Hb.out).drewN 1)).mono ?_
        rintro y wz ⟨rfl, nz, rfl⟩
        refine hK _ _ (fun _ => ⟨c0, c1⟩) ?_
        clear hK K
        iterate 2 (refine Rg.ord_quiet (v := ?_) rfl (fun w' hS => ?_) ⟨c0, c1⟩ ?_; rotate_left; (obtain ⟨s0, s1⟩ := hS; go_simp; with_reducible rfl); simp only [Act.put, List.setIfInBounds_toArray, List.set_cons_succ, List.set_cons_zero])
        iterate 2 (refine Rg.ord_passed (by rfl) ⟨c0, c1⟩ ?_; simp only [Act.put, List.setIfInBounds_toArray, List.set_cons_succ, List.set_cons_zero])
        iterate 2 (refine Rg.ord_quiet (v := ?_) rfl (fun w' hS => ?_) ⟨c0, c1⟩ ?_; rotate_left; (obtain ⟨s0, s1⟩ := hS; go_simp; with_reducible rfl); simp only [Act.put, List.setIfInBounds_toArray, List.set_cons_succ, List.set_cons_zero])
        iterate 13 (refine Rg.ord_passed (by rfl) ⟨c0, c1⟩ ?_; simp only [Act.put, List.setIfInBounds_toArray, List.set_cons_succ, List.set_cons_zero])
        iterate 1 (refine Rg.ord_quiet (v := ?_) rfl (fun w' hS => ?_) ⟨c0, c1⟩ ?_; rotate_left; (obtain ⟨s0, s1⟩ := hS; go_simp; with_reducible rfl); simp only [Act.put, List.setIfInBounds_toArray, List.set_cons_succ, List.set_cons_zero])
        refine Rg.ord_nil ?_
        go_wp2
        go_ret3
        exact ⟨by rw [HE.out]; rfl, below_drewN Hb.out _⟩
      · have hbq : ((k : Int) == 10) = false := beq_eq_false_iff_ne.2 (by omega)
        have HE := hide (num_short X (fun j hj => Hall.out j (by have := HXl.out; omega)) (by have := HXl.out; omega))
        go_wp2_with fail
        refine Rg.wp_region_ord (fun w' => w'.cell? ⟨g, 0, none⟩ = some (.slice A bs.length c) ∧ w'.cell? ⟨g, 1, none⟩ = some (.int .i64 (at_ : Int))) [(0, true), (1, true), (2, false), (3, true), (4, true), (5, true), (6, true), (7, true), (8, true), (9, true), (10, true), (11, true), (12, true), (13, true), (14, true), (15, true), (16, true), (17, true), (18, true), (19, true), (20, true), (21, true), (22, true)] (by kernel_rfl) (by kernel_rfl) ?_
        simp only [Rg.pick, List.map_cons, List.map_nil, List.getD_cons_zero, List.getD_cons_succ]
        iterate 2 (refine Rg.ord_quiet (v := ?_) rfl (fun w' hS => ?_) ⟨c0, c1⟩ ?_; rotate_left; (obtain ⟨s0, s1⟩ := hS; go_simp; with_reducible rfl); simp only [Act.put, List.setIfInBounds_toArray, List.set_cons_succ, List.set_cons_zero])
        refine Rg.ord_loud rfl (fun K hK => ?_)
        go_simp
        refine (Hleft.out _ ((Hrr.out.below Hb.out).drewN 1)).mono ?_
        rintro y wz ⟨rfl, nz, rfl⟩
        refine hK _ _ (fun _ => ⟨c0, c1⟩) ?_
        clear hK K
        iterate 2 (refine Rg.ord_quiet (v := ?_) rfl (fun w' hS => ?_) ⟨c0, c1⟩ ?_; rotate_left; (obtain ⟨s0, s1⟩ := hS; go_simp; with_reducible rfl); simp only [Act.put, List.setIfInBounds_toArray, List.set_cons_succ, List.set_cons_zero])
        iterate 2 (refine Rg.ord_passed (by rfl) ⟨c0, c1⟩ ?_; simp only [Act.put, List.setIfInBounds_toArray, List.set_cons_succ, List.set_cons_zero])
        iterate 2 (refine Rg.ord_quiet (v := ?_) rfl (fun w' hS => ?_) ⟨c0, c1⟩ ?_; rotate_left; (obtain ⟨s0, s1⟩ := hS; go_simp; with_reducible rfl); simp only [Act.put, List.setIfInBounds_toArray, List.set_cons_succ, List.set_cons_zero])
        iterate 13 (refine Rg.ord_passed (by rfl) ⟨c0, c1⟩ ?_; simp only [Act.put, List.setIfInBounds_toArray, List.set_cons_succ, List.set_cons_zero])
        iterate 1 (refine Rg.ord_quiet (v := ?_) rfl (fun w' hS => ?_) ⟨c0, c1⟩ ?_; rotate_left; (obtain ⟨s0, s1⟩ := hS; go_simp; with_reducible rfl); simp only [Act.put, List.setIfInBounds_toArray, List.set_cons_succ, List.set_cons_zero])
        refine Rg.ord_nil ?_
        go_wp2_with fail
        refine (Hleft.out _ (Hrr.out.below (below_drewN Hb.out _))).mono ?_
        rintro y wz ⟨rfl, nz2, rfl⟩
        go_wp2
        go_ret3
        exact ⟨by rw [HE.out]; rfl, below_drewN Hb.out _⟩
end Go.Proofs.YtcmjdepjckhpdaaDoor.Wr
