/-
  What the calls of a reader come to.
-/
import Derived.Test.YtlplgkdoiinfhaaDoorQ17
import Derived.Test.YtlplgkdoiinfhaaDoorQ1

namespace Go.Proofs.YtlplgkdoiinfhaaDoor.Wr
open Go Go.RowKit Kt

/-- a reader in block g: what is ahead of it, and why it failed; its bytes lie in a block from B on -/
def Rd (w : World) (B g : Nat) (bs : List UInt8) (e : Nat) : Prop :=
  ∃ A c, Row w g 84 [.slice A bs.length c, .int .i64 (e : Int)] ∧ Sl w (fun b => B ≤ b ∧ b ≠ g) A c bs ∧ B ≤ g ∧ bs.length ≤ 70368744177664
/-- the same, its bytes in a block that S tells -/
def RdP (w : World) (S : Nat → Prop) (g : Nat) (bs : List UInt8) (e : Nat) : Prop :=
  ∃ A c, Row w g 84 [.slice A bs.length c, .int .i64 (e : Int)] ∧ Sl w (fun b => S b ∧ b ≠ g) A c bs ∧ S g ∧ bs.length ≤ 70368744177664
theorem RdP.lt {w : World} {S : Nat → Prop} {g : Nat} {bs : List UInt8} {e : Nat} (h : RdP w S g bs e) : g < w.heap.size := by obtain ⟨A, c, hr, _⟩ := h; exact hr.lt
theorem RdP.of {w : World} {B g : Nat} {bs : List UInt8} {e : Nat} (h : Rd w B g bs e) : RdP w (fun b => B ≤ b) g bs e := h
theorem RdP.rd {w : World} {B g : Nat} {bs : List UInt8} {e : Nat} (h : RdP w (fun b => B ≤ b) g bs e) : Rd w B g bs e := h
theorem RdP.imp {w : World} {S T : Nat → Prop} {g : Nat} {bs : List UInt8} {e : Nat} (h : RdP w S g bs e) (hi : ∀ b, b < w.heap.size → S b → T b) : RdP w T g bs e := by
  have hlt := h.lt
  obtain ⟨A, c, hr, hs, h1, h2⟩ := h
  exact ⟨A, c, hr, hs.imp fun b hb hp => ⟨hi b hb hp.1, hp.2⟩, hi g hlt h1, h2⟩
theorem RdP.below {w w' : World} {S : Nat → Prop} {g : Nat} {bs : List UInt8} {e : Nat} (h : RdP w S g bs e) (hb : Below w.heap.size w w') : RdP w' S g bs e := by
  obtain ⟨A, c, hr, hs, h1, h2⟩ := h
  exact ⟨A, c, hr.below hb hr.lt, hs.move fun b _ hlt => hb.block b hlt, h1, h2⟩
theorem Rd.lt {w : World} {B g : Nat} {bs : List UInt8} {e : Nat} (h : Rd w B g bs e) : g < w.heap.size := by obtain ⟨A, c, hr, _⟩ := h; exact hr.lt
theorem Rd.from {w : World} {B g : Nat} {bs : List UInt8} {e : Nat} (h : Rd w B g bs e) : B ≤ g := by obtain ⟨A, c, _, _, hB, _⟩ := h; exact hB
/-- two readers are apart -/
theorem Rd.apart {w : World} {B B' g g' : Nat} {bs bs' : List UInt8} {e e' : Nat} (h : Rd w B g bs e) (h' : Rd w B' g' bs' e') : ∃ A c, Row w g 84 [.slice A bs.length c, .int .i64 (e : Int)] ∧ Sl w (fun b => B ≤ b ∧ b ≠ g ∧ b ≠ g') A c bs ∧ B ≤ g ∧ bs.length ≤ 70368744177664 := by
  obtain ⟨A, c, hr, hs, h1, h2⟩ := h
  obtain ⟨A', c', hr', _⟩ := h'
  refine ⟨A, c, hr, ⟨hs.1, fun hn => ?_⟩, h1, h2⟩
  obtain ⟨b, o, rfl, hp, hc⟩ := hs.2 hn
  refine ⟨b, o, rfl, ⟨hp.1, hp.2, fun hb => ?_⟩, hc⟩
  have := hc 0 hn
  rw [hb, hr'.cell] at this
  rcases o with _ | _ | o
  · simp at this
  · simp at this
  · simp at this
theorem Rd.only {S : Nat → Prop} {w w' : World} {B g : Nat} {bs : List UInt8} {e : Nat} (h : Rd w B g bs e) (ho : Only S w w') (hS : ∀ k, B ≤ k → k < w.heap.size → ¬ S k) : Rd w' B g bs e := by
  obtain ⟨A, c, hr, hs, h1, h2⟩ := h
  refine ⟨A, c, hr.only ho (hS g h1 hr.lt), ?_, h1, h2⟩
  exact hs.move fun b hb hlt => ho.block b hlt (hS b hb.1 hlt)
theorem Rd.other {w w' : World} {B B' g g' : Nat} {bs bs' : List UInt8} {e e' : Nat} (h : Rd w B g bs e) (h' : Rd w B' g' bs' e') (hne : g ≠ g') (ho : Only (· = g') w w') : Rd w' B g bs e := by
  obtain ⟨A, c, hr, hs, h1, h2⟩ := h.apart h'
  exact ⟨A, c, hr.only ho hne, (hs.only ho fun b hb => hb.2.2).imp fun b _ hb => ⟨hb.1, hb.2.1⟩, h1, h2⟩
theorem Rd.below {w w' : World} {B g : Nat} {bs : List UInt8} {e : Nat} (h : Rd w B g bs e) (hb : Below w.heap.size w w') : Rd w' B g bs e := h.only (Only.of_below (fun _ => False) hb) fun _ _ _ h => h
theorem Rd.drew {w : World} {B g : Nat} {bs : List UInt8} {e : Nat} (h : Rd w B g bs e) : Rd w.drew B g bs e := h

theorem Only.over {S T : Nat → Prop} {w W w1 : World} (h : Only S W w1) (hb : Below w.heap.size w W) (hi : ∀ b, b < w.heap.size → S b → T b) : Only T w w1 :=
  ⟨h.os.trans hb.os, h.tape.trans hb.tape, h.output.trans hb.output, Nat.le_trans hb.size h.size, fun k hk hn => (h.block k (Nat.lt_of_lt_of_le hk hb.size) fun hs => hn (hi k hk hs)).trans (hb.block k hk)⟩

def stepNum (bs : List UInt8) (e : Nat) : Nat × List UInt8 × Nat := if e = 0 then ((numOf bs).1, bs.drop (numOf bs).2.1, (numOf bs).2.2) else (0, bs, e)
def stepText (bs : List UInt8) (e : Nat) (most : Int) : List UInt8 × List UInt8 × Nat := if e = 0 then ((textOf bs most).1, bs.drop (textOf bs most).2.1, (textOf bs most).2.2) else ([], bs, e)
def endOf (bs : List UInt8) (e : Nat) : Nat := if e = 0 then (if 0 < bs.length then 5 else 0) else e

theorem RdP.cut {w' : World} {S : Nat → Prop} {g k e : Nat} {bs : List UInt8} {A : Option Addr} {c : Nat} (hr : Row w' g 84 [cutV A bs.length c k, .int .i64 (e : Int)]) (hs : Sl w' (fun b => S b ∧ b ≠ g) A c bs)
    (hB : S g) (hl : bs.length ≤ 70368744177664) (hk : k ≤ bs.length) : RdP w' S g (bs.drop k) e := by
  refine ⟨_, _, ?_, hs.cut hk, hB, by rw [List.length_drop]; omega⟩
  rw [List.length_drop]
  exact hr

theorem own_open {w : World} {B : Nat} {E : TypeId} {v : Value} {l : List UInt8} (h : Own w B E v l) : ∃ A c, v = .slice A l.length c ∧ Sl w (fun b => B ≤ b) A c l := by
  have hs := Is.own h
  rcases h.2 with ⟨rfl, h0⟩ | ⟨g, cap, cur, rfl, hB, hg, hnc, hcm, _⟩
  · have e : l = [] := List.eq_nil_of_length_eq_zero h0
    subst e
    exact ⟨none, 0, rfl, Sl.nil _ _ _ _⟩
  · obtain ⟨A, c, he, hs⟩ := hs
    injection he with h1 _ h3
    subst h1 h3
    exact ⟨_, _, rfl, hs.imp fun _ _ hb => hb.1⟩

theorem numOf_le (bs : List UInt8) : (numOf bs).2.1 ≤ bs.length := by
  by_cases he : (numOf bs).2.2 = 0
  · exact (numOf_ok bs (numOf bs).1 (numOf bs).2.1 (by rw [← he])).2.2.2.1
  · have := numOf_fail bs (numOf bs).1 (numOf bs).2.1 _ rfl he
    omega
theorem sizeReader : (Tryd.prog.info? 84).map (·.size) = some 2 := by kernel_rfl

set_option maxHeartbeats 1000000 in
set_option maxRecDepth 100000 in
theorem open_any (bs : List UInt8) (A : Option Addr) (c : Nat) (Pb : Nat → Prop) (w : World) (hs : Sl w Pb A c bs) (hl : bs.length ≤ 70368744177664) :
    Calls Tryd.prog 38 #[.slice A bs.length c] w fun y w' => ∃ g, y = .returned (.pointer (some ⟨g, 0, none⟩)) ∧ Rd w' w.heap.size g bs 0 ∧ Below w.heap.size w w' := by
  have Hs := hide hs
  have Hl := hide hl
  clear hs hl
  go_enter Tryd.func38, Tryd.ntmps38
  go_wp2_with (go_at_call 56; go_loud (refine (clone_any bs A c Pb _ Hs.out Hl.out).mono ?_; rintro y w1 ⟨v, rfl, hown, hb⟩; obtain ⟨A1, c1, rfl, hs1⟩ := own_open hown; have Hs1 := hide hs1; have Hb := hide hb; clear hown hb hs1))
  go_ret
  have hr := Row.fresh w1 84 #[.slice A1 bs.length c1, .int .i64 0]
  refine ⟨_, rfl, ⟨A1, c1, hr, ?_, Hb.out.size, Hl.out⟩, Hb.out.alloc Hb.out.size _⟩
  exact (Hs1.out.bound.move (w' := w1.alloc (.cells #[.slice A1 bs.length c1, .int .i64 0] 84)) fun b _ hlt => Below.heap_alloc w1 _ b hlt).imp fun b _ hb => ⟨hb.1, by omega⟩

set_option maxHeartbeats 1000000 in
set_option maxRecDepth 100000 in
theorem end_any {w : World} {B g : Nat} {bs : List UInt8} {e : Nat} (h : Rd w B g bs e) :
    Calls Tryd.prog 41 #[.pointer (some ⟨g, 0, none⟩)] w fun y w' => y = .returned (.int .i64 (endOf bs e : Nat)) ∧ Below w.heap.size w w' := by
  obtain ⟨A, c, hr, _, _, hl⟩ := h
  have c0 : w.cell? ⟨g, 0, none⟩ = some (.slice A bs.length c) := hr.cell 0
  have c1 : w.cell? ⟨g, 1, none⟩ = some (.int .i64 (e : Int)) := hr.cell 1
  have c0a : ∀ o, (w.alloc o).cell? ⟨g, 0, none⟩ = some (.slice A bs.length c) := fun o => (hr.alloc o).cell 0
  have c1a : ∀ o, (w.alloc o).cell? ⟨g, 1, none⟩ = some (.int .i64 (e : Int)) := fun o => (hr.alloc o).cell 1
  clear hr
  unfold endOf
  by_cases he : e = 0
  · subst he
    by_cases hb : 0 < bs.length
    · go_enter Tryd.func41, Tryd.ntmps41
      go_wp2
      go_ret
      exact ⟨rfl, (Below.refl _ _).alloc (Nat.le_refl _) _⟩
    · go_enter Tryd.func41, Tryd.ntmps41
      go_wp2
      go_ret
      exact ⟨rfl, (Below.refl _ _).alloc (Nat.le_refl _) _⟩
  · go_enter Tryd.func41, Tryd.ntmps41
    go_wp2
    go_ret
    exact ⟨rfl, (Below.refl _ _).alloc (Nat.le_refl _) _⟩

set_option maxHeartbeats 1000000 in
set_option maxRecDepth 100000 in
/-- whether it failed is asked once: what is to be done is done -/
theorem unless_num {w : World} {g : Nat} {a b : Value} {R : Value → World → Prop} (c1 : w.cell? ⟨g, 1, none⟩ = some (.int .i64 0)) (hf : Calls Tryd.prog 58 #[a, b] w fun y w' => ∃ v, y = .returned v ∧ R v w') :
    Calls Tryd.prog 57 #[.pointer (some ⟨g, 0, none⟩), .func (.func 58) #[] #[a, b]] w fun y w' => ∃ v, y = .returned v ∧ R v w' := by
  have Hf := hide hf
  clear hf
  go_enter Tryd.func57, Tryd.ntmps57
  go_wp2_with fail
  refine Hf.out.mono ?_
  rintro y w1 ⟨v, rfl, hR⟩
  have HR := hide hR
  clear hR
  go_wp2
  go_ret
  exact ⟨v, rfl, HR.out⟩

set_option maxHeartbeats 1000000 in
set_option maxRecDepth 100000 in
/-- whether it failed is asked once: what is to be done is done -/
theorem unless_text {w : World} {g : Nat} {a b c : Value} {R : Value → World → Prop} (c1 : w.cell? ⟨g, 1, none⟩ = some (.int .i64 0)) (hf : Calls Tryd.prog 75 #[a, b, c] w fun y w' => ∃ v, y = .returned v ∧ R v w') :
    Calls Tryd.prog 57 #[.pointer (some ⟨g, 0, none⟩), .func (.func 75) #[] #[a, b, c]] w fun y w' => ∃ v, y = .returned v ∧ R v w' := by
  have Hf := hide hf
  clear hf
  go_enter Tryd.func57, Tryd.ntmps57
  go_wp2_with fail
  refine Hf.out.mono ?_
  rintro y w1 ⟨v, rfl, hR⟩
  have HR := hide hR
  clear hR
  go_wp2
  go_ret
  exact ⟨v, rfl, HR.out⟩

set_option maxHeartbeats 1000000 in
set_option maxRecDepth 100000 in
theorem readP_num {w : World} {S : Nat → Prop} {g : Nat} {bs : List UInt8} {e : Nat} (h : RdP w S g bs e) :
    Calls Tryd.prog 39 #[.pointer (some ⟨g, 0, none⟩)] w fun y w' => y = .returned (.int .u64 ((stepNum bs e).1 : Nat)) ∧ RdP w' S g (stepNum bs e).2.1 (stepNum bs e).2.2 ∧ Only (· = g) w w' := by
  have Hrd := hide h
  obtain ⟨A, c, hr, hs, hB, hl⟩ := h
  have c1a : ∀ o o', ((w.alloc o).alloc o').cell? ⟨g, 1, none⟩ = some (.int .i64 (e : Int)) := fun o o' => ((hr.alloc o).alloc o').cell 1
  have Hr := hide hr
  have Hs := hide hs
  clear hr hs
  by_cases he : e = 0
  · subst he
    obtain ⟨n, k, e, hnum⟩ : ∃ n k e, numOf bs = (n, k, e) := ⟨_, _, _, rfl⟩
    have Hk := hide (show k ≤ bs.length by have := numOf_le bs; rw [hnum] at this; exact this)
    have Hst := hide (show stepNum bs 0 = (n, bs.drop k, e) by unfold stepNum; rw [if_pos rfl, hnum])
    have Hnum := hide hnum
    clear hnum
    have Hlt := hide Hr.out.lt
    go_enter Tryd.func39, Tryd.ntmps39
    go_wp2_with fail
    have hr1 := (Row.fresh w 59 #[.pointer (some ⟨g, 0, none⟩)]).alloc (.cells #[.int .u64 0] 54)
    have hn1 := Row.new (w.alloc (.cells #[.pointer (some ⟨g, 0, none⟩)] 59)) (g := w.heap.size + 1) 54 (cs := #[.int .u64 0]) (l := [.int .u64 ((0 : Nat) : Int)]) (by simp) rfl
    have hg1 := (Hr.out.alloc (.cells #[.pointer (some ⟨g, 0, none⟩)] 59)).alloc (.cells #[.int .u64 0] 54)
    have hb1 := ((Below.refl w.heap.size w).alloc (Nat.le_refl _) (.cells #[.pointer (some ⟨g, 0, none⟩)] 59)).alloc (by simp) (.cells #[.int .u64 0] 54)
    have hs1 := Hs.out.bound.move (w' := (w.alloc (.cells #[.pointer (some ⟨g, 0, none⟩)] 59)).alloc (.cells #[.int .u64 0] 54)) fun b hb _ => hb1.block b hb.2
    refine (unless_num (R := fun _ w1 => Row w1 (w.heap.size + 1) 54 [.int .u64 (n : Int)] ∧ Row w1 g 84 [cutV A bs.length c k, .int .i64 (e : Int)] ∧ Only (fun b => b = g ∨ b = w.heap.size + 1) ((w.alloc (.cells #[.pointer (some ⟨g, 0, none⟩)] 59)).alloc (.cells #[.int .u64 0] 54)) w1) (c1a _ _) ((num_clo bs A c g w.heap.size (w.heap.size + 1) 0 n k e _ _ hr1 hn1 hg1 hs1 (fun b hb => by omega) (by omega) (by have := Hlt.out; omega) (by have := Hlt.out; omega) hl Hnum.out).mono fun y w1 hq => ⟨_, hq.1, hq.2⟩)).mono ?_
    rintro y w1 ⟨v, rfl, hn2, hg2, ho2⟩
    have Ho := hide (ho2.over (T := (· = g)) hb1 fun b hb h => by omega)
    have Hg2 := hide hg2
    have cn : w1.cell? ⟨w.heap.size + 1, 0, none⟩ = some (.int .u64 (n : Int)) := hn2.cell 0
    clear hr1 hn1 hg1 hb1 hs1 hn2 hg2 ho2
    go_wp2
    go_ret
    rw [Hst.out]
    exact ⟨rfl, RdP.cut Hg2.out (Hs.out.only Ho.out fun b hb => hb.2) hB hl Hk.out, Ho.out⟩
  · have Hst := hide (show stepNum bs e = (0, bs, e) by unfold stepNum; rw [if_neg he])
    have hb : ((e : Int) != 0) = true := by rw [bne_iff_ne]; omega
    go_enter Tryd.func39, Tryd.ntmps39
    go_wp2
    go_ret
    rw [Hst.out]
    have hb1 := ((Below.refl w.heap.size w).alloc (Nat.le_refl _) (.cells #[.pointer (some ⟨g, 0, none⟩)] 59)).alloc (by simp) (.cells #[.int .u64 0] 54)
    exact ⟨rfl, Hrd.out.below hb1, Only.of_below _ hb1⟩
theorem read_num {w : World} {B g : Nat} {bs : List UInt8} {e : Nat} (h : Rd w B g bs e) :
    Calls Tryd.prog 39 #[.pointer (some ⟨g, 0, none⟩)] w fun y w' => y = .returned (.int .u64 ((stepNum bs e).1 : Nat)) ∧ Rd w' B g (stepNum bs e).2.1 (stepNum bs e).2.2 ∧ Only (· = g) w w' := readP_num (RdP.of h)
end Go.Proofs.YtlplgkdoiinfhaaDoor.Wr
namespace Go.Proofs.YtlplgkdoiinfhaaDoor.Tr
open Go Wr

/-- so many files, what is left, and why it failed; those behind a fault are empty -/
def rd : Nat → Bs → Nat → List Fl × Bs × Nat
  | 0, b, e => ([], b, e)
  | n + 1, b, e =>
    let s := stepText b e 200
    let u := stepText s.2.1 s.2.2 65536
    let r := rd n u.2.1 u.2.2
    (⟨s.1, u.1⟩ :: r.1, r.2)
theorem step_bad {e : Nat} (he : e ≠ 0) (b : Bs) (most : Int) : stepText b e most = ([], b, e) := by unfold stepText; rw [if_neg he]
theorem step_ok (b : Bs) (most : Int) : stepText b 0 most = ((textOf b most).1, b.drop (textOf b most).2.1, (textOf b most).2.2) := rfl
theorem rd_bad {e : Nat} (he : e ≠ 0) : ∀ (n : Nat) (b : Bs), (rd n b e).2 = (b, e)
  | 0, _ => rfl
  | n + 1, b => by
    simp only [rd]
    rw [step_bad he, step_bad he, rd_bad he n b]
theorem rd_files : ∀ (n : Nat) (b : Bs), ((files n b).2.2 = 0 → rd n b 0 = files n b) ∧ ((files n b).2.2 ≠ 0 → (rd n b 0).2.2 = (files n b).2.2)
  | 0, b => ⟨fun _ => rfl, fun _ => rfl⟩
  | n + 1, b => by
    rw [files]
    simp only [rd]
    rw [step_ok]
    by_cases h1 : (textOf b 200).2.2 ≠ 0
    · rw [if_pos h1]
      refine ⟨fun h => absurd h h1, fun _ => ?_⟩
      simp only []
      rw [step_bad h1, rd_bad h1]
    · have h1' : (textOf b 200).2.2 = 0 := by simpa using h1
      rw [if_neg h1]
      simp only [h1']
      rw [step_ok]
      by_cases h2 : (textOf (b.drop (textOf b 200).2.1) 65536).2.2 ≠ 0
      · rw [if_pos h2]
        refine ⟨fun h => absurd h h2, fun _ => ?_⟩
        simp only []
        rw [rd_bad h2]
      · have h2' : (textOf (b.drop (textOf b 200).2.1) 65536).2.2 = 0 := by simpa using h2
        rw [if_neg h2]
        simp only [h2']
        have ih := rd_files n ((b.drop (textOf b 200).2.1).drop (textOf (b.drop (textOf b 200).2.1) 65536).2.1)
        refine ⟨fun h => ?_, fun h => ih.2 h⟩
        rw [ih.1 h]
/-- what the form of bytes is, as it is read -/
def rdAll (b : Bs) : List Fl × Bs × Nat := rd (stepNum b 0).1 (stepNum b 0).2.1 (stepNum b 0).2.2
theorem decode_rd (b : Bs) : decode b =
    if 1000 < (stepNum b 0).1 then ([], 4)
    else if endOf (rdAll b).2.1 (rdAll b).2.2 ≠ 0 then ([], endOf (rdAll b).2.1 (rdAll b).2.2)
    else if right (rdAll b).1 then ((rdAll b).1, 0) else ([], 3) := by
  have hs : stepNum b 0 = ((numOf b).1, b.drop (numOf b).2.1, (numOf b).2.2) := rfl
  unfold decode rdAll
  rw [hs]
  by_cases h0 : (numOf b).2.2 ≠ 0
  · obtain ⟨h1, _, _⟩ := numOf_fail b (numOf b).1 (numOf b).2.1 (numOf b).2.2 rfl h0
    rw [if_pos h0]
    rw [h1]
    have he : ∀ x : Bs, endOf x (numOf b).2.2 = (numOf b).2.2 := fun x => by unfold endOf; rw [if_neg h0]
    rw [if_neg (show ¬ 1000 < 0 by omega), rd]
    simp only [he]
    rw [if_pos h0]
  · have h0' : (numOf b).2.2 = 0 := by simpa using h0
    rw [if_neg h0]
    simp only [h0']
    by_cases h1 : 1000 < (numOf b).1
    · rw [if_pos h1, if_pos h1]
    · rw [if_neg h1, if_neg h1]
      have hf := rd_files (numOf b).1 (b.drop (numOf b).2.1)
      by_cases h2 : (files (numOf b).1 (b.drop (numOf b).2.1)).2.2 ≠ 0
      · have he : ∀ x : Bs, endOf x (files (numOf b).1 (b.drop (numOf b).2.1)).2.2 = (files (numOf b).1 (b.drop (numOf b).2.1)).2.2 := fun x => by unfold endOf; rw [if_neg h2]
        rw [if_pos h2, hf.2 h2]
        simp only [he]
        rw [if_pos h2]
      · have h2' : (files (numOf b).1 (b.drop (numOf b).2.1)).2.2 = 0 := by simpa using h2
        rw [if_neg h2, hf.1 h2', h2']
        by_cases h3 : (files (numOf b).1 (b.drop (numOf b).2.1)).2.1 ≠ []
        · have : 0 < (files (numOf b).1 (b.drop (numOf b).2.1)).2.1.length := List.length_pos_iff.2 h3
          have he : endOf (files (numOf b).1 (b.drop (numOf b).2.1)).2.1 0 = 5 := by unfold endOf; rw [if_pos rfl, if_pos this]
          rw [if_pos h3, he, if_pos (by decide)]
        · have h3' : (files (numOf b).1 (b.drop (numOf b).2.1)).2.1 = [] := by simpa using h3
          rw [if_neg h3, h3']
          have he : endOf ([] : Bs) 0 = 0 := rfl
          rw [he, if_neg (show ¬ (0 ≠ 0) by simp)]
theorem rd_len : ∀ (n : Nat) (b : Bs) (e : Nat), (rd n b e).1.length = n
  | 0, _, _ => rfl
  | n + 1, b, e => by simp only [rd, List.length_cons]; rw [rd_len n]
theorem step_len (b : Bs) (e : Nat) (most : Int) : (stepText b e most).1.length ≤ b.length ∧ (stepText b e most).2.1.length ≤ b.length := by
  unfold stepText
  split
  · refine ⟨?_, by simp only [List.length_drop]; omega⟩
    unfold textOf
    split
    · simp
    · split
      · simp
      · split
        · simp
        · simp only [List.length_take, List.length_drop]; omega
  · simp
theorem rd_short : ∀ (n : Nat) (b : Bs) (e : Nat), ∀ f ∈ (rd n b e).1, f.path.length ≤ b.length ∧ f.text.length ≤ b.length
  | 0, _, _, f, h => by cases h
  | n + 1, b, e, f, h => by
    have h1 := step_len b e 200
    have h2 := step_len (stepText b e 200).2.1 (stepText b e 200).2.2 65536
    simp only [rd] at h
    rcases List.mem_cons.1 h with rfl | h
    · exact ⟨h1.1, by have := h2.1; show (stepText _ _ _).1.length ≤ _; omega⟩
    · have := rd_short n _ _ f h
      omega
end Go.Proofs.YtlplgkdoiinfhaaDoor.Tr
namespace Go.Proofs.YtlplgkdoiinfhaaDoor.Wr
open Go Go.RowKit Kt

set_option maxHeartbeats 1000000 in
set_option maxRecDepth 100000 in
theorem readP_text {w : World} {S : Nat → Prop} {g : Nat} {bs : List UInt8} {e : Nat} (most : Int) (h : RdP w S g bs e) (hm : most ≤ 9223372036854775807) :
    Calls Tryd.prog 60 #[.pointer (some ⟨g, 0, none⟩), .int .i64 most] w fun y w' => ∃ v, y = .returned v ∧ Own w' w.heap.size 5 v (stepText bs e most).1 ∧ RdP w' S g (stepText bs e most).2.1 (stepText bs e most).2.2 ∧ Only (· = g) w w' := by
  have Hrd := hide h
  have Hm := hide hm
  clear hm
  obtain ⟨A, c, hr, hs, hB, hl⟩ := h
  have c1a : ∀ o o' o'', (((w.alloc o).alloc o').alloc o'').cell? ⟨g, 1, none⟩ = some (.int .i64 (e : Int)) := fun o o' o'' => (((hr.alloc o).alloc o').alloc o'').cell 1
  have Hr := hide hr
  have Hs := hide hs
  clear hr hs
  obtain ⟨w1, hw1⟩ : ∃ w1, w1 = w.alloc (.cells #[.pointer (some ⟨g, 0, none⟩)] 59) := ⟨_, rfl⟩
  obtain ⟨w2, hw2⟩ : ∃ w2, w2 = w1.alloc (.cells #[.int .i64 most] 3) := ⟨_, rfl⟩
  obtain ⟨w3, hw3⟩ : ∃ w3, w3 = w2.alloc (.cells #[.slice none 0 0] 25) := ⟨_, rfl⟩
  have e1 : w1.heap.size = w.heap.size + 1 := by rw [hw1]; simp
  have e2 : w2.heap.size = w.heap.size + 2 := by rw [hw2]; simp [e1]
  have hb1 : Below w.heap.size w w3 := by rw [hw3, hw2, hw1]; exact (((Below.refl _ _).alloc (Nat.le_refl _) _).alloc (by simp) _).alloc (by simp; omega) _
  have hr1 : Row w3 w.heap.size 59 [.pointer (some ⟨g, 0, none⟩)] := by rw [hw3, hw2, hw1]; exact ((Row.fresh w _ _).alloc _).alloc _
  have hm1 : Row w3 (w.heap.size + 1) 3 [.int .i64 most] := by rw [hw3, hw2]; exact (Row.new w1 _ e1.symm rfl).alloc _
  have hn1 : Row w3 (w.heap.size + 2) 25 [.slice none 0 0] := by rw [hw3]; exact Row.new w2 _ e2.symm rfl
  have hg1 := Hr.out.below hb1 Hr.out.lt
  have hs1 := Hs.out.bound.move (w' := w3) fun b hb _ => hb1.block b hb.2
  have Hlt := hide Hr.out.lt
  have Hb1 := hide hb1
  by_cases he : e = 0
  · subst he
    obtain ⟨x, k, e, htx⟩ : ∃ x k e, textOf bs most = (x, k, e) := ⟨_, _, _, rfl⟩
    have Hk := hide (show k ≤ bs.length by have := text_le bs most; rw [htx] at this; exact this)
    have Hst := hide (show stepText bs 0 most = (x, bs.drop k, e) by unfold stepText; rw [if_pos rfl, htx])
    have Hun := hide (unless_text (w := w3) (g := g) (R := fun _ w4 => (∃ v, Own w4 w3.heap.size 5 v x ∧ Row w4 (w.heap.size + 2) 25 [v]) ∧ Row w4 g 84 [cutV A bs.length c k, .int .i64 (e : Int)] ∧ Only (fun b => b = g ∨ b = w.heap.size + 2) w3 w4) (hg1.cell 1)
      ((text_clo bs x most (.slice none 0 0) A c g w.heap.size (w.heap.size + 1) (w.heap.size + 2) k e _ w3 hr1 hm1 hn1 rfl hg1 hs1 (fun b hb => by omega) (by omega) (by omega) (by have := Hlt.out; omega) (by have := Hlt.out; omega) (by have := Hlt.out; omega) hl Hm.out htx).mono fun y w1 hq => ⟨_, hq.1, hq.2⟩))
    clear hr1 hm1 hn1 hg1 hs1 htx e1 e2
    subst hw1 hw2 hw3
    go_enter Tryd.func60, Tryd.ntmps60
    go_wp2_with fail
    refine Hun.out.mono ?_
    rintro y w4 ⟨_, rfl, ⟨v, hv, hn2⟩, hg2, ho2⟩
    have Ho := hide (ho2.over (T := (· = g)) hb1 fun b hb h => by omega)
    have Hg2 := hide hg2
    have Hv := hide hv
    have cn : w4.cell? ⟨w.heap.size + 2, 0, none⟩ = some v := hn2.cell 0
    clear hb1 hn2 hg2 ho2 hv
    go_wp2
    go_ret
    rw [Hst.out]
    exact ⟨_, rfl, Hv.out.base Hb1.out.size, RdP.cut Hg2.out (Hs.out.only Ho.out fun b hb => hb.2) hB hl Hk.out, Ho.out⟩
  · have Hst := hide (show stepText bs e most = ([], bs, e) by unfold stepText; rw [if_neg he])
    have hb : ((e : Int) != 0) = true := by rw [bne_iff_ne]; omega
    clear hr1 hm1 hn1 hg1 hs1 e1 e2 hb1
    subst hw1 hw2 hw3
    go_enter Tryd.func60, Tryd.ntmps60
    go_wp2
    go_ret
    rw [Hst.out]
    exact ⟨_, rfl, Own.nil _ _ _, Hrd.out.below Hb1.out, Only.of_below _ Hb1.out⟩
theorem read_text {w : World} {B g : Nat} {bs : List UInt8} {e : Nat} (most : Int) (h : Rd w B g bs e) (hm : most ≤ 9223372036854775807) :
    Calls Tryd.prog 60 #[.pointer (some ⟨g, 0, none⟩), .int .i64 most] w fun y w' => ∃ v, y = .returned v ∧ Own w' w.heap.size 5 v (stepText bs e most).1 ∧ Rd w' B g (stepText bs e most).2.1 (stepText bs e most).2.2 ∧ Only (· = g) w w' := readP_text most (RdP.of h) hm
end Go.Proofs.YtlplgkdoiinfhaaDoor.Wr
