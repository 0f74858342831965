/-
  Lines that are gone through span by span, in memory; a region's law.
-/
import Derived.BigQuiet
import Derived.Laws.ResultCell
import Derived.Test.YteehbpnbephojaaJD
import Derived.Test.YteehbpnbephojaaQ1
import Derived.Test.YteehbpnbephojaaQ2
namespace Go.Proofs.Yteehbpnbephojaa.Al
open Go Go.RowKit Kt Lw Li Df

abbrev tSp : TypeId := 30
abbrev tR : TypeId := 32
set_option maxRecDepth 100000 in
set_option maxHeartbeats 1000000 in
theorem rnext_any (g k : Nat) (x m : Int) (w : World) (c1 : w.cell? ⟨g, k + 1, none⟩ = some (.int .i64 x)) :
    Calls Try.prog 34 #[.pointer (some ⟨g, k, none⟩), .int .i64 m] w fun y w' => y = .returned (.agg #[.int .i64 x, .int .i64 m]) ∧ Below w.heap.size w w' := by
  have hlt := World.block_lt_of_cell? w ⟨g, k + 1, none⟩ c1
  simp only at hlt
  have c2 : ∀ o, (w.alloc o).cell? ⟨g, k + 1, none⟩ = some (.int .i64 x) := fun o => (World.cell?_of_block (a := ⟨g, k + 1, none⟩) (Below.heap_alloc w o g hlt)).trans c1
  go_enter Try.func34, Try.ntmps34
  go_wp2
  refine bodyPost_ret (results_cell_row rfl _ _ w.heap.size tSp #[.int .i64 x, .int .i64 m] (0, 0) _ rfl (Row.fresh w tSp _) Try.underlying30 rfl (by kernel_rfl)) rfl ⟨rfl, (Below.refl _ w).alloc (Nat.le_refl _) _⟩
set_option maxRecDepth 100000 in
set_option maxHeartbeats 1000000 in
theorem rended_any (g k : Nat) (x : Int) (A : Option Addr) (n c : Nat) (w : World) (c0 : w.cell? ⟨g, k, none⟩ = some (.slice A n c)) (c1 : w.cell? ⟨g, k + 1, none⟩ = some (.int .i64 x)) :
    Calls Try.prog 24 #[.pointer (some ⟨g, k, none⟩)] w fun y w' => y = .returned (.bool (decide (x = n))) ∧ Below w.heap.size w w' := by
  go_enter Try.func24, Try.ntmps24
  go_wp2
  go_quiet (fail)
  go_wp2
  go_ret
  exact ⟨by rw [show (x == (n : Int)) = decide (x = (n : Int)) by rw [Bool.eq_iff_iff]; simp]; rfl, below_drewN (Below.refl _ _) _⟩
theorem agree {w w' : World} {b j : Nat} {v : Value} (h : w.cell? ⟨b, j, none⟩ = some v) (hb : Below w.heap.size w w') : w'.cell? ⟨b, j, none⟩ = some v :=
  (World.cell?_of_block (a := ⟨b, j, none⟩) (hb.block b (World.block_lt_of_cell? w ⟨b, j, none⟩ h))).trans h
set_option maxRecDepth 100000 in
set_option maxHeartbeats 1000000 in
theorem rfollows_any (g k : Nat) (x f m : Int) (A : Option Addr) (n c : Nat) (w : World) (c0 : w.cell? ⟨g, k, none⟩ = some (.slice A n c)) (c1 : w.cell? ⟨g, k + 1, none⟩ = some (.int .i64 x)) (hx : 0 ≤ x ∧ x ≤ n) (hn : n ≤ 1000000000) :
    Calls Try.prog 21 #[.pointer (some ⟨g, k, none⟩), .agg #[.int .i64 f, .int .i64 m]] w fun y w' => y = .returned (.bool (fol n x f m)) ∧ Below w.heap.size w w' := by
  have hba : Below w.heap.size w (w.alloc (.cells #[.int .i64 f, .int .i64 m] tSp)) := (Below.refl _ w).alloc (Nat.le_refl _) _
  have hrow := Row.fresh w tSp #[.int .i64 f, .int .i64 m]
  have d0 := agree c0 hba
  have d1 := agree c1 hba
  obtain ⟨q, hq⟩ : ∃ q, q = w.heap.size := ⟨_, rfl⟩
  obtain ⟨w1, hw1⟩ : ∃ w1, w1 = w.alloc (.cells #[.int .i64 f, .int .i64 m] tSp) := ⟨_, rfl⟩
  have Hq := hide hq
  have Hw1 := hide hw1
  rw [← hw1] at hba hrow d0 d1
  rw [← hq] at hrow
  have q0 := hrow.cell 0
  have q1 := hrow.cell 1
  simp only [List.getElem?_cons_zero, List.getElem?_cons_succ] at q0 q1
  have hwr : IntKind.i64.wrap ((n : Int) - x) = (n : Int) - x := IntWalk.i64_in _ (by omega)
  have Hba := hide hba
  clear hrow hba hq hw1 c0 c1
  unfold fol
  by_cases hf : f = x
  · have e0 : (f == x) = true := by rw [beq_iff_eq]; exact hf
    rw [decide_eq_true hf]
    clear hf
    by_cases hm : 0 ≤ m
    · have e1 : decide (0 ≤ m) = true := decide_eq_true hm
      rw [e1]
      go_enter Try.func21, Try.ntmps21
      go_wp2_with (rw [← Hw1.out, ← Hq.out])
      go_quiet (fail)
      go_wp2
      go_ret
      exact ⟨by simp, below_drewN Hba.out _⟩
    · have e1 : decide (0 ≤ m) = false := decide_eq_false hm
      rw [e1]
      go_enter Try.func21, Try.ntmps21
      go_wp2_with (rw [← Hw1.out, ← Hq.out])
      go_quiet (fail)
      go_wp2
      go_ret
      exact ⟨by simp, below_drewN Hba.out _⟩
  · have e0 : (f == x) = false := by rw [beq_eq_false_iff_ne]; exact hf
    rw [decide_eq_false hf]
    clear hf
    go_enter Try.func21, Try.ntmps21
    go_wp2_with (rw [← Hw1.out, ← Hq.out])
    go_quiet (fail)
    go_wp2
    go_ret
    exact ⟨by simp, below_drewN Hba.out _⟩
set_option maxRecDepth 100000 in
set_option maxHeartbeats 1000000 in
theorem rtake_any (g k : Nat) (x m : Nat) (A : Option Addr) (n c : Nat) (w : World) (t : TypeId) (cs : List Value) (hr : Row w g t cs) (h0 : cs[k]? = some (.slice A n c)) (h1 : cs[k + 1]? = some (.int .i64 x)) (hx : x + m ≤ c) (hn : x + m ≤ 1000000000) :
    Calls Try.prog 23 #[.pointer (some ⟨g, k, none⟩), .agg #[.int .i64 x, .int .i64 m]] w fun y w' => y = .returned (.slice (if c = x then A else A.map (·.add x)) m (c - x)) ∧ Row w' g t (cs.set (k + 1) (.int .i64 (x + m : Nat))) ∧ w.grownBy w' (some g) := by
  obtain ⟨y, hy⟩ : ∃ y, y = x + m := ⟨_, rfl⟩
  have hm : m = y - x := by omega
  rw [← hy] at hx hn ⊢
  have Hm := hide hm
  have hga : w.grownBy (w.alloc (.cells #[.int .i64 x, .int .i64 m] tSp)) (some g) := World.grownBy_alloc w _ _
  have hrow := Row.fresh w tSp #[.int .i64 x, .int .i64 m]
  have hr1 := hr.alloc (.cells #[.int .i64 x, .int .i64 m] tSp)
  have hlt := hr.lt
  obtain ⟨q, hq⟩ : ∃ q, q = w.heap.size := ⟨_, rfl⟩
  obtain ⟨w1, hw1⟩ : ∃ w1, w1 = w.alloc (.cells #[.int .i64 x, .int .i64 m] tSp) := ⟨_, rfl⟩
  have Hq := hide hq
  have Hw1 := hide hw1
  rw [← hw1] at hga hrow hr1
  rw [← hq] at hrow
  have hqg : q ≠ g := by omega
  have Hr1 := hide hr1
  have Hga := hide hga
  have Hrow := hide hrow
  have H0 := hide h0
  have H1 := hide h1
  have hwr : IntKind.i64.wrap ((x : Int) + (m : Int)) = (y : Int) := by rw [IntWalk.i64_in _ (by omega)]; omega
  obtain ⟨A', hA'⟩ : ∃ A', A' = (if c = x then A else A.map (·.add x)) := ⟨_, rfl⟩
  have hc := fun w => run_cut2 w A n c x y (by omega) hx
  rw [← hA'] at hc ⊢
  have d0 := (hr1.cell k).trans h0
  have d1 := (hr1.cell (k + 1)).trans h1
  have f1 := hr1.free (k + 1)
  have q0 := hrow.cell 0
  have q1 := hrow.cell 1
  simp only [List.getElem?_cons_zero, List.getElem?_cons_succ] at q0 q1
  clear hga hrow hr1 hr hq hw1 h0 h1 hy hm hA'
  go_enter Try.func23, Try.ntmps23
  go_wp2_with (rw [← Hw1.out, ← Hq.out])
  refine Rc.wp_region_ord (fun w' => w'.cell? ⟨g, k + 1, none⟩ = some (.int .i64 x) ∧ w'.cell? ⟨q, 1, none⟩ = some (.int .i64 m)) [(0, true), (1, true), (2, true), (3, true), (4, true), (5, true), (6, true), (7, true), (8, true), (9, false)] (by kernel_rfl) (by kernel_rfl) ?_
  simp only [Rg.pick, List.map_cons, List.map_nil, List.getD_cons_zero, List.getD_cons_succ]
  iterate 9 (refine Rc.ord_quiet (v := ?_) rfl (fun w' hS => ?_) ⟨d1, q1⟩ ?_; rotate_left; (obtain ⟨s1, s2⟩ := hS; go_simp; with_reducible rfl); simp only [Act.put, List.setIfInBounds_toArray, List.set_cons_succ, List.set_cons_zero])
  refine Rc.ord_loud rfl (fun K hK => ?_)
  go_simp
  refine hK _ _ (fun hf => absurd (show Rc.sink _ 9 = true from by kernel_rfl) (by rw [hf]; decide)) ?_
  clear hK K
  refine Rc.ord_nil ?_
  have hr2 : Row (w1.setCell ⟨g, k + 1, none⟩ (.int .i64 y)).drew g t (cs.set (k + 1) (.int .i64 y)) := (Hr1.out.put (k + 1) (.int .i64 y)).drew
  have hb2 := (Hrow.out.off hqg (i := k + 1) (.int .i64 y)).drew
  have hg2 := grown_drew (grown_put (i := k + 1) Hga.out (.int .i64 y))
  obtain ⟨w2, hw2⟩ : ∃ w2, w2 = (w1.setCell ⟨g, k + 1, none⟩ (.int .i64 y)).drew := ⟨_, rfl⟩
  have hk1 : k + 1 < cs.length := (List.getElem?_eq_some_iff.1 H1.out).1
  rw [← hw2] at hr2 hb2 hg2
  have e0 : w2.cell? ⟨g, k, none⟩ = some (.slice A n c) := (hr2.cell k).trans (by rw [List.getElem?_set, if_neg (by omega)]; exact H0.out)
  have e1 : w2.cell? ⟨g, k + 1, none⟩ = some (.int .i64 y) := (hr2.cell (k + 1)).trans (by rw [List.getElem?_set, if_pos rfl, if_pos hk1])
  have p0 := hb2.cell 0
  simp only [List.getElem?_cons_zero] at p0
  have Hr2 := hide hr2
  have Hg2 := hide hg2
  have Hw2 := hide hw2
  clear hr2 hb2 hg2 hw2 d0 d1 f1 q0 q1
  go_wp2_with (rw [← Hw2.out])
  go_quiet (fail)
  go_wp2
  go_ret
  exact ⟨by rw [Hm.out]; rfl, Hr2.out.drewN _, grown_drewN Hg2.out _⟩
/-- is the test of two lists what it should be, in whatever world behind -/
abbrev EqT (w : World) (p q : Ls) (A A' : Option Addr) (c c' : Nat) : Prop := ∀ w1, Below w.heap.size w w1 → Calls Try.prog 38 #[.slice A p.length c, .slice A' q.length c'] w1 fun y w' => y = .returned (.bool (decide (p = q))) ∧ Below w1.heap.size w1 w'
set_option maxRecDepth 100000 in
set_option maxHeartbeats 1000000 in
theorem holds_any (k : Int) (p q r : Ls) (A A' A2 : Option Addr) (c c' c2 : Nat) (P P' P2 : Nat → Prop) (w : World) (hp : Vs w P A c (texts p)) (hq : Vs w P' A' c' (texts q)) (hr : Vs w P2 A2 c2 (texts r)) (hn : p.length ≤ 1000000000 ∧ q.length ≤ 1000000000) :
    Calls Try.prog 22 #[.int .i64 k, .slice A p.length c, .slice A' q.length c', .slice A2 r.length c2] w fun y w' => y = .returned (.bool (holdsK k p q r)) ∧ Below w.heap.size w w' := by
  have HPQ : Hid (EqT w p q A A' c c') := fun w1 hb => equal_any p q A A' c c' _ _ w1 (Lw.Vs.below hp.bound hb) (Lw.Vs.below hq.bound hb) (by omega)
  have HPR : Hid (EqT w p r A A2 c c2) := fun w1 hb => equal_any p r A A2 c c2 _ _ w1 (Lw.Vs.below hp.bound hb) (Lw.Vs.below hr.bound hb) (by omega)
  have HQR : Hid (EqT w q r A' A2 c' c2) := fun w1 hb => equal_any q r A' A2 c' c2 _ _ w1 (Lw.Vs.below hq.bound hb) (Lw.Vs.below hr.bound hb) (by omega)
  obtain ⟨np, hnp⟩ : ∃ z, z = p.length := ⟨_, rfl⟩
  obtain ⟨nq, hnq⟩ : ∃ z, z = q.length := ⟨_, rfl⟩
  obtain ⟨nr, hnr⟩ : ∃ z, z = r.length := ⟨_, rfl⟩
  unfold EqT at HPQ HPR HQR
  rw [← hnp, ← hnq, ← hnr]
  rw [← hnp, ← hnq] at HPQ
  rw [← hnp, ← hnr] at HPR
  rw [← hnq, ← hnr] at HQR
  clear hp hq hr hn hnp hnq hnr
  unfold holdsK
  by_cases k0 : k = 0
  · rw [if_pos k0]
    subst k0
    by_cases h1 : p = q
    · rw [decide_eq_true h1] at HPQ ⊢
      clear h1
      obtain ⟨d, hd⟩ : ∃ d, d = decide (p = r) := ⟨_, rfl⟩
      rw [← hd] at HPR ⊢
      clear hd
      go_enter Try.func22, Try.ntmps22
      go_wp2_with fail
      refine (HPQ.out _ (Below.refl _ _)).mono ?_
      rintro y w1 ⟨rfl, hb1⟩
      have Hb1 := hide hb1
      clear hb1
      go_wp2_with fail
      refine (HPR.out _ Hb1.out).mono ?_
      rintro y w2 ⟨rfl, hb2⟩
      have Hb2 := hide (Hb1.out.trans (hb2.mono Hb1.out.size))
      clear hb2
      go_wp2
      go_ret
      exact ⟨by simp, Hb2.out⟩
    · rw [decide_eq_false h1] at HPQ ⊢
      clear h1
      go_enter Try.func22, Try.ntmps22
      go_wp2_with fail
      refine (HPQ.out _ (Below.refl _ _)).mono ?_
      rintro y w1 ⟨rfl, hb1⟩
      have Hb1 := hide hb1
      clear hb1
      go_wp2
      go_ret
      exact ⟨by simp, Hb1.out⟩
  · rw [if_neg k0]
    have e0 : (k == 0) = false := by rw [beq_eq_false_iff_ne]; exact k0
    by_cases k1 : k = 1
    · rw [if_pos k1]
      subst k1
      obtain ⟨d, hd⟩ : ∃ d, d = decide (p = r) := ⟨_, rfl⟩
      rw [← hd] at HPR ⊢
      clear hd
      go_enter Try.func22, Try.ntmps22
      go_wp2_with fail
      refine (HPR.out _ (Below.refl _ _)).mono ?_
      rintro y w1 ⟨rfl, hb1⟩
      have Hb1 := hide hb1
      clear hb1
      go_wp2
      go_ret
      exact ⟨rfl, Hb1.out⟩
    · rw [if_neg k1]
      have e1 : (k == 1) = false := by rw [beq_eq_false_iff_ne]; exact k1
      by_cases k2 : k = 2
      · rw [if_pos k2]
        subst k2
        obtain ⟨d, hd⟩ : ∃ d, d = decide (p = q) := ⟨_, rfl⟩
        rw [← hd] at HPQ ⊢
        clear hd
        go_enter Try.func22, Try.ntmps22
        go_wp2_with fail
        refine (HPQ.out _ (Below.refl _ _)).mono ?_
        rintro y w1 ⟨rfl, hb1⟩
        have Hb1 := hide hb1
        clear hb1
        go_wp2
        go_ret
        exact ⟨rfl, Hb1.out⟩
      · rw [if_neg k2]
        have e2 : (k == 2) = false := by rw [beq_eq_false_iff_ne]; exact k2
        by_cases k3 : k = 3
        · rw [if_pos k3]
          subst k3
          obtain ⟨d, hd⟩ : ∃ d, d = decide (q = r) := ⟨_, rfl⟩
          rw [← hd] at HQR ⊢
          clear hd
          go_enter Try.func22, Try.ntmps22
          go_wp2_with fail
          refine (HQR.out _ (Below.refl _ _)).mono ?_
          rintro y w1 ⟨rfl, hb1⟩
          have Hb1 := hide hb1
          clear hb1
          go_wp2
          go_ret
          exact ⟨rfl, Hb1.out⟩
        · rw [if_neg k3]
          have e3 : (k == 3) = false := by rw [beq_eq_false_iff_ne]; exact k3
          clear k0 k1 k2 k3
          go_enter Try.func22, Try.ntmps22
          go_wp2
          go_ret
          exact ⟨by rw [show (k == 4) = decide (k = 4) by rw [Bool.eq_iff_iff]; simp]; rfl, Below.refl _ _⟩
end Go.Proofs.Yteehbpnbephojaa.Al
