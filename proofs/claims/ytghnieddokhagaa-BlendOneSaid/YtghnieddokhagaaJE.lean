/-
  A cluster takes an edit, in memory.
-/
import Derived.Test.YtghnieddokhagaaQEE
import Derived.Test.YtghnieddokhagaaQReg
namespace Go.Proofs.Ytghnieddokhagaa.Al
open Go Go.RowKit Kt Lw Li Df

/-- numbers that stay small -/
def Cl.Sm (c : Cl) : Prop := (-1099511627776 ≤ c.to ∧ c.to ≤ 1099511627776) ∧ (-1099511627776 ≤ c.n0 ∧ c.n0 ≤ 1099511627776) ∧ (-1099511627776 ≤ c.m0 ∧ c.m0 ≤ 1099511627776) ∧ (-1099511627776 ≤ c.n1 ∧ c.n1 ≤ 1099511627776) ∧ (-1099511627776 ≤ c.m1 ∧ c.m1 ≤ 1099511627776)
set_option maxRecDepth 100000 in
set_option maxHeartbeats 2000000 in
theorem take_a (g : Nat) (c : Cl) (e : Ed) (A : Option Addr) (k : Nat) (w : World) (hr : Row w g tC (clC c)) (hc : c.Sm) (hp : -1099511627776 ≤ e.pos ∧ e.pos ≤ 1099511627776) (hd : -1099511627776 ≤ e.del ∧ e.del ≤ 1099511627776) (hi : e.ins.length ≤ 1099511627776) :
    Calls Try.prog 79 #[.pointer (some ⟨g, 0, none⟩), .int .i64 0, .agg #[.int .i64 e.pos, .int .i64 e.del, .slice A e.ins.length k]] w fun y w' => y = .returned (.tuple #[]) ∧ Row w' g tC (clC (c.take false e)) ∧ w.grownBy w' (some g) := by
  have hcl : clC (c.take false e) = [.int .i64 c.fr, .int .i64 (max c.to (e.pos + e.del)), .int .i64 (c.n0 + 1), .int .i64 (c.m0 + (e.ins.length - e.del)), .int .i64 c.n1, .int .i64 c.m1] := by simp [clC, Cl.take]
  rw [hcl]
  clear hcl
  obtain ⟨⟨b1, b2⟩, ⟨b3, b4⟩, ⟨b5, b6⟩, ⟨b7, b8⟩, b9, b10⟩ := hc
  unfold clC at hr
  generalize c.fr = fr at *
  generalize c.to = to at *
  generalize c.n0 = n0 at *
  generalize c.m0 = m0 at *
  generalize c.n1 = n1 at *
  generalize c.m1 = m1 at *
  generalize e.pos = p at *
  generalize e.del = d at *
  generalize e.ins.length = n at *
  have Hr := hide hr
  have hlt := hr.lt
  have c1 := (hr.alloc (.cells #[.int .i64 p, .int .i64 d, .slice A n k] tE)).cell 1
  have c2 := (hr.alloc (.cells #[.int .i64 p, .int .i64 d, .slice A n k] tE)).cell 2
  have c3 := (hr.alloc (.cells #[.int .i64 p, .int .i64 d, .slice A n k] tE)).cell 3
  have f1 := (hr.alloc (.cells #[.int .i64 p, .int .i64 d, .slice A n k] tE)).free 1
  have f2 := (hr.alloc (.cells #[.int .i64 p, .int .i64 d, .slice A n k] tE)).free 2
  have f3 := (hr.alloc (.cells #[.int .i64 p, .int .i64 d, .slice A n k] tE)).free 3
  have hbox := Row.fresh w tE #[.int .i64 p, .int .i64 d, .slice A n k]
  have hg0 : w.grownBy (w.alloc (.cells #[.int .i64 p, .int .i64 d, .slice A n k] tE)) (some g) := World.grownBy_alloc w _ _
  obtain ⟨q, hq⟩ : ∃ q, q = w.heap.size := ⟨_, rfl⟩
  rw [← hq] at hbox hlt
  have hqg : q ≠ g := by omega
  simp only [List.getElem?_cons_zero, List.getElem?_cons_succ] at c1 c2 c3
  go_enter Try.func79, Try.ntmps79
  go_wp2
  rw [← hq]
  obtain ⟨w1, hw1⟩ : ∃ w1, w1 = w.alloc (.cells #[.int .i64 p, .int .i64 d, .slice A n k] tE) := ⟨_, rfl⟩
  have hr1 := Hr.out.alloc (.cells #[.int .i64 p, .int .i64 d, .slice A n k] tE)
  rw [← hw1] at c1 c2 c3 f1 f2 f3 hbox hg0 hr1 ⊢
  have q0 := hbox.cell 0
  have q1 := hbox.cell 1
  have q2 := hbox.cell 2
  simp only [List.getElem?_cons_zero, List.getElem?_cons_succ] at q0 q1 q2
  have Hbox := hide hbox
  have Hg0 := hide hg0
  have Hr1 := hide hr1
  clear hw1 hr hbox hg0 hr1 hq hlt Hr
  obtain ⟨t, ht⟩ : ∃ t, t = p + d := ⟨_, rfl⟩
  have hmax : IntKind.i64.wrap (p + d) = t := by rw [ht]; exact IntWalk.i64_in _ (by omega)
  have hmx : (if to < t then t else to) = max to t := by split <;> omega
  have hmx2 : (if t < to then to else t) = max to t := by split <;> omega
  obtain ⟨mx, hmxe⟩ : ∃ mx, mx = max to t := ⟨_, rfl⟩
  have HMX := hide (show mx = max to (p + d) by rw [hmxe, ht])
  rw [← hmxe] at hmx hmx2
  clear ht hmxe
  refine Rc.wp_region_ord (fun w' => w'.cell? ⟨g, 1, none⟩ = some (.int .i64 to) ∧ w'.cell? ⟨q, 0, none⟩ = some (.int .i64 p) ∧ w'.cell? ⟨q, 1, none⟩ = some (.int .i64 d)) [(0, true), (1, true), (2, true), (3, true), (4, true), (5, true), (6, true), (7, true), (8, true), (9, true), (10, true), (11, true), (12, true), (13, false)] (by kernel_rfl) (by kernel_rfl) ?_
  simp only [Rg.pick, List.map_cons, List.map_nil, List.getD_cons_zero, List.getD_cons_succ]
  iterate 10 (refine Rc.ord_quiet (v := ?_) rfl (fun w' hS => ?_) ⟨c1, q0, q1⟩ ?_; rotate_left; (obtain ⟨s1, s2, s3⟩ := hS; go_simp; with_reducible rfl); simp only [Act.put, List.setIfInBounds_toArray, List.set_cons_succ, List.set_cons_zero])
  refine Rc.ord_quiet (v := .int .i64 mx) rfl (fun w' hS => ?_) ⟨c1, q0, q1⟩ ?_
  · go_simp
  simp only [Act.put, List.setIfInBounds_toArray, List.set_cons_succ, List.set_cons_zero]
  iterate 2 (refine Rc.ord_quiet (v := ?_) rfl (fun w' hS => ?_) ⟨c1, q0, q1⟩ ?_; rotate_left; (obtain ⟨s1, s2, s3⟩ := hS; go_simp; with_reducible rfl); simp only [Act.put, List.setIfInBounds_toArray, List.set_cons_succ, List.set_cons_zero])
  refine Rc.ord_loud rfl (fun K hK => ?_)
  go_simp
  refine hK _ _ (fun hf => absurd (show Rc.sink _ 13 = true from by kernel_rfl) (by rw [hf]; decide)) ?_
  clear hK K
  refine Rc.ord_nil ?_
  have hr2 : Row (w1.setCell ⟨g, 1, none⟩ (.int .i64 (mx))).drew g tC [.int .i64 (fr), .int .i64 (mx), .int .i64 (n0), .int .i64 (m0), .int .i64 (n1), .int .i64 (m1)] := by
    have h := (Hr1.out.put 1 (.int .i64 (mx))).drew
    exact h
  have hb2 := (Hbox.out.off hqg (i := 1) (.int .i64 (mx))).drew
  have hg2 := grown_drew (grown_put (i := 1) Hg0.out (.int .i64 (mx)))
  obtain ⟨w2, hw2⟩ : ∃ w2, w2 = (w1.setCell ⟨g, 1, none⟩ (.int .i64 (mx))).drew := ⟨_, rfl⟩
  rw [← hw2] at hr2 hb2 hg2 ⊢
  clear hw2 c1 c2 c3 f1 f2 f3 q0 q1 q2 Hr1 Hbox Hg0
  have c1 := hr2.cell 1
  have c2 := hr2.cell 2
  have c3 := hr2.cell 3
  have f1 := hr2.free 1
  have f2 := hr2.free 2
  have f3 := hr2.free 3
  have q0 := hb2.cell 0
  have q1 := hb2.cell 1
  have q2 := hb2.cell 2
  simp only [List.getElem?_cons_zero, List.getElem?_cons_succ] at c1 c2 c3 q0 q1 q2
  have Hr1 := hide hr2
  have Hbox := hide hb2
  have Hg0 := hide hg2
  clear hr2 hb2 hg2
  have hw2 : IntKind.i64.wrap (n0 + 1) = n0 + 1 := IntWalk.i64_in _ (by omega)
  go_wp2
  refine Rc.wp_region_ord (fun w' => w'.cell? ⟨g, 2, none⟩ = some (.int .i64 n0)) [(0, true), (1, true), (2, true), (3, true), (4, true), (5, true), (6, true), (7, true), (8, true), (9, true), (10, true), (11, true), (12, false)] (by kernel_rfl) (by kernel_rfl) ?_
  simp only [Rg.pick, List.map_cons, List.map_nil, List.getD_cons_zero, List.getD_cons_succ]
  iterate 12 (refine Rc.ord_quiet (v := ?_) rfl (fun w' hS => ?_) c2 ?_; rotate_left; (obtain s1 := hS; go_simp; with_reducible rfl); simp only [Act.put, List.setIfInBounds_toArray, List.set_cons_succ, List.set_cons_zero])
  refine Rc.ord_loud rfl (fun K hK => ?_)
  go_simp
  refine hK _ _ (fun hf => absurd (show Rc.sink _ 12 = true from by kernel_rfl) (by rw [hf]; decide)) ?_
  clear hK K
  refine Rc.ord_nil ?_
  have hr2 : Row (w2.setCell ⟨g, 2, none⟩ (.int .i64 (n0 + 1))).drew g tC [.int .i64 (fr), .int .i64 (mx), .int .i64 (n0 + 1), .int .i64 (m0), .int .i64 (n1), .int .i64 (m1)] := by
    have h := (Hr1.out.put 2 (.int .i64 (n0 + 1))).drew
    exact h
  have hb2 := (Hbox.out.off hqg (i := 2) (.int .i64 (n0 + 1))).drew
  have hg2 := grown_drew (grown_put (i := 2) Hg0.out (.int .i64 (n0 + 1)))
  obtain ⟨w3, hw2⟩ : ∃ w3, w3 = (w2.setCell ⟨g, 2, none⟩ (.int .i64 (n0 + 1))).drew := ⟨_, rfl⟩
  rw [← hw2] at hr2 hb2 hg2 ⊢
  clear hw2 c1 c2 c3 f1 f2 f3 q0 q1 q2 Hr1 Hbox Hg0
  have c1 := hr2.cell 1
  have c2 := hr2.cell 2
  have c3 := hr2.cell 3
  have f1 := hr2.free 1
  have f2 := hr2.free 2
  have f3 := hr2.free 3
  have q0 := hb2.cell 0
  have q1 := hb2.cell 1
  have q2 := hb2.cell 2
  simp only [List.getElem?_cons_zero, List.getElem?_cons_succ] at c1 c2 c3 q0 q1 q2
  have Hr1 := hide hr2
  have Hbox := hide hb2
  have Hg0 := hide hg2
  clear hr2 hb2 hg2
  have hx1 : IntKind.i64.wrap ((n : Int) - d) = (n : Int) - d := IntWalk.i64_in _ (by omega)
  have hx2 : IntKind.i64.wrap (m0 + ((n : Int) - d)) = m0 + ((n : Int) - d) := IntWalk.i64_in _ (by omega)
  go_wp2
  refine Rc.wp_region_ord (fun w' => w'.cell? ⟨g, 3, none⟩ = some (.int .i64 m0) ∧ w'.cell? ⟨q, 1, none⟩ = some (.int .i64 d) ∧ w'.cell? ⟨q, 2, none⟩ = some (.slice A n k)) [(0, true), (1, true), (2, true), (3, true), (4, true), (5, true), (6, true), (7, true), (8, true), (9, true), (10, true), (11, true), (12, true), (13, true), (14, true), (15, true), (16, true), (17, true), (18, false)] (by kernel_rfl) (by kernel_rfl) ?_
  simp only [Rg.pick, List.map_cons, List.map_nil, List.getD_cons_zero, List.getD_cons_succ]
  iterate 18 (refine Rc.ord_quiet (v := ?_) rfl (fun w' hS => ?_) ⟨c3, q1, q2⟩ ?_; rotate_left; (obtain ⟨s1, s2, s3⟩ := hS; go_simp; with_reducible rfl); simp only [Act.put, List.setIfInBounds_toArray, List.set_cons_succ, List.set_cons_zero])
  refine Rc.ord_loud rfl (fun K hK => ?_)
  go_simp
  refine hK _ _ (fun hf => absurd (show Rc.sink _ 18 = true from by kernel_rfl) (by rw [hf]; decide)) ?_
  clear hK K
  refine Rc.ord_nil ?_
  have hr2 : Row (w3.setCell ⟨g, 3, none⟩ (.int .i64 (m0 + ((n : Int) - d)))).drew g tC [.int .i64 (fr), .int .i64 (mx), .int .i64 (n0 + 1), .int .i64 (m0 + ((n : Int) - d)), .int .i64 (n1), .int .i64 (m1)] := by
    have h := (Hr1.out.put 3 (.int .i64 (m0 + ((n : Int) - d)))).drew
    exact h
  have hb2 := (Hbox.out.off hqg (i := 3) (.int .i64 (m0 + ((n : Int) - d)))).drew
  have hg2 := grown_drew (grown_put (i := 3) Hg0.out (.int .i64 (m0 + ((n : Int) - d))))
  obtain ⟨w4, hw2⟩ : ∃ w4, w4 = (w3.setCell ⟨g, 3, none⟩ (.int .i64 (m0 + ((n : Int) - d)))).drew := ⟨_, rfl⟩
  rw [← hw2] at hr2 hb2 hg2 ⊢
  clear hw2 c1 c2 c3 f1 f2 f3 q0 q1 q2 Hr1 Hbox Hg0
  have c1 := hr2.cell 1
  have c2 := hr2.cell 2
  have c3 := hr2.cell 3
  have f1 := hr2.free 1
  have f2 := hr2.free 2
  have f3 := hr2.free 3
  have q0 := hb2.cell 0
  have q1 := hb2.cell 1
  have q2 := hb2.cell 2
  simp only [List.getElem?_cons_zero, List.getElem?_cons_succ] at c1 c2 c3 q0 q1 q2
  have Hr1 := hide hr2
  have Hbox := hide hb2
  have Hg0 := hide hg2
  clear hr2 hb2 hg2
  go_wp2
  refine bodyPost_end (results_none rfl _ _ _) rfl ?_
  exact ⟨rfl, by rw [← HMX.out]; exact Hr1.out, Hg0.out⟩
set_option maxRecDepth 100000 in
set_option maxHeartbeats 2000000 in
theorem take_b (g : Nat) (c : Cl) (e : Ed) (A : Option Addr) (k : Nat) (w : World) (hr : Row w g tC (clC c)) (hc : c.Sm) (hp : -1099511627776 ≤ e.pos ∧ e.pos ≤ 1099511627776) (hd : -1099511627776 ≤ e.del ∧ e.del ≤ 1099511627776) (hi : e.ins.length ≤ 1099511627776) :
    Calls Try.prog 79 #[.pointer (some ⟨g, 0, none⟩), .int .i64 1, .agg #[.int .i64 e.pos, .int .i64 e.del, .slice A e.ins.length k]] w fun y w' => y = .returned (.tuple #[]) ∧ Row w' g tC (clC (c.take true e)) ∧ w.grownBy w' (some g) := by
  have hcl : clC (c.take true e) = [.int .i64 c.fr, .int .i64 (max c.to (e.pos + e.del)), .int .i64 c.n0, .int .i64 c.m0, .int .i64 (c.n1 + 1), .int .i64 (c.m1 + (e.ins.length - e.del))] := by simp [clC, Cl.take]
  rw [hcl]
  clear hcl
  obtain ⟨⟨b1, b2⟩, ⟨b3, b4⟩, ⟨b5, b6⟩, ⟨b7, b8⟩, b9, b10⟩ := hc
  unfold clC at hr
  generalize c.fr = fr at *
  generalize c.to = to at *
  generalize c.n0 = n0 at *
  generalize c.m0 = m0 at *
  generalize c.n1 = n1 at *
  generalize c.m1 = m1 at *
  generalize e.pos = p at *
  generalize e.del = d at *
  generalize e.ins.length = n at *
  have Hr := hide hr
  have hlt := hr.lt
  have c1 := (hr.alloc (.cells #[.int .i64 p, .int .i64 d, .slice A n k] tE)).cell 1
  have c2 := (hr.alloc (.cells #[.int .i64 p, .int .i64 d, .slice A n k] tE)).cell 4
  have c3 := (hr.alloc (.cells #[.int .i64 p, .int .i64 d, .slice A n k] tE)).cell 5
  have f1 := (hr.alloc (.cells #[.int .i64 p, .int .i64 d, .slice A n k] tE)).free 1
  have f2 := (hr.alloc (.cells #[.int .i64 p, .int .i64 d, .slice A n k] tE)).free 4
  have f3 := (hr.alloc (.cells #[.int .i64 p, .int .i64 d, .slice A n k] tE)).free 5
  have hbox := Row.fresh w tE #[.int .i64 p, .int .i64 d, .slice A n k]
  have hg0 : w.grownBy (w.alloc (.cells #[.int .i64 p, .int .i64 d, .slice A n k] tE)) (some g) := World.grownBy_alloc w _ _
  obtain ⟨q, hq⟩ : ∃ q, q = w.heap.size := ⟨_, rfl⟩
  rw [← hq] at hbox hlt
  have hqg : q ≠ g := by omega
  simp only [List.getElem?_cons_zero, List.getElem?_cons_succ] at c1 c2 c3
  go_enter Try.func79, Try.ntmps79
  go_wp2
  rw [← hq]
  obtain ⟨w1, hw1⟩ : ∃ w1, w1 = w.alloc (.cells #[.int .i64 p, .int .i64 d, .slice A n k] tE) := ⟨_, rfl⟩
  have hr1 := Hr.out.alloc (.cells #[.int .i64 p, .int .i64 d, .slice A n k] tE)
  rw [← hw1] at c1 c2 c3 f1 f2 f3 hbox hg0 hr1 ⊢
  have q0 := hbox.cell 0
  have q1 := hbox.cell 1
  have q2 := hbox.cell 2
  simp only [List.getElem?_cons_zero, List.getElem?_cons_succ] at q0 q1 q2
  have Hbox := hide hbox
  have Hg0 := hide hg0
  have Hr1 := hide hr1
  clear hw1 hr hbox hg0 hr1 hq hlt Hr
  obtain ⟨t, ht⟩ : ∃ t, t = p + d := ⟨_, rfl⟩
  have hmax : IntKind.i64.wrap (p + d) = t := by rw [ht]; exact IntWalk.i64_in _ (by omega)
  have hmx : (if to < t then t else to) = max to t := by split <;> omega
  have hmx2 : (if t < to then to else t) = max to t := by split <;> omega
  obtain ⟨mx, hmxe⟩ : ∃ mx, mx = max to t := ⟨_, rfl⟩
  have HMX := hide (show mx = max to (p + d) by rw [hmxe, ht])
  rw [← hmxe] at hmx hmx2
  clear ht hmxe
  refine Rc.wp_region_ord (fun w' => w'.cell? ⟨g, 1, none⟩ = some (.int .i64 to) ∧ w'.cell? ⟨q, 0, none⟩ = some (.int .i64 p) ∧ w'.cell? ⟨q, 1, none⟩ = some (.int .i64 d)) [(0, true), (1, true), (2, true), (3, true), (4, true), (5, true), (6, true), (7, true), (8, true), (9, true), (10, true), (11, true), (12, true), (13, false)] (by kernel_rfl) (by kernel_rfl) ?_
  simp only [Rg.pick, List.map_cons, List.map_nil, List.getD_cons_zero, List.getD_cons_succ]
  iterate 10 (refine Rc.ord_quiet (v := ?_) rfl (fun w' hS => ?_) ⟨c1, q0, q1⟩ ?_; rotate_left; (obtain ⟨s1, s2, s3⟩ := hS; go_simp; with_reducible rfl); simp only [Act.put, List.setIfInBounds_toArray, List.set_cons_succ, List.set_cons_zero])
  refine Rc.ord_quiet (v := .int .i64 mx) rfl (fun w' hS => ?_) ⟨c1, q0, q1⟩ ?_
  · go_simp
  simp only [Act.put, List.setIfInBounds_toArray, List.set_cons_succ, List.set_cons_zero]
  iterate 2 (refine Rc.ord_quiet (v := ?_) rfl (fun w' hS => ?_) ⟨c1, q0, q1⟩ ?_; rotate_left; (obtain ⟨s1, s2, s3⟩ := hS; go_simp; with_reducible rfl); simp only [Act.put, List.setIfInBounds_toArray, List.set_cons_succ, List.set_cons_zero])
  refine Rc.ord_loud rfl (fun K hK => ?_)
  go_simp
  refine hK _ _ (fun hf => absurd (show Rc.sink _ 13 = true from by kernel_rfl) (by rw [hf]; decide)) ?_
  clear hK K
  refine Rc.ord_nil ?_
  have hr2 : Row (w1.setCell ⟨g, 1, none⟩ (.int .i64 (mx))).drew g tC [.int .i64 (fr), .int .i64 (mx), .int .i64 (n0), .int .i64 (m0), .int .i64 (n1), .int .i64 (m1)] := by
    have h := (Hr1.out.put 1 (.int .i64 (mx))).drew
    exact h
  have hb2 := (Hbox.out.off hqg (i := 1) (.int .i64 (mx))).drew
  have hg2 := grown_drew (grown_put (i := 1) Hg0.out (.int .i64 (mx)))
  obtain ⟨w2, hw2⟩ : ∃ w2, w2 = (w1.setCell ⟨g, 1, none⟩ (.int .i64 (mx))).drew := ⟨_, rfl⟩
  rw [← hw2] at hr2 hb2 hg2 ⊢
  clear hw2 c1 c2 c3 f1 f2 f3 q0 q1 q2 Hr1 Hbox Hg0
  have c1 := hr2.cell 1
  have c2 := hr2.cell 4
  have c3 := hr2.cell 5
  have f1 := hr2.free 1
  have f2 := hr2.free 4
  have f3 := hr2.free 5
  have q0 := hb2.cell 0
  have q1 := hb2.cell 1
  have q2 := hb2.cell 2
  simp only [List.getElem?_cons_zero, List.getElem?_cons_succ] at c1 c2 c3 q0 q1 q2
  have Hr1 := hide hr2
  have Hbox := hide hb2
  have Hg0 := hide hg2
  clear hr2 hb2 hg2
  have hw4 : IntKind.i64.wrap (n1 + 1) = n1 + 1 := IntWalk.i64_in _ (by omega)
  go_wp2
  refine Rc.wp_region_ord (fun w' => w'.cell? ⟨g, 4, none⟩ = some (.int .i64 n1)) [(0, true), (1, true), (2, true), (3, true), (4, true), (5, true), (6, true), (7, true), (8, true), (9, true), (10, true), (11, true), (12, false)] (by kernel_rfl) (by kernel_rfl) ?_
  simp only [Rg.pick, List.map_cons, List.map_nil, List.getD_cons_zero, List.getD_cons_succ]
  iterate 12 (refine Rc.ord_quiet (v := ?_) rfl (fun w' hS => ?_) c2 ?_; rotate_left; (obtain s1 := hS; go_simp; with_reducible rfl); simp only [Act.put, List.setIfInBounds_toArray, List.set_cons_succ, List.set_cons_zero])
  refine Rc.ord_loud rfl (fun K hK => ?_)
  go_simp
  refine hK _ _ (fun hf => absurd (show Rc.sink _ 12 = true from by kernel_rfl) (by rw [hf]; decide)) ?_
  clear hK K
  refine Rc.ord_nil ?_
  have hr2 : Row (w2.setCell ⟨g, 4, none⟩ (.int .i64 (n1 + 1))).drew g tC [.int .i64 (fr), .int .i64 (mx), .int .i64 (n0), .int .i64 (m0), .int .i64 (n1 + 1), .int .i64 (m1)] := by
    have h := (Hr1.out.put 4 (.int .i64 (n1 + 1))).drew
    exact h
  have hb2 := (Hbox.out.off hqg (i := 4) (.int .i64 (n1 + 1))).drew
  have hg2 := grown_drew (grown_put (i := 4) Hg0.out (.int .i64 (n1 + 1)))
  obtain ⟨w3, hw2⟩ : ∃ w3, w3 = (w2.setCell ⟨g, 4, none⟩ (.int .i64 (n1 + 1))).drew := ⟨_, rfl⟩
  rw [← hw2] at hr2 hb2 hg2 ⊢
  clear hw2 c1 c2 c3 f1 f2 f3 q0 q1 q2 Hr1 Hbox Hg0
  have c1 := hr2.cell 1
  have c2 := hr2.cell 4
  have c3 := hr2.cell 5
  have f1 := hr2.free 1
  have f2 := hr2.free 4
  have f3 := hr2.free 5
  have q0 := hb2.cell 0
  have q1 := hb2.cell 1
  have q2 := hb2.cell 2
  simp only [List.getElem?_cons_zero, List.getElem?_cons_succ] at c1 c2 c3 q0 q1 q2
  have Hr1 := hide hr2
  have Hbox := hide hb2
  have Hg0 := hide hg2
  clear hr2 hb2 hg2
  have hx1 : IntKind.i64.wrap ((n : Int) - d) = (n : Int) - d := IntWalk.i64_in _ (by omega)
  have hx2 : IntKind.i64.wrap (m1 + ((n : Int) - d)) = m1 + ((n : Int) - d) := IntWalk.i64_in _ (by omega)
  go_wp2
  refine Rc.wp_region_ord (fun w' => w'.cell? ⟨g, 5, none⟩ = some (.int .i64 m1) ∧ w'.cell? ⟨q, 1, none⟩ = some (.int .i64 d) ∧ w'.cell? ⟨q, 2, none⟩ = some (.slice A n k)) [(0, true), (1, true), (2, true), (3, true), (4, true), (5, true), (6, true), (7, true), (8, true), (9, true), (10, true), (11, true), (12, true), (13, true), (14, true), (15, true), (16, true), (17, true), (18, false)] (by kernel_rfl) (by kernel_rfl) ?_
  simp only [Rg.pick, List.map_cons, List.map_nil, List.getD_cons_zero, List.getD_cons_succ]
  iterate 18 (refine Rc.ord_quiet (v := ?_) rfl (fun w' hS => ?_) ⟨c3, q1, q2⟩ ?_; rotate_left; (obtain ⟨s1, s2, s3⟩ := hS; go_simp; with_reducible rfl); simp only [Act.put, List.setIfInBounds_toArray, List.set_cons_succ, List.set_cons_zero])
  refine Rc.ord_loud rfl (fun K hK => ?_)
  go_simp
  refine hK _ _ (fun hf => absurd (show Rc.sink _ 18 = true from by kernel_rfl) (by rw [hf]; decide)) ?_
  clear hK K
  refine Rc.ord_nil ?_
  have hr2 : Row (w3.setCell ⟨g, 5, none⟩ (.int .i64 (m1 + ((n : Int) - d)))).drew g tC [.int .i64 (fr), .int .i64 (mx), .int .i64 (n0), .int .i64 (m0), .int .i64 (n1 + 1), .int .i64 (m1 + ((n : Int) - d))] := by
    have h := (Hr1.out.put 5 (.int .i64 (m1 + ((n : Int) - d)))).drew
    exact h
  have hb2 := (Hbox.out.off hqg (i := 5) (.int .i64 (m1 + ((n : Int) - d)))).drew
  have hg2 := grown_drew (grown_put (i := 5) Hg0.out (.int .i64 (m1 + ((n : Int) - d))))
  obtain ⟨w4, hw2⟩ : ∃ w4, w4 = (w3.setCell ⟨g, 5, none⟩ (.int .i64 (m1 + ((n : Int) - d)))).drew := ⟨_, rfl⟩
  rw [← hw2] at hr2 hb2 hg2 ⊢
  clear hw2 c1 c2 c3 f1 f2 f3 q0 q1 q2 Hr1 Hbox Hg0
  have c1 := hr2.cell 1
  have c2 := hr2.cell 4
  have c3 := hr2.cell 5
  have f1 := hr2.free 1
  have f2 := hr2.free 4
  have f3 := hr2.free 5
  have q0 := hb2.cell 0
  have q1 := hb2.cell 1
  have q2 := hb2.cell 2
  simp only [List.getElem?_cons_zero, List.getElem?_cons_succ] at c1 c2 c3 q0 q1 q2
  have Hr1 := hide hr2
  have Hbox := hide hb2
  have Hg0 := hide hg2
  clear hr2 hb2 hg2
  go_wp2
  refine bodyPost_end (results_none rfl _ _ _) rfl ?_
  exact ⟨rfl, by rw [← HMX.out]; exact Hr1.out, Hg0.out⟩
end Go.Proofs.Ytghnieddokhagaa.Al
