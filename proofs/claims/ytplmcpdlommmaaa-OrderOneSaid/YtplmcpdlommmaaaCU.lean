/-
  order: ids sorted by rank by the library: the pivot.
-/
import Derived.Test.YtplmcpdlommmaaaCT
namespace Go.Proofs.Ytplmcpdlommmaaa.Oq
open Go Go.RowKit Kt Kg Lw Tr Dq

theorem own_off {w : World} {B q i : Nat} {v u : Value} {l : List Bs} (h : OwT w B tId v l) (hq : ∀ g, v.ownBlock = some g → g ≠ q) : OwT (w.setCell ⟨q, i, none⟩ u) B tId v l := by
  refine ⟨h.1, ?_⟩
  rcases h.2 with k | ⟨g, cap, cur, hv, k1, k2, k3⟩
  · exact .inl k
  · exact .inr ⟨g, cap, cur, hv, k1, (Below.heap_setCell w ⟨q, i, none⟩ u g (hq g (by rw [hv]; rfl))).trans k2, k3⟩
theorem grown_far {a w : World} {q i : Nat} {r : Option Nat} (h : a.grownBy w r) (hq : a.heap.size ≤ q) (u : Value) : a.grownBy (w.setCell ⟨q, i, none⟩ u) r :=
  ⟨h.os, h.tape, h.output, by simpa [World.setCell] using h.size, fun k hk hne => (Below.heap_setCell w ⟨q, i, none⟩ u k (fun e => absurd hk (by simp only at e; omega))).trans (h.block k hk hne)⟩
set_option maxRecDepth 100000 in
set_option maxHeartbeats 4000000 in
/-- two places in their order -/
theorem order2_any {w : World} {g gd cap n s z : Nat} {D : List Nd} (H : Cmp w g D gd) {W : World} (hW : w.grownBy W (some g)) {l : List Bs} (hO : OwT W 0 tId (slV g n cap) l) (_hn : n ≤ 1000) (hs : ∀ x ∈ l, x.length ≤ 50) (hu : l.Nodup)
    (hR : Row W s 3 [.int .i64 z]) (hws : w.heap.size ≤ s) (hsg : s ≠ g) (hz : z ≤ 100) (a b : Nat) (ha : a < n) (hb : b < n) (hab : a ≠ b) :
    Calls Try.prog 114 #[slV g n cap, .int .i64 a, .int .i64 b, .pointer (some ⟨s, 0, none⟩), .func (.func fCmp) #[.agg #[pt gd]] #[]] W fun y w' => ∃ x1 y1 z1 : Nat, y = .returned (.tuple #[.int .i64 x1, .int .i64 y1]) ∧ So2 D l a b x1 y1 ∧ OwT w' 0 tId (slV g n cap) l ∧ w.grownBy w' (some g) ∧ Row w' s 3 [.int .i64 z1] ∧ z1 ≤ z + 1 := by
  have HC := hide H
  have HS := hide hs
  have HO := hide hO
  have HW := hide hW
  have HR := hide hR
  have hne : at_ l b ≠ at_ l a := fun e => hab (at_inj hu (by rw [own_len hO]; exact ha) (by rw [own_len hO]; exact hb) e.symm)
  have HNE := hide hne
  have HSG := hide (And.intro hws hsg)
  clear H hO hW hs hR hu hne hws hsg
  go_enter Try.func114, Try.ntmps114
  have hln := own_len HO.out
  obtain ⟨c1, f1⟩ := rdy_cell HO.out (k := b) (by omega)
  obtain ⟨c0, f0⟩ := rdy_cell HO.out (k := a) (by omega)
  change W.cell? ⟨g, b, none⟩ = some (encStr (at_ l (b))) at c1
  change W.cell? ⟨g, a, none⟩ = some (encStr (at_ l (a))) at c0
  have hx1 : (at_ l (b)).length ≤ 50 := HS.out _ ((fun _ h => h) _ (at_mem (by omega)))
  have hx0 : (at_ l (a)).length ≤ 50 := HS.out _ ((fun _ h => h) _ (at_mem (by omega)))
  have HCx := hide (HC.out W.drew ⟨HW.out.os, HW.out.tape, HW.out.output, HW.out.size, HW.out.block⟩ (at_ l (b)) (at_ l (a)) hx1 hx0)
  obtain ⟨x, hx⟩ : ∃ x, x = at_ l (b) := ⟨_, rfl⟩
  obtain ⟨y, hy⟩ : ∃ y, y = at_ l (a) := ⟨_, rfl⟩
  rw [← hx] at c1 HCx
  rw [← hy] at c0 HCx
  have HX := hide hx
  have HY := hide hy
  have p1 : (0 : Int) ≤ (b : Int) := by omega
  have p2 : (b : Int) < (n : Int) := by omega
  have p3 : (0 : Int) ≤ (a : Int) := by omega
  have p4 : (a : Int) < (n : Int) := by omega
  have hlt1 := (World.ownsRow.lt HO.out g rfl).2
  clear hx hy hx1 hx0 f1 f0
  go_wp2
  have hc : W.drew.cell? ⟨g, b, none⟩ = some (encStr x) ∧ W.drew.cell? ⟨g, a, none⟩ = some (encStr y) := ⟨c1, c0⟩
  refine Rg.wp_region_ord (fun w' => w'.cell? ⟨g, b, none⟩ = some (encStr x) ∧ w'.cell? ⟨g, a, none⟩ = some (encStr y)) [(0, true), (1, true), (2, true), (3, true), (4, true), (5, true), (6, true), (7, true), (8, true), (9, false), (10, true)] (by kernel_rfl) (by kernel_rfl) ?_
  simp only [Rg.pick, List.map_cons, List.map_nil, List.getD_cons_zero, List.getD_cons_succ]
  iterate 9 (refine Rg.ord_quiet (v := ?_) rfl (fun w' hS => ?_) hc ?_; rotate_left; (obtain ⟨s1, s2⟩ := hS; go_simp; with_reducible rfl); simp only [Act.put, List.setIfInBounds_toArray, List.set_cons_succ, List.set_cons_zero])
  refine Rg.ord_loud (by rfl) (fun K hK => ?_)
  go_simp
  refine HCx.out.mono ?_
  rintro e w5 ⟨rfl, hb5⟩
  have hb5' : Below W.heap.size W w5 := ⟨hb5.out.os, hb5.out.tape, hb5.out.output, hb5.out.size, hb5.out.block⟩
  have hc5 : w5.cell? ⟨g, b, none⟩ = some (encStr x) ∧ w5.cell? ⟨g, a, none⟩ = some (encStr y) := ⟨(World.cell?_of_block (hb5'.block g hlt1)).trans c1, (World.cell?_of_block (hb5'.block g hlt1)).trans c0⟩
  have HO5 := hide (HO.out.kept hb5')
  have HW5 := hide (grown_below HW.out hb5')
  have HR5 := hide (HR.out.below hb5' HR.out.lt)
  obtain ⟨cv, hcv⟩ : ∃ z, z = cmpR D x y := ⟨_, rfl⟩
  rw [← hcv]
  refine hK _ _ (fun _ => hc5) ?_
  clear hK K hc c1 c0 HCx hb5 hb5'
  by_cases hlt2 : rlt D x y
  · have hsc := HR5.out.cell 0
    have hsf := HR5.out.free 0
    change w5.cell? ⟨s, 0, none⟩ = some (.int .i64 z) at hsc
    have d2 : decide (cv < 0) = true := decide_eq_true (by rw [hcv]; exact cmpR_neg.2 hlt2)
    have HF := hide (show So2 D l a b b a from ⟨.inr ⟨rfl, rfl⟩, by rw [← HX.out, ← HY.out]; exact hlt2⟩)
    have HO6 := hide (own_off (q := s) (i := 0) (u := .int .i64 ((z + 1 : Nat) : Int)) HO5.out (fun k e => by injection e with e; rw [← e]; exact fun e2 => HSG.out.2 e2.symm))
    have HR6 := hide (HR5.out.put 0 (.int .i64 ((z + 1 : Nat) : Int)))
    have HW6 := hide (grown_far (i := 0) HW5.out HSG.out.1 (.int .i64 ((z + 1 : Nat) : Int)))
    have ez : IntKind.i64.wrap ((z : Int) + 1) = ((z + 1 : Nat) : Int) := by simp [IntKind.wrap, IntKind.bits, IntKind.signed]; omega
    clear hcv hlt2
    iterate 1 (refine Rg.ord_quiet (v := ?_) rfl (fun w' hS => ?_) hc5 ?_; rotate_left; (obtain ⟨s1, s2⟩ := hS; go_simp; with_reducible rfl); simp only [Act.put, List.setIfInBounds_toArray, List.set_cons_succ, List.set_cons_zero])
    refine Rg.ord_nil ?_
    go_wp2
    go_ret2
    exact ⟨b, a, z + 1, rfl, HF.out, HO6.out, HW6.out, HR6.out, Nat.le_refl _⟩
  · have d2 : decide (cv < 0) = false := decide_eq_false (by rw [hcv]; exact fun h => hlt2 (cmpR_neg.1 h))
    have HF := hide (show So2 D l a b a b from ⟨.inl ⟨rfl, rfl⟩, by
      rcases rlt_tri D x y with e | e | e
      · exact absurd e hlt2
      · exact absurd (by rw [← HX.out, ← HY.out]; exact e) HNE.out
      · rw [← HX.out, ← HY.out]; exact e⟩)
    clear hcv hlt2
    iterate 1 (refine Rg.ord_quiet (v := ?_) rfl (fun w' hS => ?_) hc5 ?_; rotate_left; (obtain ⟨s1, s2⟩ := hS; go_simp; with_reducible rfl); simp only [Act.put, List.setIfInBounds_toArray, List.set_cons_succ, List.set_cons_zero])
    refine Rg.ord_nil ?_
    go_wp2
    go_ret2
    exact ⟨a, b, z, rfl, HF.out, HO5.out, HW5.out, HR5.out, Nat.le_succ _⟩
set_option maxRecDepth 100000 in
set_option maxHeartbeats 4000000 in
/-- one of three, between the two others -/
theorem median_any {w : World} {g gd cap n s z : Nat} {D : List Nd} (H : Cmp w g D gd) {W : World} (hW : w.grownBy W (some g)) {l : List Bs} (hO : OwT W 0 tId (slV g n cap) l) (hn : n ≤ 1000) (hs : ∀ x ∈ l, x.length ≤ 50) (hu : l.Nodup)
    (hR : Row W s 3 [.int .i64 z]) (hws : w.heap.size ≤ s) (hsg : s ≠ g) (hz : z ≤ 50) (a b c : Nat) (ha : a < n) (hb : b < n) (hc : c < n) (hab : a ≠ b) (hac : a ≠ c) (hbc : b ≠ c) :
    Calls Try.prog 112 #[slV g n cap, .int .i64 a, .int .i64 b, .int .i64 c, .pointer (some ⟨s, 0, none⟩), .func (.func fCmp) #[.agg #[pt gd]] #[]] W fun y w' => ∃ m z1 : Nat, y = .returned (.int .i64 m) ∧ Med D l n m ∧ OwT w' 0 tId (slV g n cap) l ∧ w.grownBy w' (some g) ∧ Row w' s 3 [.int .i64 z1] ∧ z1 ≤ z + 3 := by
  have HF := hide (fun (W : World) (hW : w.grownBy W (some g)) (hO : OwT W 0 tId (slV g n cap) l) (z : Nat) (hR : Row W s 3 [.int .i64 z]) (hz : z ≤ 100) (a b : Nat) (ha : a < n) (hb : b < n) (hab : a ≠ b) => order2_any H hW hO hn hs hu hR hws hsg hz a b ha hb hab)
  have HO := hide hO
  have HL := hide (own_len hO)
  have HW := hide hW
  have HR := hide hR
  clear H hO hW hs hR hu hws hsg
  go_enter Try.func112, Try.ntmps112
  go_wp2_with fail
  refine (HF.out W HW.out HO.out z HR.out (by omega) a b ha hb hab).mono ?_
  rintro y w1 ⟨a1, b1, z1, rfl, h1, ho1, hw1, hr1, hz1⟩
  have H1 := hide h1
  have HO1 := hide ho1
  have HW1 := hide hw1
  have HR1 := hide hr1
  have k1 := h1.or
  clear h1 ho1 hw1 hr1 HO HW HR
  go_wp2_with fail
  refine (HF.out w1 HW1.out HO1.out z1 HR1.out (by omega) b1 c (by omega) (by omega) (by omega)).mono ?_
  rintro y w2 ⟨b2, c2, z2, rfl, h2, ho2, hw2, hr2, hz2⟩
  have H2 := hide h2
  have HO2 := hide ho2
  have HW2 := hide hw2
  have HR2 := hide hr2
  have k2 := h2.or
  clear h2 ho2 hw2 hr2 HO1 HW1 HR1
  go_wp2_with fail
  refine (HF.out w2 HW2.out HO2.out z2 HR2.out (by omega) a1 b2 (by omega) (by omega) (by omega)).mono ?_
  rintro y w3 ⟨a3, b3, z3, rfl, h3, ho3, hw3, hr3, hz3⟩
  have HM := hide (show Med D l n b3 from by rw [← HL.out]; exact So2.med H1.out H2.out h3 (by rw [HL.out]; exact ha) (by rw [HL.out]; exact hb) (by rw [HL.out]; exact hc))
  have HO3 := hide ho3
  have HW3 := hide hw3
  have HR3 := hide hr3
  clear h3 ho3 hw3 hr3 HO2 HW2 HR2 HF
  go_wp2
  go_ret
  exact ⟨b3, z3, rfl, HM.out, HO3.out, HW3.out, HR3.out, by omega⟩
set_option maxRecDepth 100000 in
set_option maxHeartbeats 4000000 in
/-- a pivot of thirteen, or fourteen -/
theorem pivot_any {w : World} {g gd cap n : Nat} {D : List Nd} (H : Cmp w g D gd) {W : World} (hW : w.grownBy W (some g)) {l : List Bs} (hO : OwT W 0 tId (slV g n cap) l) (hn : n = 13 ∨ n = 14) (hs : ∀ x ∈ l, x.length ≤ 50) (hu : l.Nodup) :
    Calls Try.prog 98 #[slV g n cap, .int .i64 0, .int .i64 n, .func (.func fCmp) #[.agg #[pt gd]] #[]] W fun y w' => ∃ (m : Nat) (h : Int), y = .returned (.tuple #[.int .i64 m, .int .i64 h]) ∧ (h = 0 ∨ h = 1) ∧ Med D l n m ∧ OwT w' 0 tId (slV g n cap) l ∧ w.grownBy w' (some g) := by
  obtain ⟨w1, hw1⟩ : ∃ z, z = W.alloc (.cells #[.int .i64 0] 3) := ⟨_, rfl⟩
  obtain ⟨s, hsz⟩ : ∃ z, z = W.heap.size := ⟨_, rfl⟩
  have hb1 : Below W.heap.size W w1 := by rw [hw1]; exact (Below.refl _ _).alloc (Nat.le_refl _) _
  have hr1 : Row w1 s 3 [.int .i64 0] := by rw [hw1, hsz]; exact Row.fresh W 3 #[.int .i64 0]
  have HM := hide (median_any (z := 0) H (grown_below hW hb1) (hO.kept hb1) (by omega) hs hu hr1 (by have := hW.size; omega) (by have := (World.ownsRow.lt hO g rfl).2; omega) (by omega) 3 6 9 (by omega) (by omega) (by omega) (by omega) (by omega) (by omega))
  have HW1 := hide hw1
  have HSz := hide hsz
  clear H hW hO hs hu hb1 hr1
  rcases hn with rfl | rfl
  · go_enter Try.func98, Try.ntmps98
    go_wp2_with fail
    rw [← hw1, ← hsz]
    refine HM.out.mono ?_
    rintro y w2 ⟨m, z1, rfl, hm, ho, hw, hr, hz⟩
    have HF := hide (And.intro hm (And.intro ho hw))
    have hsc := hr.cell 0
    change w2.cell? ⟨s, 0, none⟩ = some (.int .i64 z1) at hsc
    clear hm ho hw hr HM hw1 hsz
    have d12 : ((z1 : Int) == 12) = false := by simp; omega
    by_cases h0 : z1 = 0
    · subst h0
      go_wp2
      go_ret2
      exact ⟨m, 1, rfl, .inr rfl, HF.out⟩
    · have d0 : ((z1 : Int) == 0) = false := by simp; omega
      go_wp2
      go_ret2
      exact ⟨m, 0, rfl, .inl rfl, HF.out⟩
  · go_enter Try.func98, Try.ntmps98
    go_wp2_with fail
    rw [← hw1, ← hsz]
    refine HM.out.mono ?_
    rintro y w2 ⟨m, z1, rfl, hm, ho, hw, hr, hz⟩
    have HF := hide (And.intro hm (And.intro ho hw))
    have hsc := hr.cell 0
    change w2.cell? ⟨s, 0, none⟩ = some (.int .i64 z1) at hsc
    clear hm ho hw hr HM hw1 hsz
    have d12 : ((z1 : Int) == 12) = false := by simp; omega
    by_cases h0 : z1 = 0
    · subst h0
      go_wp2
      go_ret2
      exact ⟨m, 1, rfl, .inr rfl, HF.out⟩
    · have d0 : ((z1 : Int) == 0) = false := by simp; omega
      go_wp2
      go_ret2
      exact ⟨m, 0, rfl, .inl rfl, HF.out⟩
set_option maxRecDepth 100000 in
set_option maxHeartbeats 4000000 in
/-- whether it is sorted already -/
theorem partial_any {w : World} {g gd cap n : Nat} {D : List Nd} (H : Cmp w g D gd) {W : World} (hW : w.grownBy W (some g)) {l : List Bs} (hO : OwT W 0 tId (slV g n cap) l) (hn : 1 ≤ n ∧ n < 50) (hs : ∀ x ∈ l, x.length ≤ 50) :
    Calls Try.prog 100 #[slV g n cap, .int .i64 0, .int .i64 n, .func (.func fCmp) #[.agg #[pt gd]] #[]] W fun y w' => ∃ r : Bool, y = .returned (.bool r) ∧ (r = true → Asc D l 0 n) ∧ OwT w' 0 tId (slV g n cap) l ∧ w.grownBy w' (some g) := by
  have HC := hide H
  have HS := hide hs
  have HO0 := hide hO
  have HW0 := hide hW
  clear H hO hW hs
  go_enter Try.func100, Try.ntmps100
  go_wp2
  refine wp_loop_rounds 1 ?_
  rw [rounds_succ]
  go_wp2
  go_loopw [9] (fun iv wr => ∃ i : Nat, iv = .int .i64 i ∧ 1 ≤ i ∧ i ≤ n ∧ Hid (OwT wr 0 tId (slV g n cap) l) ∧ Hid (w.grownBy wr (some g)) ∧ Hid (∀ k, 1 ≤ k → k < i → ¬ rlt D (at_ l k) (at_ l (k - 1)))) (fun iv _ => n - (intOf iv).toNat)
  case atStart => exact ⟨1, rfl, Nat.le_refl _, hn.1, by show Hid _; exact HO0, by show Hid _; exact HW0, by show Hid _; exact hide (fun k h1 h2 => by omega)⟩
  case round =>
    clear HO0 HW0
    obtain ⟨i, rfl, hi1, hi2, HO, HW, HA⟩ := hrel
    by_cases hlt : i < n
    · obtain ⟨i', rfl⟩ : ∃ i', i = i' + 1 := ⟨i - 1, by omega⟩
      have hln := own_len HO.out
      obtain ⟨c1, f1⟩ := rdy_cell HO.out (k := i' + 1) (by omega)
      obtain ⟨c0, f0⟩ := rdy_cell HO.out (k := i') (by omega)
      change wr.cell? ⟨g, i' + 1, none⟩ = some (encStr (at_ l (i' + 1))) at c1
      change wr.cell? ⟨g, i', none⟩ = some (encStr (at_ l (i'))) at c0
      have hx1 : (at_ l (i' + 1)).length ≤ 50 := HS.out _ ((fun _ h => h) _ (at_mem (by omega)))
      have hx0 : (at_ l (i')).length ≤ 50 := HS.out _ ((fun _ h => h) _ (at_mem (by omega)))
      have HCx := hide (HC.out wr.drew ⟨HW.out.os, HW.out.tape, HW.out.output, HW.out.size, HW.out.block⟩ (at_ l (i' + 1)) (at_ l (i')) hx1 hx0)
      obtain ⟨x, hx⟩ : ∃ x, x = at_ l (i' + 1) := ⟨_, rfl⟩
      obtain ⟨y, hy⟩ : ∃ y, y = at_ l (i') := ⟨_, rfl⟩
      rw [← hx] at c1 HCx
      rw [← hy] at c0 HCx
      have HX := hide hx
      have HY := hide hy
      have e1 : (i' : Int) + 1 - 1 = (i' : Int) := by omega
      have d1 : decide ((i' : Int) + 1 < (n : Int)) = true := decide_eq_true (by omega)
      have pw : IntKind.i64.wrap (i' : Int) = (i' : Int) := wrap_small (by omega)
      have p1 : (0 : Int) ≤ (i' : Int) + 1 := by omega
      have p2 : (i' : Int) + 1 < (n : Int) := by omega
      have p3 : (0 : Int) ≤ (i' : Int) := by omega
      have p4 : (i' : Int) < (n : Int) := by omega
      have hlt1 := (World.ownsRow.lt HO.out g rfl).2
      clear hx hy hx1 hx0 f1 f0
      go_wp2
      have hc : wr.drew.cell? ⟨g, i' + 1, none⟩ = some (encStr x) ∧ wr.drew.cell? ⟨g, i', none⟩ = some (encStr y) := ⟨c1, c0⟩
      refine Rg.wp_region_ord (fun w' => w'.cell? ⟨g, i' + 1, none⟩ = some (encStr x) ∧ w'.cell? ⟨g, i', none⟩ = some (encStr y)) [(0, true), (1, true), (2, true), (3, true), (4, true), (5, true), (6, true), (7, true), (8, true), (9, true), (10, true), (11, true), (12, true), (13, true), (14, false), (15, true), (16, true), (17, true)] (by kernel_rfl) (by kernel_rfl) ?_
      simp only [Rg.pick, List.map_cons, List.map_nil, List.getD_cons_zero, List.getD_cons_succ]
      iterate 4 (refine Rg.ord_quiet (v := ?_) rfl (fun w' hS => ?_) hc ?_; rotate_left; (obtain ⟨s1, s2⟩ := hS; go_simp; with_reducible rfl); simp only [Act.put, List.setIfInBounds_toArray, List.set_cons_succ, List.set_cons_zero])
      try simp only [d1]
      iterate 10 (refine Rg.ord_guarded (v := ?_) (by rfl) (fun w' hS => ?_) hc ?_; rotate_left; (obtain ⟨s1, s2⟩ := hS; go_simp; with_reducible rfl); simp only [Act.put, List.setIfInBounds_toArray, List.set_cons_succ, List.set_cons_zero])
      refine Rg.ord_loud (by rfl) (fun K hK => ?_)
      go_simp
      refine HCx.out.mono ?_
      rintro e w5 ⟨rfl, hb5⟩
      have hb5' : Below wr.heap.size wr w5 := ⟨hb5.out.os, hb5.out.tape, hb5.out.output, hb5.out.size, hb5.out.block⟩
      have hc5 : w5.cell? ⟨g, i' + 1, none⟩ = some (encStr x) ∧ w5.cell? ⟨g, i', none⟩ = some (encStr y) := ⟨(World.cell?_of_block (hb5'.block g hlt1)).trans c1, (World.cell?_of_block (hb5'.block g hlt1)).trans c0⟩
      have HO5 := hide (HO.out.kept hb5')
      have HW5 := hide (grown_below HW.out hb5')
      obtain ⟨cv, hcv⟩ : ∃ z, z = cmpR D x y := ⟨_, rfl⟩
      rw [← hcv]
      refine hK _ _ (fun _ => hc5) ?_
      clear hK K hc c1 c0 HCx hb5 hb5'
      by_cases hlt2 : rlt D x y
      · have d2 : decide (cv < 0) = true := decide_eq_true (by rw [hcv]; exact cmpR_neg.2 hlt2)
        have dn : (((i' : Int) + 1) == (n : Int)) = false := by simp; omega
        have d50 : decide ((n : Int) - 0 < 50) = true := decide_eq_true (by omega)
        have d50' : decide ((n : Int) < 50) = true := decide_eq_true (by omega)
        clear hcv hlt2
        iterate 2 (refine Rg.ord_guarded (v := ?_) (by rfl) (fun w' hS => ?_) hc5 ?_; rotate_left; (obtain ⟨s1, s2⟩ := hS; go_simp; with_reducible rfl); simp only [Act.put, List.setIfInBounds_toArray, List.set_cons_succ, List.set_cons_zero])
        iterate 1 (refine Rg.ord_quiet (v := ?_) rfl (fun w' hS => ?_) hc5 ?_; rotate_left; (obtain ⟨s1, s2⟩ := hS; go_simp; with_reducible rfl); simp only [Act.put, List.setIfInBounds_toArray, List.set_cons_succ, List.set_cons_zero])
        refine Rg.ord_nil ?_
        go_wp2
        (try simp only [Exit.inBlock, Exit.then])
        go_ret
        exact ⟨false, rfl, (fun h => by cases h), HO5.out, HW5.out⟩
      · have d2 : decide (cv < 0) = false := decide_eq_false (by rw [hcv]; exact fun h => hlt2 (cmpR_neg.1 h))
        have HA2 := hide (show ∀ k, 1 ≤ k → k < i' + 1 + 1 → ¬ rlt D (at_ l k) (at_ l (k - 1)) from fun k h1 h2 => by
          by_cases e : k = i' + 1
          · rw [e, ← HX.out, show i' + 1 - 1 = i' from rfl, ← HY.out]; exact hlt2
          · exact HA.out k h1 (by omega))
        clear hcv hlt2
        iterate 2 (refine Rg.ord_guarded (v := ?_) (by rfl) (fun w' hS => ?_) hc5 ?_; rotate_left; (obtain ⟨s1, s2⟩ := hS; go_simp; with_reducible rfl); simp only [Act.put, List.setIfInBounds_toArray, List.set_cons_succ, List.set_cons_zero])
        iterate 1 (refine Rg.ord_quiet (v := ?_) rfl (fun w' hS => ?_) hc5 ?_; rotate_left; (obtain ⟨s1, s2⟩ := hS; go_simp; with_reducible rfl); simp only [Act.put, List.setIfInBounds_toArray, List.set_cons_succ, List.set_cons_zero])
        refine Rg.ord_nil ?_
        go_wp2
        exact ⟨⟨i' + 1 + 1, by go_num, by omega, by omega, by show Hid _; exact HO5, by show Hid _; exact HW5, by show Hid _; exact HA2⟩, by simp [intOf]; omega⟩
    · obtain rfl : i = n := by omega
      have d1 : decide ((i : Int) < (i : Int)) = false := by simp
      have HF := hide (asc_step HA.out)
      go_wp2
      go_quiet (fail)
      go_wp2
      (try simp only [Exit.inBlock, Exit.then])
      go_ret
      exact ⟨true, rfl, fun _ => HF.out, HO.out.drewN nq, ⟨HW.out.os, HW.out.tape, HW.out.output, HW.out.size, HW.out.block⟩⟩
end Go.Proofs.Ytplmcpdlommmaaa.Oq
