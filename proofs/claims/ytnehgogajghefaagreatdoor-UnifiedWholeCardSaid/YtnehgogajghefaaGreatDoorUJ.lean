/-
  unified: readSide, readHead.
-/
import Derived.Test.YtnehgogajghefaaGreatDoorUI
import Derived.Laws.ResultCell
namespace Go.Proofs.YtnehgogajghefaaGreatDoor.Un
open Go Go.RowKit Kt Lw Li Df Hu

theorem sizeHk : (Tryz.prog.info? 36).map (·.size) = some 5 := by kernel_rfl
theorem results_ct {P : Program} {fn : Func} {p u : Tmp} {ty : TypeId} (h : fn.results = #[.cell p ty, .tmp u]) (tmps : Array Value) (w : World) (g : Nat) (t : TypeId) (cs : Array Value) (fr : Nat × Nat) (d : TypeDesc)
    (hp : tmps.getD p undef = .pointer (some ⟨g, 0, none⟩)) (hg : w.heap[g]? = some (.cells cs t fr))
    (hu : P.underlying ty = some d) (hd : (match d with | .struct _ | .array _ _ => true | _ => false) = true) (hi : (P.info? ty).map (·.size) = some cs.size) :
    (results fn tmps).run P w = .ok (.tuple #[.agg cs, tmps.getD u undef]) w := by
  rw [results_cell_tmp h, hp]
  simp [asAddr, Result.andThen, run_loadVar_row w g t ty cs fr d hg hu hd hi]
theorem cut_le (s sep : List UInt8) : (Lib.cut s sep).1.length ≤ s.length ∧ (Lib.cut s sep).2.1.length ≤ s.length := by
  unfold Lib.cut
  split
  · simp only [List.length_take, List.length_drop]; omega
  · simp
set_option maxRecDepth 100000 in
set_option maxHeartbeats 1000000 in
theorem readSide_any (s : List UInt8) (w : World) (hE : Env w) (hl : s.length ≤ 1000000) :
    Calls Tryz.prog 59 #[.string ⟨s.toArray⟩] w fun y w' => y = .returned (.tuple #[.int .i64 (rdSide s).1, .int .i64 (rdSide s).2]) ∧ Below w.heap.size w w' := by
  obtain ⟨m, hm⟩ := hE.most
  have HC := hide (Tryz.strings_Cut ⟨s.toArray⟩ ⟨#[44]⟩ m w (by show s.length < _; omega) hm)
  have HC := hide (show Calls Tryz.prog 58 #[.string ⟨s.toArray⟩, .string ⟨#[44]⟩] w fun e w' => e = .returned (.tuple #[.string ⟨(Lib.cut s [44]).1.toArray⟩, .string ⟨(Lib.cut s [44]).2.1.toArray⟩, .bool (Lib.cut s [44]).2.2]) ∧ ∃ n, w' = w.drewN n from HC.out)
  have hc := cut_le s [44]
  have HR := hide (show rdSide s = ((pn (Lib.cut s [44]).1 : Int) - min (pn (Lib.cut s [44]).2.1 : Int) 1, (pn (Lib.cut s [44]).2.1 : Int)) from rfl)
  obtain ⟨x, hx⟩ : ∃ x, x = (Lib.cut s [44]).1 := ⟨_, rfl⟩
  obtain ⟨y, hy⟩ : ∃ y, y = (Lib.cut s [44]).2.1 := ⟨_, rfl⟩
  obtain ⟨z, hz⟩ : ∃ z, z = (Lib.cut s [44]).2.2 := ⟨_, rfl⟩
  rw [← hx, ← hy] at hc HR
  rw [← hx, ← hy, ← hz] at HC
  have HN1 := hide (fun w' (hb : Below w.heap.size w w') => number_any x w' (hE.keep hb) (by omega))
  have HN2 := hide (fun w' (hb : Below w.heap.size w w') => number_any y w' (hE.keep hb) (by omega))
  have hp1 := pn_le x
  have hp2 := pn_le y
  generalize pn x = p at *
  generalize pn y = q at *
  have HP := hide (fun w' => place_any 0 (q : Int) w' (by omega) (by omega))
  have hpl : plc 0 (q : Int) = min (q : Int) 1 := by unfold plc; omega
  rw [hpl] at HP
  obtain ⟨u, hu⟩ : ∃ u, u = min (q : Int) 1 := ⟨_, rfl⟩
  have hub : 0 ≤ u ∧ u ≤ 1 := by omega
  rw [← hu] at HR HP
  have hsub : IntKind.i64.wrap ((p : Int) - u) = (p : Int) - u := IntWalk.i64_in _ (by omega)
  rw [HR.out]
  clear hE hm hx hy hz hpl hu hc HR
  go_enter Tryz.func59, Tryz.ntmps59
  go_wp2_with fail
  refine HC.out.mono ?_
  rintro y1 w1 ⟨rfl, n1, rfl⟩
  have Hb1 := hide (below_drewN (Below.refl w.heap.size w) n1)
  generalize w.drewN n1 = w1 at *
  go_wp2_with fail
  refine (HN2.out w1 Hb1.out).mono ?_
  rintro y2 w2 ⟨rfl, hb2⟩
  have Hb2 := hide (Hb1.out.trans (hb2.mono Hb1.out.size))
  clear hb2
  go_wp2_with fail
  refine (HN1.out w2 Hb2.out).mono ?_
  rintro y3 w3 ⟨rfl, hb3⟩
  have Hb3 := hide (Hb2.out.trans (hb3.mono Hb2.out.size))
  clear hb3
  go_wp2_with fail
  refine (HP.out w3).mono ?_
  rintro y4 w4 ⟨rfl, rfl⟩
  go_wp2
  go_ret2
  exact ⟨rfl, Hb3.out⟩
/-- whether a line is a head -/
def hdOk (s : List UInt8) : Bool := decide (0 ≤ (rdOld s).1 ∧ 0 ≤ (rdNew s).1 ∧ headT (rdOld s).1 (rdOld s).2 (rdNew s).1 (rdNew s).2 = s)
theorem rdSide_bd (s : List UInt8) : (-1 ≤ (rdSide s).1 ∧ (rdSide s).1 ≤ 2147483647) ∧ (0 ≤ (rdSide s).2 ∧ (rdSide s).2 ≤ 2147483647) := by
  have h1 := pn_le (Lib.cut s [44]).1
  have h2 := pn_le (Lib.cut s [44]).2.1
  simp only [rdSide]
  omega
set_option maxRecDepth 100000 in
set_option maxHeartbeats 2000000 in
theorem readHead_any (s : List UInt8) (w : World) (hE : Env w) (hl : s.length ≤ 1000000) :
    Calls Tryz.prog 49 #[.string ⟨s.toArray⟩] w fun y w' => y = .returned (.tuple #[.agg #[.int .i64 (rdOld s).1, .int .i64 (rdOld s).2, .int .i64 (rdNew s).1, .int .i64 (rdNew s).2, .slice none 0 0], .bool (hdOk s)]) ∧ Below w.heap.size w w' := by
  have HOk := hide (show hdOk s = decide (0 ≤ (rdOld s).1 ∧ 0 ≤ (rdNew s).1 ∧ headT (rdOld s).1 (rdOld s).2 (rdNew s).1 (rdNew s).2 = s) from rfl)
  have HT1 := hide (fun w' => Tryz.strings_TrimPrefix ⟨s.toArray⟩ ⟨#[64, 64, 32, 45]⟩ w')
  have HT1 := hide (show ∀ w', Calls Tryz.prog 57 #[.string ⟨s.toArray⟩, .string ⟨#[64, 64, 32, 45]⟩] w' fun e w'' => e = .returned (.string ⟨(Lib.trimPrefix s opensB).toArray⟩) ∧ w'' = w' from HT1.out)
  have hl1 : (Lib.trimPrefix s opensB).length ≤ s.length := by unfold Lib.trimPrefix; split <;> simp
  have HRr := hide (show rdRest s = Lib.trimSuffix (Lib.trimPrefix s opensB) closesB from rfl)
  obtain ⟨t, ht⟩ : ∃ t, t = Lib.trimPrefix s opensB := ⟨_, rfl⟩
  rw [← ht] at HT1 hl1 HRr
  have HT2 := hide (fun w' => Tryz.strings_TrimSuffix ⟨t.toArray⟩ ⟨#[32, 64, 64, 10]⟩ w' (by show t.length ≤ _; omega))
  have HT2 := hide (show ∀ w', Calls Tryz.prog 56 #[.string ⟨t.toArray⟩, .string ⟨#[32, 64, 64, 10]⟩] w' fun e w'' => e = .returned (.string ⟨(Lib.trimSuffix t closesB).toArray⟩) ∧ w'' = w' from HT2.out)
  have hl2 : (Lib.trimSuffix t closesB).length ≤ t.length := by unfold Lib.trimSuffix; split <;> simp
  rw [← HRr.out] at HT2 hl2
  have HO := hide (show rdOld s = rdSide (Lib.cut (rdRest s) plusB).1 from rfl)
  have HNw := hide (show rdNew s = rdSide (Lib.cut (rdRest s) plusB).2.1 from rfl)
  obtain ⟨v, hv⟩ : ∃ v, v = rdRest s := ⟨_, rfl⟩
  rw [← hv] at HT2 hl2 HO HNw
  obtain ⟨m, hm⟩ := hE.most
  have HC := hide (Tryz.strings_Cut ⟨v.toArray⟩ ⟨#[32, 43]⟩ m w (by show v.length < _; omega) hm)
  have HC := hide (show Calls Tryz.prog 58 #[.string ⟨v.toArray⟩, .string ⟨#[32, 43]⟩] w fun e w' => e = .returned (.tuple #[.string ⟨(Lib.cut v plusB).1.toArray⟩, .string ⟨(Lib.cut v plusB).2.1.toArray⟩, .bool (Lib.cut v plusB).2.2]) ∧ ∃ n, w' = w.drewN n from HC.out)
  have hc := cut_le v plusB
  obtain ⟨x, hx⟩ : ∃ x, x = (Lib.cut v plusB).1 := ⟨_, rfl⟩
  obtain ⟨y, hy⟩ : ∃ y, y = (Lib.cut v plusB).2.1 := ⟨_, rfl⟩
  obtain ⟨z, hz⟩ : ∃ z, z = (Lib.cut v plusB).2.2 := ⟨_, rfl⟩
  rw [← hx, ← hy, ← hz] at HC
  rw [← hx] at hc HO
  rw [← hy] at hc HNw
  have HR1 := hide (fun w' (hb : Below w.heap.size w w') => readSide_any x w' (hE.keep hb) (by omega))
  have HR2 := hide (fun w' (hb : Below w.heap.size w w') => readSide_any y w' (hE.keep hb) (by omega))
  rw [← HO.out] at HR1
  rw [← HNw.out] at HR2
  have hob : (-1 ≤ (rdOld s).1 ∧ (rdOld s).1 ≤ 2147483647) ∧ (0 ≤ (rdOld s).2 ∧ (rdOld s).2 ≤ 2147483647) := rdSide_bd _
  have hnb : (-1 ≤ (rdNew s).1 ∧ (rdNew s).1 ≤ 2147483647) ∧ (0 ≤ (rdNew s).2 ∧ (rdNew s).2 ≤ 2147483647) := rdSide_bd _
  have HH := hide (fun w' (hb : Below w.heap.size w w') (h1 : 0 ≤ (rdOld s).1) (h2 : 0 ≤ (rdNew s).1) => head_any (rdOld s).1 (rdOld s).2 (rdNew s).1 (rdNew s).2 (.slice none 0 0) rfl w' (hE.keep hb) (by omega) (by omega) (by omega) (by omega))
  obtain ⟨a, ha⟩ : ∃ a, a = (rdOld s).1 := ⟨_, rfl⟩
  obtain ⟨an, han⟩ : ∃ an, an = (rdOld s).2 := ⟨_, rfl⟩
  obtain ⟨b, hb⟩ : ∃ b, b = (rdNew s).1 := ⟨_, rfl⟩
  obtain ⟨bn, hbn⟩ : ∃ bn, bn = (rdNew s).2 := ⟨_, rfl⟩
  rw [← ha, ← han, ← hb, ← hbn] at HOk
  obtain ⟨okk, hokk⟩ : ∃ okk, okk = hdOk s := ⟨_, rfl⟩
  rw [← hokk] at HOk
  rw [← ha, ← han] at hob HR1 HH
  rw [← hb, ← hbn] at hnb HR2 HH
  rw [← ha, ← han, ← hb, ← hbn, ← hokk]
  clear ha han hb hbn hokk
  go_enter Tryz.func49, Tryz.ntmps49
  go_wp2_with fail
  obtain ⟨w0, hw0⟩ : ∃ w0, w0 = w.alloc (.cells #[.int .i64 0, .int .i64 0, .int .i64 0, .int .i64 0, .slice none 0 0] tH) := ⟨_, rfl⟩
  have hb0 : Below w.heap.size w w0 := by rw [hw0]; exact (Below.refl _ w).alloc (Nat.le_refl _) _
  have hrow : Row w0 w.heap.size tH [.int .i64 0, .int .i64 0, .int .i64 0, .int .i64 0, .slice none 0 0] := by rw [hw0]; exact Row.fresh w tH _
  rw [← hw0]
  obtain ⟨g, hg⟩ : ∃ g, g = w.heap.size := ⟨_, rfl⟩
  rw [← hg] at hrow ⊢
  have Hg := hide hg
  have Hb0 := hide hb0
  have Hr0 := hide hrow
  have HC0 := hide (Tryz.strings_Cut ⟨v.toArray⟩ ⟨#[32, 43]⟩ m w0 (by show v.length < _; omega) (cell_keep hb0 hm))
  have HC0 := hide (show Calls Tryz.prog 58 #[.string ⟨v.toArray⟩, .string ⟨#[32, 43]⟩] w0 fun e w' => e = .returned (.tuple #[.string ⟨(Lib.cut v plusB).1.toArray⟩, .string ⟨(Lib.cut v plusB).2.1.toArray⟩, .bool (Lib.cut v plusB).2.2]) ∧ ∃ n, w' = w0.drewN n from HC0.out)
  rw [← hx, ← hy, ← hz] at HC0
  clear HC hw0 hb0 hrow hg hm hx hy hz ht hv HRr HO HNw hc
  refine (HT1.out w0).mono ?_
  rintro y1 w1 ⟨rfl, rfl⟩
  go_wp2_with fail
  refine (HT2.out _).mono ?_
  rintro y2 w2 ⟨rfl, rfl⟩
  go_wp2_with fail
  refine HC0.out.mono ?_
  rintro y3 w3 ⟨rfl, n3, rfl⟩
  have Hb3 := hide (below_drewN Hb0.out n3)
  have Hr3 := hide (Hr0.out.below (below_drewN (Below.refl _ _) n3) Hr0.out.lt)
  clear Hb0 Hr0 HC0 HT1 HT2
  generalize World.drewN _ n3 = w3 at *
  go_wp2_with fail
  obtain ⟨w4, hw4⟩ : ∃ w4, w4 = w3.alloc (.cells #[.int .i64 0, .int .i64 0, .int .i64 0, .int .i64 0, .slice none 0 0] tH) := ⟨_, rfl⟩
  have hb4 : Below w3.heap.size w3 w4 := by rw [hw4]; exact (Below.refl _ w3).alloc (Nat.le_refl _) _
  have hq4 : Row w4 w3.heap.size tH [.int .i64 0, .int .i64 0, .int .i64 0, .int .i64 0, .slice none 0 0] := by rw [hw4]; exact Row.fresh w3 tH _
  rw [← hw4]
  have hgq : g ≠ w3.heap.size := Nat.ne_of_lt Hr3.out.lt
  have hqB : w.heap.size ≤ w3.heap.size := Hb3.out.size
  obtain ⟨q, hq⟩ : ∃ q, q = w3.heap.size := ⟨_, rfl⟩
  rw [← hq] at hq4 hgq hqB ⊢
  have Hr4 := hide (Hr3.out.below hb4 Hr3.out.lt)
  have Hb4 := hide (Hb3.out.trans (hb4.mono Hb3.out.size))
  have Hq4 := hide hq4
  clear hw4 hb4 hq4 hq Hb3 Hr3
  refine (HR1.out w4 Hb4.out).mono ?_
  rintro y4 w5 ⟨rfl, hb5⟩
  have Hb5 := hide (Hb4.out.trans (hb5.mono Hb4.out.size))
  have Hr5 := hide (Hr4.out.below hb5 Hr4.out.lt)
  have hq5 := Hq4.out.below hb5 Hq4.out.lt
  have k0 := hq5.cell 0
  have f0 := hq5.free 0
  have k1 := hq5.cell 1
  have f1 := hq5.free 1
  simp only [List.getElem?_cons_zero, List.getElem?_cons_succ] at k0 k1
  have Hq6 := hide ((hq5.put 0 (.int .i64 a)).put 1 (.int .i64 an))
  have Hr6 := hide ((Hr5.out.off hgq (i := 0) (.int .i64 a)).off hgq (i := 1) (.int .i64 an))
  have Hb6 := hide ((Hb5.out.setCell (p := ⟨q, 0, none⟩) hqB (.int .i64 a)).setCell (p := ⟨q, 1, none⟩) hqB (.int .i64 an))
  clear hb5 hq5 Hb4 Hr4 Hq4 Hb5 Hr5
  go_wp2_with fail
  refine (HR2.out _ Hb6.out).mono ?_
  clear k0 f0 k1 f1
  rintro y6 w7 ⟨rfl, hb7⟩
  have Hb7 := hide (Hb6.out.trans (hb7.mono Hb6.out.size))
  have Hr7 := hide (Hr6.out.below hb7 Hr6.out.lt)
  have hq7 := Hq6.out.below hb7 Hq6.out.lt
  have k2 := hq7.cell 2
  have f2 := hq7.free 2
  have k3 := hq7.cell 3
  have f3 := hq7.free 3
  simp only [List.set_cons_zero, List.set_cons_succ, List.getElem?_cons_zero, List.getElem?_cons_succ] at k2 k3
  have hq8 := (hq7.put 2 (.int .i64 b)).put 3 (.int .i64 bn)
  simp only [List.set_cons_zero, List.set_cons_succ] at hq8
  have Hr8 := hide ((Hr7.out.off hgq (i := 2) (.int .i64 b)).off hgq (i := 3) (.int .i64 bn))
  have Hb8 := hide ((Hb7.out.setCell (p := ⟨q, 2, none⟩) hqB (.int .i64 b)).setCell (p := ⟨q, 3, none⟩) hqB (.int .i64 bn))
  clear hb7 hq7 Hb6 Hr6 Hq6 Hb7 Hr7
  go_upto_region 6 with fail
  clear k2 f2 k3 f3
  obtain ⟨w8, hw8⟩ : ∃ w8, w8 = (w7.setCell ⟨q, 2, none⟩ (.int .i64 b)).setCell ⟨q, 3, none⟩ (.int .i64 bn) := ⟨_, rfl⟩
  rw [← hw8] at Hr8 Hb8 hq8 ⊢
  have m0 := hq8.drew.cell 0
  have m1 := hq8.drew.cell 1
  have m2 := hq8.drew.cell 2
  have m3 := hq8.drew.cell 3
  have m4 := hq8.drew.cell 4
  simp only [List.getElem?_cons_zero, List.getElem?_cons_succ] at m0 m1 m2 m3 m4
  have Hq8 := hide hq8
  clear hw8 hq8
  have Hb9 := hide Hb8.out.drew
  have hgB : w.heap.size ≤ g := by rw [Hg.out]; exact Nat.le_refl _
  clear m0 m1 m2 m3 m4
  have m0 := Hq8.out.drew.cell 0
  have m1 := Hq8.out.drew.cell 1
  have m2 := Hq8.out.drew.cell 2
  have m3 := Hq8.out.drew.cell 3
  have m4 := Hq8.out.drew.cell 4
  simp only [List.getElem?_cons_zero, List.getElem?_cons_succ] at m0 m1 m2 m3 m4
  by_cases hA : 0 ≤ a
  · by_cases hB : 0 ≤ b
    · have dA : decide (0 ≤ a) = true := decide_eq_true hA
      have dB : decide (0 ≤ b) = true := decide_eq_true hB
      obtain ⟨bb, hbb⟩ : ∃ bb : Bool, bb = (headT a an b bn == s) := ⟨_, rfl⟩
      have hbeq : (headT a an b bn == s) = bb := hbb.symm
      have Hbb := hide hbb
      clear hbb
      obtain ⟨hT, hhT⟩ : ∃ hT, hT = headT a an b bn := ⟨_, rfl⟩
      rw [← hhT] at HH hbeq Hbb
      have Hht := hide hhT
      clear hhT
      refine Rg.wp_region_ord (fun w' => w'.cell? ⟨q, 0, none⟩ = some (.int .i64 a) ∧ w'.cell? ⟨q, 1, none⟩ = some (.int .i64 an) ∧ w'.cell? ⟨q, 2, none⟩ = some (.int .i64 b) ∧ w'.cell? ⟨q, 3, none⟩ = some (.int .i64 bn) ∧ w'.cell? ⟨q, 4, none⟩ = some (.slice none 0 0)) [(0, true), (1, true), (2, true), (3, true), (4, true), (5, true), (6, true), (7, true), (8, true), (9, true), (10, true), (12, true), (11, false), (13, true), (14, true), (15, false), (16, true)] (by kernel_rfl) (by kernel_rfl) ?_
      simp only [Rg.pick, List.map_cons, List.map_nil, List.getD_cons_zero, List.getD_cons_succ]
      iterate 5 (refine Rg.ord_quiet (v := ?_) rfl (fun w' hS => ?_) ⟨m0, m1, m2, m3, m4⟩ ?_; rotate_left; (obtain ⟨s0, s1, s2, s3, s4⟩ := hS; go_simp; with_reducible rfl); simp only [Act.put, List.setIfInBounds_toArray, List.set_cons_succ, List.set_cons_zero])
      iterate 3 (refine Rg.ord_guarded (v := ?_) (by rfl) (fun w' hS => ?_) ⟨m0, m1, m2, m3, m4⟩ ?_; rotate_left; (obtain ⟨s0, s1, s2, s3, s4⟩ := hS; go_simp; with_reducible rfl); simp only [Act.put, List.setIfInBounds_toArray, List.set_cons_succ, List.set_cons_zero])
      iterate 2 (refine Rg.ord_quiet (v := ?_) rfl (fun w' hS => ?_) ⟨m0, m1, m2, m3, m4⟩ ?_; rotate_left; (obtain ⟨s0, s1, s2, s3, s4⟩ := hS; go_simp; with_reducible rfl); simp only [Act.put, List.setIfInBounds_toArray, List.set_cons_succ, List.set_cons_zero])
      iterate 2 (refine Rg.ord_guarded (v := ?_) (by rfl) (fun w' hS => ?_) ⟨m0, m1, m2, m3, m4⟩ ?_; rotate_left; (obtain ⟨s0, s1, s2, s3, s4⟩ := hS; go_simp; with_reducible rfl); simp only [Act.put, List.setIfInBounds_toArray, List.set_cons_succ, List.set_cons_zero])
      refine Rg.ord_loud (by rfl) (fun K hK => ?_)
      go_simp
      refine (HH.out _ Hb8.out.drew hA hB).mono ?_
      rintro y9 w9 ⟨rfl, hb9⟩
      have Hb9 := hide (Hb8.out.drew.trans (hb9.mono Hb8.out.drew.size))
      have Hr9 := hide (Hr8.out.drew.below hb9 Hr8.out.drew.lt)
      have Hq9 := hide (Hq8.out.drew.below hb9 Hq8.out.drew.lt)
      have p0 := Hq9.out.cell 0
      have p1 := Hq9.out.cell 1
      have p2 := Hq9.out.cell 2
      have p3 := Hq9.out.cell 3
      have p4 := Hq9.out.cell 4
      simp only [List.getElem?_cons_zero, List.getElem?_cons_succ] at p0 p1 p2 p3 p4
      refine hK _ _ (fun _ => ⟨p0, p1, p2, p3, p4⟩) ?_
      clear hK K hb9 m0 m1 m2 m3 m4
      try simp only [Act.put, List.setIfInBounds_toArray, List.set_cons_succ, List.set_cons_zero]
      iterate 1 (refine Rg.ord_guarded (v := ?_) (by rfl) (fun w' hS => ?_) ⟨p0, p1, p2, p3, p4⟩ ?_; rotate_left; (obtain ⟨s0, s1, s2, s3, s4⟩ := hS; go_simp; with_reducible rfl); simp only [Act.put, List.setIfInBounds_toArray, List.set_cons_succ, List.set_cons_zero])
      iterate 1 (refine Rg.ord_quiet (v := ?_) rfl (fun w' hS => ?_) ⟨p0, p1, p2, p3, p4⟩ ?_; rotate_left; (obtain ⟨s0, s1, s2, s3, s4⟩ := hS; go_simp; with_reducible rfl); simp only [Act.put, List.setIfInBounds_toArray, List.set_cons_succ, List.set_cons_zero])
      have z0 := Hr9.out.cell 0
      have z1 := Hr9.out.cell 1
      have z2 := Hr9.out.cell 2
      have z3 := Hr9.out.cell 3
      have z4 := Hr9.out.cell 4
      have y0 := Hr9.out.free 0
      have y1 := Hr9.out.free 1
      have y2 := Hr9.out.free 2
      have y3 := Hr9.out.free 3
      have y4 := Hr9.out.free 4
      simp only [List.getElem?_cons_zero, List.getElem?_cons_succ] at z0 z1 z2 z3 z4
      have hqf := ((((Hq9.out.off (Ne.symm hgq) (i := 0) (.int .i64 a)).off (Ne.symm hgq) (i := 1) (.int .i64 an)).off (Ne.symm hgq) (i := 2) (.int .i64 b)).off (Ne.symm hgq) (i := 3) (.int .i64 bn)).off (Ne.symm hgq) (i := 4) (.slice none 0 0)
      have v0 := hqf.cell 0
      have v1 := hqf.cell 1
      have v2 := hqf.cell 2
      have v3 := hqf.cell 3
      have v4 := hqf.cell 4
      simp only [List.getElem?_cons_zero, List.getElem?_cons_succ] at v0 v1 v2 v3 v4
      refine Rg.ord_loud rfl (fun K hK => ?_)
      go_simp
      refine hK _ _ (fun _ => ⟨v0, v1, v2, v3, v4⟩) ?_
      clear hK K z0 z1 z2 z3 z4 y0 y1 y2 y3 y4 hqf
      try simp only [Act.put, List.setIfInBounds_toArray, List.set_cons_succ, List.set_cons_zero]
      iterate 1 (refine Rg.ord_quiet (v := ?_) rfl (fun w' hS => ?_) ⟨v0, v1, v2, v3, v4⟩ ?_; rotate_left; (obtain ⟨s0, s1, s2, s3, s4⟩ := hS; go_simp; with_reducible rfl); simp only [Act.put, List.setIfInBounds_toArray, List.set_cons_succ, List.set_cons_zero])
      clear v0 v1 v2 v3 v4
      have hrf := ((((Hr9.out.put 0 (.int .i64 a)).put 1 (.int .i64 an)).put 2 (.int .i64 b)).put 3 (.int .i64 bn)).put 4 (.slice none 0 0)
      simp only [List.set_cons_zero, List.set_cons_succ] at hrf
      have z0 := hrf.cell 0
      have z1 := hrf.cell 1
      have z2 := hrf.cell 2
      have z3 := hrf.cell 3
      have z4 := hrf.cell 4
      simp only [List.getElem?_cons_zero, List.getElem?_cons_succ] at z0 z1 z2 z3 z4
      refine Rg.ord_nil ?_
      go_wp2
      have hbf := ((((((Hb9.out.setCell (p := ⟨g, 0, none⟩) hgB (.int .i64 a)).setCell (p := ⟨g, 1, none⟩) hgB (.int .i64 an)).setCell (p := ⟨g, 2, none⟩) hgB (.int .i64 b)).setCell (p := ⟨g, 3, none⟩) hgB (.int .i64 bn)).setCell (p := ⟨g, 4, none⟩) hgB (.slice none 0 0)))
      unfold Row at hrf
      refine bodyPost_ret (results_ct rfl _ _ g tH _ (0, 0) _ rfl hrf Tryz.underlying36 rfl sizeHk) rfl ⟨by rw [HOk.out, show decide (0 ≤ a ∧ 0 ≤ b ∧ headT a an b bn = s) = bb from by rw [Hbb.out, ← Hht.out, Bool.eq_iff_iff, decide_eq_true_iff, beq_iff_eq]; exact ⟨fun h => h.2.2, fun h => ⟨by omega, by omega, h⟩⟩]; rfl, hbf⟩
    · have dA : decide (0 ≤ a) = true := decide_eq_true hA
      have dB : decide (0 ≤ b) = false := decide_eq_false hB
      refine Rg.wp_region_ord (fun w' => w'.cell? ⟨q, 0, none⟩ = some (.int .i64 a) ∧ w'.cell? ⟨q, 1, none⟩ = some (.int .i64 an) ∧ w'.cell? ⟨q, 2, none⟩ = some (.int .i64 b) ∧ w'.cell? ⟨q, 3, none⟩ = some (.int .i64 bn) ∧ w'.cell? ⟨q, 4, none⟩ = some (.slice none 0 0)) [(0, true), (1, true), (2, true), (3, true), (4, true), (5, true), (6, true), (7, true), (8, true), (9, true), (10, true), (11, true), (12, true), (13, true), (14, true), (15, false), (16, true)] (by kernel_rfl) (by kernel_rfl) ?_
      simp only [Rg.pick, List.map_cons, List.map_nil, List.getD_cons_zero, List.getD_cons_succ]
      iterate 5 (refine Rg.ord_quiet (v := ?_) rfl (fun w' hS => ?_) ⟨m0, m1, m2, m3, m4⟩ ?_; rotate_left; (obtain ⟨s0, s1, s2, s3, s4⟩ := hS; go_simp; with_reducible rfl); simp only [Act.put, List.setIfInBounds_toArray, List.set_cons_succ, List.set_cons_zero])
      iterate 3 (refine Rg.ord_guarded (v := ?_) (by rfl) (fun w' hS => ?_) ⟨m0, m1, m2, m3, m4⟩ ?_; rotate_left; (obtain ⟨s0, s1, s2, s3, s4⟩ := hS; go_simp; with_reducible rfl); simp only [Act.put, List.setIfInBounds_toArray, List.set_cons_succ, List.set_cons_zero])
      iterate 2 (refine Rg.ord_quiet (v := ?_) rfl (fun w' hS => ?_) ⟨m0, m1, m2, m3, m4⟩ ?_; rotate_left; (obtain ⟨s0, s1, s2, s3, s4⟩ := hS; go_simp; with_reducible rfl); simp only [Act.put, List.setIfInBounds_toArray, List.set_cons_succ, List.set_cons_zero])
      iterate 4 (refine Rg.ord_passed (by rfl) ⟨m0, m1, m2, m3, m4⟩ ?_; simp only [Act.put, List.setIfInBounds_toArray, List.set_cons_succ, List.set_cons_zero])
      iterate 1 (refine Rg.ord_quiet (v := ?_) rfl (fun w' hS => ?_) ⟨m0, m1, m2, m3, m4⟩ ?_; rotate_left; (obtain ⟨s0, s1, s2, s3, s4⟩ := hS; go_simp; with_reducible rfl); simp only [Act.put, List.setIfInBounds_toArray, List.set_cons_succ, List.set_cons_zero])
      have z0 := Hr8.out.cell 0
      have z1 := Hr8.out.cell 1
      have z2 := Hr8.out.cell 2
      have z3 := Hr8.out.cell 3
      have z4 := Hr8.out.cell 4
      have y0 := Hr8.out.free 0
      have y1 := Hr8.out.free 1
      have y2 := Hr8.out.free 2
      have y3 := Hr8.out.free 3
      have y4 := Hr8.out.free 4
      simp only [List.getElem?_cons_zero, List.getElem?_cons_succ] at z0 z1 z2 z3 z4
      have hqf := ((((Hq8.out.off (Ne.symm hgq) (i := 0) (.int .i64 a)).off (Ne.symm hgq) (i := 1) (.int .i64 an)).off (Ne.symm hgq) (i := 2) (.int .i64 b)).off (Ne.symm hgq) (i := 3) (.int .i64 bn)).off (Ne.symm hgq) (i := 4) (.slice none 0 0)
      have v0 := hqf.drew.cell 0
      have v1 := hqf.drew.cell 1
      have v2 := hqf.drew.cell 2
      have v3 := hqf.drew.cell 3
      have v4 := hqf.drew.cell 4
      simp only [List.getElem?_cons_zero, List.getElem?_cons_succ] at v0 v1 v2 v3 v4
      refine Rg.ord_loud rfl (fun K hK => ?_)
      go_simp
      refine hK _ _ (fun _ => ⟨v0, v1, v2, v3, v4⟩) ?_
      clear hK K z0 z1 z2 z3 z4 y0 y1 y2 y3 y4 hqf
      try simp only [Act.put, List.setIfInBounds_toArray, List.set_cons_succ, List.set_cons_zero]
      iterate 1 (refine Rg.ord_quiet (v := ?_) rfl (fun w' hS => ?_) ⟨v0, v1, v2, v3, v4⟩ ?_; rotate_left; (obtain ⟨s0, s1, s2, s3, s4⟩ := hS; go_simp; with_reducible rfl); simp only [Act.put, List.setIfInBounds_toArray, List.set_cons_succ, List.set_cons_zero])
      clear v0 v1 v2 v3 v4
      have hrf := ((((Hr8.out.put 0 (.int .i64 a)).put 1 (.int .i64 an)).put 2 (.int .i64 b)).put 3 (.int .i64 bn)).put 4 (.slice none 0 0)
      simp only [List.set_cons_zero, List.set_cons_succ] at hrf
      have z0 := hrf.drew.cell 0
      have z1 := hrf.drew.cell 1
      have z2 := hrf.drew.cell 2
      have z3 := hrf.drew.cell 3
      have z4 := hrf.drew.cell 4
      simp only [List.getElem?_cons_zero, List.getElem?_cons_succ] at z0 z1 z2 z3 z4
      refine Rg.ord_nil ?_
      go_wp2
      have hbf := ((((((Hb8.out.setCell (p := ⟨g, 0, none⟩) hgB (.int .i64 a)).setCell (p := ⟨g, 1, none⟩) hgB (.int .i64 an)).setCell (p := ⟨g, 2, none⟩) hgB (.int .i64 b)).setCell (p := ⟨g, 3, none⟩) hgB (.int .i64 bn)).setCell (p := ⟨g, 4, none⟩) hgB (.slice none 0 0))).drew
      unfold Row at hrf
      refine bodyPost_ret (results_ct rfl _ _ g tH _ (0, 0) _ rfl hrf Tryz.underlying36 rfl sizeHk) rfl ⟨by rw [HOk.out, decide_eq_false (fun h => absurd h.2.1 (by omega))]; rfl, hbf⟩
  · have dA : decide (0 ≤ a) = false := decide_eq_false hA
    refine Rg.wp_region_ord (fun w' => w'.cell? ⟨q, 0, none⟩ = some (.int .i64 a) ∧ w'.cell? ⟨q, 1, none⟩ = some (.int .i64 an) ∧ w'.cell? ⟨q, 2, none⟩ = some (.int .i64 b) ∧ w'.cell? ⟨q, 3, none⟩ = some (.int .i64 bn) ∧ w'.cell? ⟨q, 4, none⟩ = some (.slice none 0 0)) [(0, true), (1, true), (2, true), (3, true), (4, true), (5, true), (6, true), (7, true), (8, true), (9, true), (10, true), (11, true), (12, true), (13, true), (14, true), (15, false), (16, true)] (by kernel_rfl) (by kernel_rfl) ?_
    simp only [Rg.pick, List.map_cons, List.map_nil, List.getD_cons_zero, List.getD_cons_succ]
    iterate 5 (refine Rg.ord_quiet (v := ?_) rfl (fun w' hS => ?_) ⟨m0, m1, m2, m3, m4⟩ ?_; rotate_left; (obtain ⟨s0, s1, s2, s3, s4⟩ := hS; go_simp; with_reducible rfl); simp only [Act.put, List.setIfInBounds_toArray, List.set_cons_succ, List.set_cons_zero])
    iterate 3 (refine Rg.ord_passed (by rfl) ⟨m0, m1, m2, m3, m4⟩ ?_; simp only [Act.put, List.setIfInBounds_toArray, List.set_cons_succ, List.set_cons_zero])
    iterate 2 (refine Rg.ord_quiet (v := ?_) rfl (fun w' hS => ?_) ⟨m0, m1, m2, m3, m4⟩ ?_; rotate_left; (obtain ⟨s0, s1, s2, s3, s4⟩ := hS; go_simp; with_reducible rfl); simp only [Act.put, List.setIfInBounds_toArray, List.set_cons_succ, List.set_cons_zero])
    iterate 4 (refine Rg.ord_passed (by rfl) ⟨m0, m1, m2, m3, m4⟩ ?_; simp only [Act.put, List.setIfInBounds_toArray, List.set_cons_succ, List.set_cons_zero])
    iterate 1 (refine Rg.ord_quiet (v := ?_) rfl (fun w' hS => ?_) ⟨m0, m1, m2, m3, m4⟩ ?_; rotate_left; (obtain ⟨s0, s1, s2, s3, s4⟩ := hS; go_simp; with_reducible rfl); simp only [Act.put, List.setIfInBounds_toArray, List.set_cons_succ, List.set_cons_zero])
    have z0 := Hr8.out.cell 0
    have z1 := Hr8.out.cell 1
    have z2 := Hr8.out.cell 2
    have z3 := Hr8.out.cell 3
    have z4 := Hr8.out.cell 4
    have y0 := Hr8.out.free 0
    have y1 := Hr8.out.free 1
    have y2 := Hr8.out.free 2
    have y3 := Hr8.out.free 3
    have y4 := Hr8.out.free 4
    simp only [List.getElem?_cons_zero, List.getElem?_cons_succ] at z0 z1 z2 z3 z4
    have hqf := ((((Hq8.out.off (Ne.symm hgq) (i := 0) (.int .i64 a)).off (Ne.symm hgq) (i := 1) (.int .i64 an)).off (Ne.symm hgq) (i := 2) (.int .i64 b)).off (Ne.symm hgq) (i := 3) (.int .i64 bn)).off (Ne.symm hgq) (i := 4) (.slice none 0 0)
    have v0 := hqf.drew.cell 0
    have v1 := hqf.drew.cell 1
    have v2 := hqf.drew.cell 2
    have v3 := hqf.drew.cell 3
    have v4 := hqf.drew.cell 4
    simp only [List.getElem?_cons_zero, List.getElem?_cons_succ] at v0 v1 v2 v3 v4
    refine Rg.ord_loud rfl (fun K hK => ?_)
    go_simp
    refine hK _ _ (fun _ => ⟨v0, v1, v2, v3, v4⟩) ?_
    clear hK K z0 z1 z2 z3 z4 y0 y1 y2 y3 y4 hqf
    try simp only [Act.put, List.setIfInBounds_toArray, List.set_cons_succ, List.set_cons_zero]
    iterate 1 (refine Rg.ord_quiet (v := ?_) rfl (fun w' hS => ?_) ⟨v0, v1, v2, v3, v4⟩ ?_; rotate_left; (obtain ⟨s0, s1, s2, s3, s4⟩ := hS; go_simp; with_reducible rfl); simp only [Act.put, List.setIfInBounds_toArray, List.set_cons_succ, List.set_cons_zero])
    clear v0 v1 v2 v3 v4
    have hrf := ((((Hr8.out.put 0 (.int .i64 a)).put 1 (.int .i64 an)).put 2 (.int .i64 b)).put 3 (.int .i64 bn)).put 4 (.slice none 0 0)
    simp only [List.set_cons_zero, List.set_cons_succ] at hrf
    have z0 := hrf.drew.cell 0
    have z1 := hrf.drew.cell 1
    have z2 := hrf.drew.cell 2
    have z3 := hrf.drew.cell 3
    have z4 := hrf.drew.cell 4
    simp only [List.getElem?_cons_zero, List.getElem?_cons_succ] at z0 z1 z2 z3 z4
    refine Rg.ord_nil ?_
    go_wp2
    have hbf := ((((((Hb8.out.setCell (p := ⟨g, 0, none⟩) hgB (.int .i64 a)).setCell (p := ⟨g, 1, none⟩) hgB (.int .i64 an)).setCell (p := ⟨g, 2, none⟩) hgB (.int .i64 b)).setCell (p := ⟨g, 3, none⟩) hgB (.int .i64 bn)).setCell (p := ⟨g, 4, none⟩) hgB (.slice none 0 0))).drew
    unfold Row at hrf
    refine bodyPost_ret (results_ct rfl _ _ g tH _ (0, 0) _ rfl hrf Tryz.underlying36 rfl sizeHk) rfl ⟨by rw [HOk.out, decide_eq_false (fun h => absurd h.1 (by omega))]; rfl, hbf⟩
end Go.Proofs.YtnehgogajghefaaGreatDoor.Un
