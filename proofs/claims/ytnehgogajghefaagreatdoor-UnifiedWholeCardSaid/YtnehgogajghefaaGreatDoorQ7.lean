/-
  unified: side, head.
-/
import Derived.Test.YtnehgogajghefaaGreatDoorQ6
import Derived.Lib.ItoaLen
import Derived.Test.YtnehgogajghefaaGreatDoorQ2
import Derived.Deep.CutRange
import Derived.Deep.CutBlock
import Derived.Shelf.Strings.BuilderK
import Derived.Test.YtnehgogajghefaaGreatDoorShelf
import Derived.Test.YtnehgogajghefaaGreatDoorProg
import Derived.Test.YtnehgogajghefaaGreatDoorHM
import Derived.Test.YtnehgogajghefaaGreatDoorIF
import Derived.Test.YtnehgogajghefaaGreatDoorQ1
namespace Go.Proofs.YtnehgogajghefaaGreatDoor.Un
open Go Go.RowKit Kt Lw Li Df Hu

set_option maxRecDepth 100000 in
set_option maxHeartbeats 1000000 in
theorem side_any (p m : Int) (w : World) (hE : Env w) (hp : 0 ≤ p ∧ p ≤ 4503599627370496) (hm : 0 ≤ m ∧ m ≤ 4503599627370496) :
    Calls Tryz.prog 45 #[.int .i64 p, .int .i64 m] w fun y w' => y = .returned (.string ⟨(sideT p m).toArray⟩) ∧ Below w.heap.size w w' := by
  have HP := hide (place_any p m w (by omega) hm)
  have hpl : 0 ≤ plc p m ∧ plc p m ≤ 4503599627370497 := by unfold plc; omega
  have HT := hide (show sideT p m = (Lib.itoa (plc p m) ++ [44]) ++ Lib.itoa m by simp [sideT])
  have HI1 := hide (Tryz.strconv_Itoa (plc p m) (by omega) (by omega) w hE.tab)
  have HI2 := hide (fun w' (hb : Below w.heap.size w w') => Tryz.strconv_Itoa m (by omega) (by omega) w' (hE.keep hb).tab)
  have hl1 := Lib.itoa_length_le (plc p m) (by omega) (by omega)
  have hl2 := Lib.itoa_length_le m (by omega) (by omega)
  clear hE hp hm hpl
  generalize plc p m = q at *
  generalize Lib.itoa q = x at *
  generalize Lib.itoa m = y at *
  have ea := app_txt x [44]
  have eb := app_txt (x ++ [44]) y
  have hlx : (x ++ [44]).length ≤ 22 := by simp; omega
  generalize hz : x ++ [44] = z at *
  clear hz
  have hX1 : ¬ 9223372036854775807 < x.length + 1 := by omega
  have hX2 : ¬ 9223372036854775807 < z.length + y.length := by omega
  go_enter Tryz.func45, Tryz.ntmps45
  go_wp2_with fail
  refine HP.out.mono ?_
  rintro u w1 ⟨rfl, rfl⟩
  go_wp2_with fail
  refine HI1.out.mono ?_
  rintro u w2 ⟨rfl, k, os, rfl⟩
  have hb1 := grow_below w1 k os
  generalize Sort.grow (w1.drewN k) os = w2 at *
  go_wp2_with fail
  refine (HI2.out _ hb1).mono ?_
  rintro u w3 ⟨rfl, k2, os2, rfl⟩
  have hb2 := hb1.trans ((grow_below w2 k2 os2).mono hb1.size)
  generalize Sort.grow (w2.drewN k2) os2 = w3 at *
  go_wp2
  go_ret
  exact ⟨by rw [HT.out]; rfl, hb2⟩
theorem side_len {p m : Int} (hp : 0 ≤ p ∧ p ≤ 4503599627370496) (hm : 0 ≤ m ∧ m ≤ 4503599627370496) : (sideT p m).length ≤ 43 := by
  have hpl : 0 ≤ plc p m ∧ plc p m ≤ 4503599627370497 := by unfold plc; omega
  have hl1 := Lib.itoa_length_le (plc p m) (by omega) (by omega)
  have hl2 := Lib.itoa_length_le m (by omega) (by omega)
  rw [sideT, List.length_append, List.length_cons]
  omega
set_option maxRecDepth 100000 in
set_option maxHeartbeats 1000000 in
theorem head_any (a an b bn : Int) (v : Value) (_hv : v.oneCell' = true) (w : World) (hE : Env w) (ha : 0 ≤ a ∧ a ≤ 4503599627370496) (han : 0 ≤ an ∧ an ≤ 4503599627370496) (hb0 : 0 ≤ b ∧ b ≤ 4503599627370496) (hbn : 0 ≤ bn ∧ bn ≤ 4503599627370496) :
    Calls Tryz.prog 26 #[.agg #[.int .i64 a, .int .i64 an, .int .i64 b, .int .i64 bn, v]] w fun y w' => y = .returned (.string ⟨(headT a an b bn).toArray⟩) ∧ Below w.heap.size w w' := by
  go_enter Tryz.func26, Tryz.ntmps26
  go_wp2
  obtain ⟨w1, hw1⟩ : ∃ w1, w1 = w.alloc (.cells #[.int .i64 a, .int .i64 an, .int .i64 b, .int .i64 bn, v] tH) := ⟨_, rfl⟩
  have hb1 : Below w.heap.size w w1 := by rw [hw1]; exact (Below.refl _ w).alloc (Nat.le_refl _) _
  have hrow : Row w1 w.heap.size tH [.int .i64 a, .int .i64 an, .int .i64 b, .int .i64 bn, v] := by rw [hw1]; exact Row.fresh w tH _
  rw [← hw1]
  have c0 := hrow.cell 0
  have c1 := hrow.cell 1
  have c2 := hrow.cell 2
  have c3 := hrow.cell 3
  simp only [List.getElem?_cons_zero, List.getElem?_cons_succ] at c0 c1 c2 c3
  obtain ⟨g, hg⟩ : ∃ g, g = w.heap.size := ⟨_, rfl⟩
  rw [← hg] at c0 c1 c2 c3 ⊢
  have HT := hide (show headT a an b bn = (((opensB ++ sideT a an) ++ plusB) ++ sideT b bn) ++ closesB by simp [headT])
  have HS1 := hide (fun w' (hb : Below w.heap.size w w') => side_any a an w' (hE.keep hb) ha han)
  have HS2 := hide (fun w' (hb : Below w.heap.size w w') => side_any b bn w' (hE.keep hb) hb0 hbn)
  have hx := side_len ha han
  have hy := side_len hb0 hbn
  obtain ⟨x, hx'⟩ : ∃ x, x = sideT a an := ⟨_, rfl⟩
  obtain ⟨y, hy'⟩ : ∃ y, y = sideT b bn := ⟨_, rfl⟩
  rw [← hx'] at HT HS1 hx
  rw [← hy'] at HT HS2 hy
  have Hb1 := hide hb1
  have e1 := app_txt [64, 64, 32, 45] x
  have e2 := app_txt ([64, 64, 32, 45] ++ x) [32, 43]
  have e3 := app_txt (([64, 64, 32, 45] ++ x) ++ [32, 43]) y
  have e4 := app_txt ((([64, 64, 32, 45] ++ x) ++ [32, 43]) ++ y) [32, 64, 64, 10]
  obtain ⟨p1, hp1⟩ : ∃ p1, p1 = [64, 64, 32, 45] ++ x := ⟨_, rfl⟩
  have l1 : p1.length ≤ 100 := by rw [hp1]; simp; omega
  rw [← hp1] at e1 e2 e3 e4
  obtain ⟨p2, hp2⟩ : ∃ p2, p2 = p1 ++ [32, 43] := ⟨_, rfl⟩
  have l2 : p2.length ≤ 102 := by rw [hp2]; simp; omega
  rw [← hp2] at e2 e3 e4
  obtain ⟨p3, hp3⟩ : ∃ p3, p3 = p2 ++ y := ⟨_, rfl⟩
  have l3 : p3.length ≤ 200 := by rw [hp3]; simp; omega
  rw [← hp3] at e3 e4
  have HT2 := hide (show headT a an b bn = p3 ++ [32, 64, 64, 10] by rw [HT.out, hp3, hp2, hp1]; rfl)
  have X1 : ¬ 9223372036854775807 < 4 + x.length := by omega
  have X2 : ¬ 9223372036854775807 < p1.length + 2 := by omega
  have X3 : ¬ 9223372036854775807 < p2.length + y.length := by omega
  have X4 : ¬ 9223372036854775807 < p3.length + 4 := by omega
  have Hg := hide hg
  clear hE ha han hb0 hbn hw1 hb1 hrow hx' hy' hp1 hp2 hp3 hg HT
  refine Rg.wp_region_ord (fun w' => w'.cell? ⟨g, 0, none⟩ = some (.int .i64 a) ∧ w'.cell? ⟨g, 1, none⟩ = some (.int .i64 an) ∧ w'.cell? ⟨g, 2, none⟩ = some (.int .i64 b) ∧ w'.cell? ⟨g, 3, none⟩ = some (.int .i64 bn)) [(0, true), (1, true), (2, true), (3, true), (7, true), (8, true), (9, true), (10, true), (4, false), (5, true), (6, true), (11, false), (12, true), (13, true), (14, true)] (by kernel_rfl) (by kernel_rfl) ?_
  simp only [Rg.pick, List.map_cons, List.map_nil, List.getD_cons_zero, List.getD_cons_succ]
  iterate 8 (refine Rg.ord_quiet (v := ?_) rfl (fun w' hS => ?_) ⟨c0, c1, c2, c3⟩ ?_; rotate_left; (obtain ⟨s0, s1, s2, s3⟩ := hS; go_simp; with_reducible rfl); simp only [Act.put, List.setIfInBounds_toArray, List.set_cons_succ, List.set_cons_zero])
  refine Rg.ord_loud rfl (fun K hK => ?_)
  go_simp
  refine (HS1.out _ Hb1.out.drew).mono ?_
  rintro u w2 ⟨rfl, hb2⟩
  have Hb2 := hide (Hb1.out.drew.trans (hb2.mono Hb1.out.drew.size))
  have d0 := cell_keep hb2 (show w1.drew.cell? _ = _ from c0)
  have d1 := cell_keep hb2 (show w1.drew.cell? _ = _ from c1)
  have d2 := cell_keep hb2 (show w1.drew.cell? _ = _ from c2)
  have d3 := cell_keep hb2 (show w1.drew.cell? _ = _ from c3)
  refine hK _ _ (fun _ => ⟨d0, d1, d2, d3⟩) ?_
  clear hK K c0 c1 c2 c3 hb2
  try simp only [Act.put, List.setIfInBounds_toArray, List.set_cons_succ, List.set_cons_zero]
  iterate 2 (refine Rg.ord_quiet (v := ?_) rfl (fun w' hS => ?_) ⟨d0, d1, d2, d3⟩ ?_; rotate_left; (obtain ⟨s0, s1, s2, s3⟩ := hS; go_simp; with_reducible rfl); simp only [Act.put, List.setIfInBounds_toArray, List.set_cons_succ, List.set_cons_zero])
  refine Rg.ord_loud rfl (fun K hK => ?_)
  go_simp
  refine (HS2.out _ Hb2.out).mono ?_
  rintro u w3 ⟨rfl, hb3⟩
  have Hb3 := hide (Hb2.out.trans (hb3.mono Hb2.out.size))
  have f0 := cell_keep hb3 d0
  have f1 := cell_keep hb3 d1
  have f2 := cell_keep hb3 d2
  have f3 := cell_keep hb3 d3
  refine hK _ _ (fun _ => ⟨f0, f1, f2, f3⟩) ?_
  clear hK K d0 d1 d2 d3 hb3
  try simp only [Act.put, List.setIfInBounds_toArray, List.set_cons_succ, List.set_cons_zero]
  iterate 3 (refine Rg.ord_quiet (v := ?_) rfl (fun w' hS => ?_) ⟨f0, f1, f2, f3⟩ ?_; rotate_left; (obtain ⟨s0, s1, s2, s3⟩ := hS; go_simp; with_reducible rfl); simp only [Act.put, List.setIfInBounds_toArray, List.set_cons_succ, List.set_cons_zero])
  refine Rg.ord_nil ?_
  go_wp2
  go_ret
  exact ⟨by rw [HT2.out]; rfl, Hb3.out⟩
end Go.Proofs.YtnehgogajghefaaGreatDoor.Un
namespace Go.Proofs.YtnehgogajghefaaGreatDoor.Un
open Go Go.RowKit Kt Lw Li Df Hu

theorem all_take (p : List UInt8 → Bool) (L : Ls) (k : Nat) (hk : k < L.length) : (L.take (k + 1)).all p = ((L.take k).all p && p (L.getD k [])) := by
  rw [List.take_succ_eq_append_getElem hk, List.all_append]
  simp [List.getElem?_eq_getElem hk]
theorem all_no (p : List UInt8 → Bool) (L : Ls) (k : Nat) (hk : k < L.length) (h : p (L.getD k []) = false) : L.all p = false := by
  rw [List.all_eq_false]
  refine ⟨L[k], List.getElem_mem hk, ?_⟩
  simp [List.getElem?_eq_getElem hk] at h
  simp [h]
set_option maxRecDepth 100000 in
set_option maxHeartbeats 2000000 in
theorem tellable_any (ha han hb hbn : Int) (L : Ls) (A : Option Addr) (c : Nat) (P : Nat → Prop) (w : World) (hs : Vs w P A c (texts L)) (hn : L.length ≤ 1000000) (hx : ∀ x ∈ L, x.length ≤ 9223372036854775807)
    (h1 : -4503599627370496 ≤ ha ∧ ha ≤ 4503599627370496) (h2 : -4503599627370496 ≤ hb ∧ hb ≤ 4503599627370496) :
    Calls Tryz.prog 24 #[.agg #[.int .i64 ha, .int .i64 han, .int .i64 hb, .int .i64 hbn, .slice A L.length c]] w fun y w' => y = .returned (.bool (tell ⟨ha, han, hb, hbn, L⟩)) ∧ Below w.heap.size w w' := by
  have Hs := hide hs.bound
  have HR := hide (fun w' (hb' : Below w.heap.size w w') => hright_any ha han hb hbn L A c _ w' (Lw.Vs.below hs.bound hb') hn)
  have HT := hide (show tell ⟨ha, han, hb, hbn, L⟩ = ((hright ⟨ha, han, hb, hbn, L⟩ && (smlB ha han && smlB hb hbn)) && L.all (fun x => (lns x).length == 1)) from rfl)
  have HX := hide (fun k (hk : k < L.length) => hx (L.getD k []) (by simp [List.getElem?_eq_getElem hk]))
  have HP := hide (fun (e : hright ⟨ha, han, hb, hbn, L⟩ = true) => hright_parts e)
  have HM := hide (show many 45 L ≤ L.length ∧ many 43 L ≤ L.length from ⟨many_le _ _, many_le _ _⟩)
  obtain ⟨N, hN⟩ : ∃ N, N = L.length := ⟨_, rfl⟩
  rw [← hN] at hn HR HX HM ⊢
  have HN := hide hN
  clear hs hx hN
  go_enter Tryz.func24, Tryz.ntmps24
  go_upto_region 1 with fail
  obtain ⟨w1, hw1⟩ : ∃ w1, w1 = w.alloc (.cells #[.int .i64 ha, .int .i64 han, .int .i64 hb, .int .i64 hbn, .slice A N c] tH) := ⟨_, rfl⟩
  have hb1 : Below w.heap.size w w1 := by rw [hw1]; exact (Below.refl _ w).alloc (Nat.le_refl _) _
  have hrow : Row w1 w.heap.size tH [.int .i64 ha, .int .i64 han, .int .i64 hb, .int .i64 hbn, .slice A N c] := by rw [hw1]; exact Row.fresh w tH _
  rw [← hw1]
  have c0 := hrow.cell 0
  have c1 := hrow.cell 1
  have c2 := hrow.cell 2
  have c3 := hrow.cell 3
  have c4 := hrow.cell 4
  simp only [List.getElem?_cons_zero, List.getElem?_cons_succ] at c0 c1 c2 c3 c4
  obtain ⟨g, hg⟩ : ∃ g, g = w.heap.size := ⟨_, rfl⟩
  rw [← hg] at c0 c1 c2 c3 c4 ⊢
  have Hg := hide hg
  have Hb1 := hide hb1
  clear hw1 hb1 hrow hg
  have HR1 := hide (HR.out w1 Hb1.out)
  clear HR
  cases hr : hright ⟨ha, han, hb, hbn, L⟩ with
  | false =>
    rw [hr] at HR1 HT
    have Hno := hide (show tell ⟨ha, han, hb, hbn, L⟩ = false by rw [HT.out]; rfl)
    clear HT HP hr
    go_wp2_with fail
    refine HR1.out.mono ?_
    rintro y w2 ⟨rfl, hb2⟩
    have Hb2 := hide (Hb1.out.trans (hb2.mono Hb1.out.size))
    clear hb2
    go_wp2
    go_ret
    exact ⟨by rw [Hno.out]; rfl, Hb2.out⟩
  | true =>
    obtain ⟨_, _, _, q1, q2⟩ := HP.out hr
    simp only at q1 q2
    have han0 : 0 ≤ han ∧ han ≤ 4503599627370496 := by have := HM.out; omega
    have hbn0 : 0 ≤ hbn ∧ hbn ≤ 4503599627370496 := by have := HM.out; omega
    rw [hr] at HR1 HT
    have HS1 := hide (fun w' => small_any ha han w' h1 han0)
    have HS2 := hide (fun w' => small_any hb hbn w' h2 hbn0)
    clear q1 q2 HP hr
    cases hs1 : smlB ha han with
    | false =>
      rw [hs1] at HS1 HT
      have Hno := hide (show tell ⟨ha, han, hb, hbn, L⟩ = false by rw [HT.out]; rfl)
      clear HT hs1
      go_wp2_with fail
      refine HR1.out.mono ?_
      rintro y w2 ⟨rfl, hb2⟩
      have Hb2 := hide (Hb1.out.trans (hb2.mono Hb1.out.size))
      have d0 := cell_keep hb2 c0
      have d1 := cell_keep hb2 c1
      clear hb2 c0 c1 c2 c3 c4
      go_wp2_with fail
      refine (HS1.out _).mono ?_
      rintro y w3 ⟨rfl, rfl⟩
      go_wp2
      go_ret
      exact ⟨by rw [Hno.out]; rfl, Hb2.out⟩
    | true =>
      rw [hs1] at HS1 HT
      cases hs2 : smlB hb hbn with
      | false =>
        rw [hs2] at HS2 HT
        have Hno := hide (show tell ⟨ha, han, hb, hbn, L⟩ = false by rw [HT.out]; rfl)
        clear HT hs1 hs2
        go_wp2_with fail
        refine HR1.out.mono ?_
        rintro y w2 ⟨rfl, hb2⟩
        have Hb2 := hide (Hb1.out.trans (hb2.mono Hb1.out.size))
        have d0 := cell_keep hb2 c0
        have d1 := cell_keep hb2 c1
        have d2 := cell_keep hb2 c2
        have d3 := cell_keep hb2 c3
        clear hb2 c0 c1 c2 c3 c4
        go_wp2_with fail
        refine (HS1.out _).mono ?_
        rintro y w3 ⟨rfl, rfl⟩
        go_wp2_with fail
        refine (HS2.out _).mono ?_
        rintro y w3 ⟨rfl, rfl⟩
        go_wp2
        go_ret
        exact ⟨by rw [Hno.out]; rfl, Hb2.out⟩
      | true =>
        rw [hs2] at HS2 HT
        have HT2 := hide (show tell ⟨ha, han, hb, hbn, L⟩ = L.all (fun x => (lns x).length == 1) by rw [HT.out]; rfl)
        clear HT hs1 hs2
        go_wp2_with fail
        refine HR1.out.mono ?_
        rintro y w2 ⟨rfl, hb2⟩
        have Hb2 := hide (Hb1.out.trans (hb2.mono Hb1.out.size))
        have d0 := cell_keep hb2 c0
        have d1 := cell_keep hb2 c1
        have d2 := cell_keep hb2 c2
        have d3 := cell_keep hb2 c3
        have d4 := cell_keep hb2 c4
        clear hb2 c0 c1 c2 c3 c4
        go_wp2_with fail
        refine (HS1.out _).mono ?_
        rintro y w3 ⟨rfl, rfl⟩
        go_wp2_with fail
        refine (HS2.out _).mono ?_
        rintro y w3 ⟨rfl, rfl⟩
        go_wp2
        clear d0 d1 d2 d3 d4
        go_loopw [27] (fun i wr => ∃ k : Nat, k ≤ N ∧ i = .int .i64 k ∧ (L.take k).all (fun x => (lns x).length == 1) = true ∧ Below w.heap.size w wr) (fun i _ => N - (intOf i).toNat)
        case atStart => exact ⟨0, Nat.zero_le _, rfl, rfl, Hb2.out⟩
        case round =>
          obtain ⟨k, hk, rfl, hall, hb3⟩ := hrel
          have Hall := hide hall
          have Hb3 := hide hb3
          clear hall hb3
          by_cases hlt : k < N
          · obtain ⟨b, o, rfl, ck⟩ := Hs.out.text Hb3.out (k := k) (by have := HN.out; omega)
            have HC := hide (count_any (L.getD k []) wr (HX.out k hlt))
            have Hst := hide (all_take (fun x => (lns x).length == 1) L k (by have := HN.out; omega))
            have Hna := hide (all_no (fun x => (lns x).length == 1) L k (by have := HN.out; omega))
            generalize L.getD k [] = x at *
            by_cases h1 : (lns x).length = 1
            · have Hnx := hide (show (L.take (k + 1)).all (fun x => (lns x).length == 1) = true by rw [Hst.out, Hall.out, h1]; rfl)
              rw [h1] at HC
              clear h1 Hst Hna Hall
              go_wp2_with fail
              refine HC.out.mono ?_
              rintro y w4 ⟨rfl, hb4⟩
              have Hb4 := hide (Hb3.out.trans (hb4.mono Hb3.out.size))
              clear hb4
              go_wp2
              exact ⟨⟨k + 1, by omega, by go_num, Hnx.out, Hb4.out⟩, by simp [intOf]; omega⟩
            · have Hno := hide (show tell ⟨ha, han, hb, hbn, L⟩ = false by rw [HT2.out]; exact Hna.out (by simpa using h1))
              have e1 : (((lns x).length : Int) == 1) = false := beq_eq_false_iff_ne.2 (by omega)
              generalize ((lns x).length : Int) = z at *
              clear h1 Hst Hna Hall
              go_wp2_with fail
              refine HC.out.mono ?_
              rintro y w4 ⟨rfl, hb4⟩
              have Hb4 := hide (Hb3.out.trans (hb4.mono Hb3.out.size))
              clear hb4
              go_wp2
              go_ret
              exact ⟨by rw [Hno.out]; rfl, Hb4.out⟩
          · obtain rfl : k = N := by omega
            have Hy := hide (show tell ⟨ha, han, hb, hbn, L⟩ = true by
              have := Hall.out
              rw [HN.out, List.take_length] at this
              rw [HT2.out, this])
            clear Hall
            go_wp2
            go_ret
            exact ⟨by rw [Hy.out]; rfl, Hb3.out⟩
end Go.Proofs.YtnehgogajghefaaGreatDoor.Un
namespace Go.Proofs.YtnehgogajghefaaGreatDoor.Un
open Go Go.Shelf Go.RowKit

def bren : Go.Shelf.Ren := ⟨fun | 240 => 44 | 276 => 53 | 166 => 25 | n => n, fun | 70 => 55 | 9 => 9 | 0 => 0 | 72 => 58 | 37 => 56 | 75 => 61 | 80 => 65 | 20 => 20 | 164 => 95 | 3 => 3 | 4 => 4 | 5 => 5 | n => n, fun | n => n⟩
theorem b166 : Go.Proofs.Lays.n166 Tryz.prog bren := {
  mixed := by kernel_rfl
  f166 := Tryz.func25.trans (congrArg some (by kernel_rfl))
  f240 := Tryz.func44.trans (congrArg some (by kernel_rfl))
  f276 := Tryz.func53.trans (congrArg some (by kernel_rfl))
  t0 := Tryz.underlying0
  a0 := Tryz.isAgg0
  z0 := Tryz.sizeOf0
  v0 := Tryz.zeroValue0
  t3 := Tryz.underlying3
  a3 := Tryz.isAgg3
  z3 := Tryz.sizeOf3
  v3 := Tryz.zeroValue3
  t4 := Tryz.underlying4
  a4 := Tryz.isAgg4
  z4 := Tryz.sizeOf4
  v4 := Tryz.zeroValue4
  t9 := Tryz.underlying9
  a9 := Tryz.isAgg9
  z9 := Tryz.sizeOf9
  v9 := Tryz.zeroValue9
  t20 := Tryz.underlying20
  a20 := Tryz.isAgg20
  z20 := Tryz.sizeOf20
  v20 := Tryz.zeroValue20
  t37 := Tryz.underlying56
  a37 := Tryz.isAgg56
  z37 := Tryz.sizeOf56
  v37 := Tryz.zeroValue56
  t70 := Tryz.underlying55
  a70 := Tryz.isAgg55
  z70 := Tryz.sizeOf55
  v70 := Tryz.zeroValue55
  t72 := Tryz.underlying58
  a72 := Tryz.isAgg58
  z72 := Tryz.sizeOf58
  v72 := Tryz.zeroValue58
  t75 := Tryz.underlying61
  a75 := Tryz.isAgg61
  z75 := Tryz.sizeOf61
  v75 := Tryz.zeroValue61
  t164 := Tryz.underlying95
  a164 := Tryz.isAgg95
  z164 := Tryz.sizeOf95
  v164 := Tryz.zeroValue95 }
theorem bext : Builder.Extra Tryz.prog bren := {
  sizeBuilder := by kernel_rfl
  liesBuilder := by kernel_rfl
  t5 := Tryz.underlying5
  a5 := Tryz.isAgg5
  z5 := Tryz.sizeOf5
  v5 := Tryz.zeroValue5
  infoByte := by kernel_rfl
  cellsByte := by kernel_rfl
  sizeByte := by kernel_rfl
  neB5 := by decide }
/-- a builder of the call's own, in block b: what it holds -/
def Bd (w : World) (B b : Nat) (l : List UInt8) : Prop := Lib.IsBuilderF 58 5 B b (Lib.byteCells l) w
theorem Bd.keep {w w' : World} {B b : Nat} {l : List UInt8} (h : Bd w B b l) (hb : Below w.heap.size w w') : Bd w' B b l := by
  have key : ∀ p, Lib.BuilderAtF 58 5 B b p (Lib.byteCells l) w → Lib.BuilderAtF 58 5 B b p (Lib.byteCells l) w' := fun p h => by
    obtain ⟨h1, v, h2, h3, h4⟩ := h
    refine ⟨h1, v, (hb.block b (Array.getElem?_eq_some_iff.1 h2).1).trans h2, ⟨h3.1, ?_⟩, h4⟩
    rcases h3.2 with ⟨e1, e2⟩ | ⟨g, cap, cur, fz, hv, e1, e2, e3⟩
    · exact .inl ⟨e1, e2⟩
    · exact .inr ⟨g, cap, cur, fz, hv, e1, (hb.block g (Array.getElem?_eq_some_iff.1 e2).1).trans e2, e3⟩
  exact h.elim (fun h => .inl (key _ h)) (fun h => .inr (key _ h))
theorem Bd.fresh (w : World) : Bd (w.alloc (.cells #[.pointer none, .slice none 0 0] 58)) w.heap.size w.heap.size [] := Lib.IsBuilderF.of (Lib.fresh_isBuilder 58 5 w)
/-- a text is written -/
theorem write_any (B b : Nat) (l s : List UInt8) (w : World) (h : Bd w B b l) (hlen : l.length + s.length ≤ 140737488355328) (hBw : B ≤ w.heap.size) :
    Calls Tryz.prog 25 #[.pointer (some ⟨b, 0, none⟩), .string ⟨s.toArray⟩] w fun e w' => e = .returned (.tuple #[.int .i64 s.length, .nilIface]) ∧ Bd w' B b (l ++ s) ∧ Below B w w' ∧ Lib.OthersKept 5 (some b) w w' := by
  have hl : (Lib.byteCells l).length = l.length := by simp [Lib.byteCells]
  refine (Any.Builder_WriteString_k b166 bext B b (Lib.byteCells l) ⟨s.toArray⟩ w h (by rw [hl]; exact hlen) hBw).mono ?_
  rintro e w' ⟨h1, h2, h3, h4⟩
  refine ⟨h1, ?_, h3, h4⟩
  unfold Bd
  rw [Lib.byteCells_append]
  exact .inr h2
/-- what it holds, as a text -/
theorem told_any (B b : Nat) (l : List UInt8) (w : World) (h : Bd w B b l) (hBw : B ≤ w.heap.size) :
    Calls Tryz.prog 28 #[.pointer (some ⟨b, 0, none⟩)] w fun e w' => e = .returned (.string ⟨l.toArray⟩) ∧ Below B w w' := by
  refine (Any.Builder_String_any_k Tryz.lays169 Tryz.Builder_Extra_169 B b l w h hBw).mono ?_
  rintro e w' ⟨h1, _, h2, _⟩
  exact ⟨h1, h2⟩
end Go.Proofs.YtnehgogajghefaaGreatDoor.Un
namespace Go.Proofs.YtnehgogajghefaaGreatDoor.Un
open Go Go.RowKit Kt Lw Li Df Hu

theorem others_row {w w' : World} {g gb : Nat} {cs : List Value} (h : Row w g tH cs) (hk : Lib.OthersKept 5 (some gb) w w') (hne : g ≠ gb) : Row w' g tH cs := by
  unfold Row at h ⊢
  exact hk g _ h (by simpa using hne) (fun c fz e => by injection e with _ e; exact absurd e (by decide))
theorem flat_snoc (f : Hk → List UInt8) (L : List Hk) (k : Nat) (h : Hk) (hk : L[k]? = some h) : ((L.take (k + 1)).map f).flatten = ((L.take k).map f).flatten ++ f h := by
  have hl := (List.getElem?_eq_some_iff.1 hk).1
  have he := (List.getElem?_eq_some_iff.1 hk).2
  rw [List.take_succ_eq_append_getElem hl, List.map_append, List.flatten_append, he]
  simp
theorem flat_le (f : Hk → List UInt8) (L : List Hk) (k : Nat) : ((L.take k).map f).flatten.length ≤ ((L.map f).flatten).length := by
  have h := congrArg (fun l => ((l.map f).flatten).length) (List.take_append_drop k L)
  simp only [List.map_append, List.flatten_append, List.length_append] at h
  omega
theorem tall_snoc (L : List Hk) (k : Nat) (h : Hk) (hk : L[k]? = some h) : (L.take (k + 1)).all tell = ((L.take k).all tell && tell h) := by
  have hl := (List.getElem?_eq_some_iff.1 hk).1
  have he := (List.getElem?_eq_some_iff.1 hk).2
  rw [List.take_succ_eq_append_getElem hl, List.all_append, he]
  simp
theorem tall_no (L : List Hk) (k : Nat) (h : Hk) (hk : L[k]? = some h) (ht : tell h = false) : L.all tell = false := by
  rw [List.all_eq_false]
  exact ⟨h, List.mem_of_getElem? hk, by simp [ht]⟩
theorem lflat_snoc (L : Ls) (k : Nat) (hk : k < L.length) : ((L.take (k + 1)).map lineT).flatten = ((L.take k).map lineT).flatten ++ lineT (L.getD k []) := by
  rw [List.take_succ_eq_append_getElem hk, List.map_append, List.flatten_append]
  simp [List.getElem?_eq_getElem hk]
theorem lflat_le (L : Ls) (k : Nat) : ((L.take k).map lineT).flatten.length ≤ ((L.map lineT).flatten).length := by
  have h := congrArg (fun l => ((l.map lineT).flatten).length) (List.take_append_drop k L)
  simp only [List.map_append, List.flatten_append, List.length_append] at h
  omega
/-- a hunk of a size that is walked -/
def Fit (h : Hk) : Prop := (-4503599627370496 ≤ h.a ∧ h.a ≤ 4503599627370496) ∧ (-4503599627370496 ≤ h.b ∧ h.b ≤ 4503599627370496) ∧ h.lines.length ≤ 1000000 ∧ ∀ x ∈ h.lines, x.length ≤ 1000000000
set_option maxRecDepth 100000 in
set_option maxHeartbeats 4000000 in
theorem print_any (L : List Hk) (A : Option Addr) (c : Nat) (w : World) (hs : Hks w A c L) (hE : Env w) (hn : L.length ≤ 1000000) (hlen : ((L.map hkT).flatten).length ≤ 1000000000) (hf : ∀ h ∈ L, Fit h) :
    Calls Tryz.prog 9 #[.slice A L.length c] w fun y w' => y = .returned (.string ⟨(prt L).toArray⟩) ∧ Below w.heap.size w w' := by
  have Hs := hide hs
  have HE := hide (fun w' (hb : Below w.heap.size w w') => hE.keep hb)
  have Hf := hide hf
  have HL := hide hlen
  obtain ⟨N, hN⟩ : ∃ N, N = L.length := ⟨_, rfl⟩
  rw [← hN] at hn ⊢
  have HN := hide hN
  clear hs hE hf hN hlen
  go_enter Tryz.func9, Tryz.ntmps9
  go_wp2
  obtain ⟨w0, hw0⟩ : ∃ w0, w0 = w.alloc (.cells #[.pointer none, .slice none 0 0] 58) := ⟨_, rfl⟩
  have hb0 : Below w.heap.size w w0 := by rw [hw0]; exact (Below.refl _ w).alloc (Nat.le_refl _) _
  have hbd : Bd w0 w.heap.size w.heap.size [] := by rw [hw0]; exact Bd.fresh w
  rw [← hw0]
  obtain ⟨B, hB⟩ : ∃ B, B = w.heap.size := ⟨_, rfl⟩
  rw [← hB] at hbd ⊢
  have HB := hide hB
  have Hbd := hide hbd
  have Hb0 := hide hb0
  clear hw0 hbd hb0 hB
  go_loopw [10] (fun i wr => ∃ k : Nat, k ≤ N ∧ i = .int .i64 k ∧ (L.take k).all tell = true ∧ Bd wr B B (((L.take k).map hkT).flatten) ∧ Below w.heap.size w wr) (fun i _ => N - (intOf i).toNat)
  case atStart => exact ⟨0, Nat.zero_le _, rfl, rfl, Hbd.out, Hb0.out⟩
  case round =>
    obtain ⟨k, hk, rfl, hall, hbd, hb⟩ := hrel
    have Hall := hide hall
    have Hbd := hide hbd
    have Hb := hide hb
    clear hall hbd hb
    by_cases hlt : k < N
    · obtain ⟨bE, oE, h, Ah, ch, hA', hke, ⟨c0, c1, c2, c3, c4⟩, hvs⟩ := Hs.out.at Hb.out (k := k) (by have := HN.out; omega)
      subst hA'
      obtain ⟨f1, f2, f3, f4⟩ := Hf.out h (List.mem_of_getElem? hke)
      obtain ⟨n, hn'⟩ : ∃ n, n = h.lines.length := ⟨_, rfl⟩
      rw [← hn'] at c4
      have hnb : n ≤ 1000000 := by rw [hn']; exact f3
      have Hke := hide hke
      have Hn := hide hn'
      have Hvs := hide hvs
      clear hke hn' hvs
      go_upto_region 5 with fail
      obtain ⟨w1, hw1⟩ : ∃ w1, w1 = wr.alloc (.cells #[.int .i64 h.a, .int .i64 h.an, .int .i64 h.b, .int .i64 h.bn, .slice Ah n ch] tH) := ⟨_, rfl⟩
      have hb1 : Below wr.heap.size wr w1 := by rw [hw1]; exact (Below.refl _ wr).alloc (Nat.le_refl _) _
      have hrow : Row w1 wr.heap.size tH [.int .i64 h.a, .int .i64 h.an, .int .i64 h.b, .int .i64 h.bn, .slice Ah n ch] := by rw [hw1]; exact Row.fresh wr tH _
      rw [← hw1]
      obtain ⟨g, hg⟩ : ∃ g, g = wr.heap.size := ⟨_, rfl⟩
      have hgB : g ≠ B := by
        have h1 := (Hbd.out)
        have h2 : B < wr.heap.size := h1.elim (fun h => h.lt) (fun h => h.lt)
        omega
      rw [← hg] at hrow ⊢
      have Hbd1 := hide (Hbd.out.keep hb1)
      have Hb1 := hide (Hb.out.trans (hb1.mono Hb.out.size))
      have Hrow := hide hrow
      have HTl := hide (tellable_any h.a h.an h.b h.bn h.lines Ah ch _ w1 (Lw.Vs.below Hvs.out Hb1.out) (by omega) (fun x hx => Nat.le_trans (f4 x hx) (by omega)) f1 f2)
      rw [← Hn.out] at HTl
      have HHd := hide (fun w' (hb : Below w.heap.size w w') (e : tell h = true) => head_any h.a h.an h.b h.bn (.slice Ah n ch) rfl w' (HE.out w' hb) (by have := (tell_iff.1 e).2.1.1; omega) (by have := (tell_iff.1 e).2.1.2; omega) (by have := (tell_iff.1 e).2.2.1.1; omega) (by have := (tell_iff.1 e).2.2.1.2; omega))
      have Htk := hide (tall_snoc L k h Hke.out)
      have Hno := hide (tall_no L k h Hke.out)
      have Hsn := hide (flat_snoc hkT L k h Hke.out)
      have hle1 := flat_le hkT L (k + 1)
      rw [Hsn.out, List.length_append] at hle1
      have hle2 := HL.out
      have Hf4 := hide f4
      have r0 := hrow.cell 0
      have r1 := hrow.cell 1
      have r2 := hrow.cell 2
      have r3 := hrow.cell 3
      have r4 := hrow.cell 4
      simp only [List.getElem?_cons_zero, List.getElem?_cons_succ] at r0 r1 r2 r3 r4
      obtain ⟨P, hP⟩ : ∃ P, P = ((L.take k).map hkT).flatten := ⟨_, rfl⟩
      rw [← hP] at Hbd1 Hsn hle1
      have HTe := hide (show h.lines = h.lines from rfl)
      clear hw1 hb1 hrow hg c0 c1 c2 c3 c4 f1 f2 f3 f4 Hbd Hb hP
      cases ht : tell h with
      | false =>
        have Hp := hide (show prt L = [] by rw [prt, if_neg (by rw [Hno.out ht]; simp)])
        have HTl2 := hide (show Calls Tryz.prog 24 #[.agg #[.int .i64 h.a, .int .i64 h.an, .int .i64 h.b, .int .i64 h.bn, .slice Ah n ch]] w1 fun y w' => y = .returned (.bool false) ∧ Below w1.heap.size w1 w' from by rw [← ht]; exact HTl.out)
        clear HTl HHd Htk Hno Hsn hle1 hle2 ht Hbd1
        go_wp2_with fail
        refine HTl2.out.mono ?_
        rintro y w2 ⟨rfl, hb2⟩
        have Hb2 := hide (Hb1.out.trans (hb2.mono Hb1.out.size))
        clear hb2
        go_wp2
        go_ret
        exact ⟨by rw [Hp.out]; rfl, Hb2.out⟩
      | true =>
        have HTl2 := hide (show Calls Tryz.prog 24 #[.agg #[.int .i64 h.a, .int .i64 h.an, .int .i64 h.b, .int .i64 h.bn, .slice Ah n ch]] w1 fun y w' => y = .returned (.bool true) ∧ Below w1.heap.size w1 w' from by rw [← ht]; exact HTl.out)
        have HHd2 := hide (fun w' (hb : Below w.heap.size w w') => HHd.out w' hb ht)
        have Htk2 := hide (show (L.take (k + 1)).all tell = true by rw [Htk.out, Hall.out, ht]; rfl)
        have Hhk := hide (show hkT h = headT h.a h.an h.b h.bn ++ (h.lines.map lineT).flatten from rfl)
        rw [Hhk.out, List.length_append] at hle1
        obtain ⟨hT, hhT⟩ : ∃ hT, hT = headT h.a h.an h.b h.bn := ⟨_, rfl⟩
        rw [← hhT] at HHd2 Hhk hle1
        clear HTl HHd Htk Hno ht hhT Hall
        go_wp2_with fail
        refine HTl2.out.mono ?_
        rintro y w2 ⟨rfl, hb2⟩
        have Hb2 := hide (Hb1.out.trans (hb2.mono Hb1.out.size))
        have Hbd2 := hide (Hbd1.out.keep hb2)
        have Hrow2 := hide (Hrow.out.below hb2 Hrow.out.lt)
        have s0 := cell_keep hb2 r0
        have s1 := cell_keep hb2 r1
        have s2 := cell_keep hb2 r2
        have s3 := cell_keep hb2 r3
        have s4 := cell_keep hb2 r4
        clear hb2 r0 r1 r2 r3 r4 Hrow Hbd1
        go_wp2_with fail
        refine (HHd2.out w2 Hb2.out).mono ?_
        rintro y w3 ⟨rfl, hb3⟩
        have Hb3 := hide (Hb2.out.trans (hb3.mono Hb2.out.size))
        have Hbd3 := hide (Hbd2.out.keep hb3)
        have Hrow3 := hide (Hrow2.out.below hb3 Hrow2.out.lt)
        clear hb3 s0 s1 s2 s3 s4 Hrow2 Hbd2
        go_wp2_with fail
        refine (write_any B B P hT w3 Hbd3.out (by omega) (by rw [HB.out]; exact Hb3.out.size)).mono ?_
        rintro y w4 ⟨rfl, hbd4, hb4, ho4⟩
        have Hb4 := hide (Hb3.out.trans (HB.out ▸ hb4))
        have hrow4 := others_row Hrow3.out ho4 hgB
        have t4 := hrow4.cell 4
        simp only [List.getElem?_cons_zero, List.getElem?_cons_succ] at t4
        have Hbd4 := hide hbd4
        clear hbd4 hb4 ho4 hrow4 Hrow3 Hbd3
        have HLl := hide (show ((h.lines.map lineT).flatten).length ≤ 1000000000 by omega)
        have Hpl := hide (show P.length + hT.length + ((h.lines.map lineT).flatten).length ≤ 1000000000 by omega)
        clear hle1 hle2
        go_wp2
        clear t4
        go_loopw [23] (fun i wr' => ∃ j : Nat, j ≤ n ∧ i = .int .i64 j ∧ Bd wr' B B ((P ++ hT) ++ ((h.lines.take j).map lineT).flatten) ∧ Below w.heap.size w wr') (fun i _ => n - (intOf i).toNat)
        case atStart => exact ⟨0, Nat.zero_le _, rfl, by simpa using Hbd4.out, Hb4.out⟩
        case round =>
          obtain ⟨j, hj, rfl, hbd, hb⟩ := hrel
          have Hbd5 := hide hbd
          have Hb5 := hide hb
          clear hbd hb
          by_cases hlj : j < n
          · obtain ⟨bl, ol, hA2, ck⟩ := Hvs.out.text Hb5.out (k := j) (by have := Hn.out; omega)
            subst hA2
            have Hsj := hide (lflat_snoc h.lines j (by have := Hn.out; omega))
            have hlj1 := lflat_le h.lines (j + 1)
            rw [Hsj.out, List.length_append] at hlj1
            obtain ⟨x, hx⟩ : ∃ x, x = h.lines.getD j [] := ⟨_, rfl⟩
            rw [← hx] at ck Hsj hlj1
            clear hx
            obtain ⟨Q, hQ⟩ : ∃ Q, Q = (P ++ hT) ++ ((h.lines.take j).map lineT).flatten := ⟨_, rfl⟩
            have hQl : Q.length + (lineT x).length ≤ 1000000000 := by
              have h1 := Hpl.out
              rw [hQ, List.length_append, List.length_append]; omega
            have Hnx := hide (show (P ++ hT) ++ ((h.lines.take (j + 1)).map lineT).flatten = Q ++ lineT x by rw [Hsj.out, hQ]; simp only [List.append_assoc])
            rw [← hQ] at Hbd5
            have hxl : x.length ≤ (lineT x).length := by unfold lineT; split <;> simp
            have HCl := hide (fun w' => closed_any x w' (by omega))
            clear hQ Hsj hlj1
            have HLt := hide (show lineT x = if closed x then x else x ++ 10 :: markB from rfl)
            cases hc : closed x with
            | true =>
              rw [hc] at HCl
              have Hnx2 := hide (show (P ++ hT) ++ ((h.lines.take (j + 1)).map lineT).flatten = Q ++ x by rw [Hnx.out, HLt.out, hc]; rfl)
              clear hc Hnx HLt
              go_wp2_with fail
              refine (write_any B B Q x wr Hbd5.out (by omega) (by rw [HB.out]; exact Hb5.out.size)).mono ?_
              rintro y w5 ⟨rfl, hbd6, hb6, _⟩
              have Hb6 := hide (Hb5.out.trans (HB.out ▸ hb6))
              have Hbd6 := hide hbd6
              clear hbd6 hb6 Hbd5
              go_wp2_with fail
              refine (HCl.out _).mono ?_
              rintro y w6 ⟨rfl, rfl⟩
              go_wp2
              exact ⟨⟨j + 1, by omega, by go_num, by rw [Hnx2.out]; exact Hbd6.out, Hb6.out⟩, by simp [intOf]; omega⟩
            | false =>
              rw [hc] at HCl
              have Hnx2 := hide (show (P ++ hT) ++ ((h.lines.take (j + 1)).map lineT).flatten = (Q ++ x) ++ (10 :: markB) by rw [Hnx.out, HLt.out, hc, List.append_assoc]; rfl)
              have hml : (lineT x).length = x.length + 29 := by rw [HLt.out, hc]; rw [if_neg (by simp), List.length_append]; rfl
              clear hc Hnx HLt
              go_wp2_with fail
              refine (write_any B B Q x wr Hbd5.out (by omega) (by rw [HB.out]; exact Hb5.out.size)).mono ?_
              rintro y w5 ⟨rfl, hbd6, hb6, _⟩
              have Hb6 := hide (Hb5.out.trans (HB.out ▸ hb6))
              have Hbd6 := hide hbd6
              clear hbd6 hb6 Hbd5
              go_wp2_with fail
              refine (HCl.out _).mono ?_
              rintro y w6 ⟨rfl, rfl⟩
              go_wp2_with fail
              refine (write_any B B (Q ++ x) (10 :: markB) _ Hbd6.out (by rw [List.length_append]; show _ + 29 ≤ _; omega) (by rw [HB.out]; exact Hb6.out.size)).mono ?_
              rintro y w7 ⟨rfl, hbd7, hb7, _⟩
              have Hb7 := hide (Hb6.out.trans (HB.out ▸ hb7))
              have Hbd7 := hide hbd7
              clear hbd7 hb7 Hbd6
              go_wp2
              exact ⟨⟨j + 1, by omega, by go_num, by rw [Hnx2.out]; exact Hbd7.out, Hb7.out⟩, by simp [intOf]; omega⟩
          · have Hnx := hide (show ((L.take (k + 1)).map hkT).flatten = (P ++ hT) ++ ((h.lines.take j).map lineT).flatten by
              rw [Hsn.out, Hhk.out, List.take_of_length_le (by have := Hn.out; omega), List.append_assoc])
            go_wp2
            exact ⟨⟨k + 1, by omega, by go_num, Htk2.out, by rw [Hnx.out]; exact Hbd5.out, Hb5.out⟩, by simp [intOf]; omega⟩
    · obtain rfl : k = N := by omega
      have Hp := hide (show prt L = ((L.take k).map hkT).flatten by
        have h1 := Hall.out
        rw [HN.out, List.take_length] at h1 ⊢
        rw [prt, if_pos h1])
      have HT := hide (told_any B B _ _ Hbd.out (by rw [HB.out]; exact Hb.out.size))
      clear Hall Hbd
      generalize ((L.take k).map hkT).flatten = T at *
      go_wp2_with fail
      refine HT.out.mono ?_
      rintro y w2 ⟨rfl, hb2⟩
      have Hb2 := hide (Hb.out.trans (HB.out ▸ hb2))
      clear hb2
      go_wp2
      go_ret
      exact ⟨by rw [Hp.out]; rfl, Hb2.out⟩
end Go.Proofs.YtnehgogajghefaaGreatDoor.Un
namespace Go.Proofs.YtnehgogajghefaaGreatDoor.Un
open Go Go.RowKit Kt Lw Li Df Hu

def lnB (x : List UInt8) : Nat := min x.length 500 + 1
def totL (l : Ls) : Nat := (l.map lnB).sum
def tot (L : List Hk) : Nat := (L.map fun h => totL h.lines).sum
def fewU (L : List Hk) : Bool := fewH L && decide (tot L ≤ 500)
theorem totL_snoc (l : Ls) (j : Nat) (hj : j < l.length) : totL (l.take (j + 1)) = totL (l.take j) + lnB (l.getD j []) := by
  rw [List.take_add_one, List.getElem?_eq_getElem hj, List.getD_eq_getElem?_getD, List.getElem?_eq_getElem hj]
  simp only [totL, Option.toList_some, List.map_append, List.sum_append, List.map_cons, List.map_nil, List.sum_cons, List.sum_nil, Option.getD_some]
  omega
theorem tot_snoc (L : List Hk) (k : Nat) (h : Hk) (hk : L[k]? = some h) : tot (L.take (k + 1)) = tot (L.take k) + totL h.lines := by
  rw [List.take_add_one, hk]; simp [tot]
theorem lnB_le (x : List UInt8) : lnB x ≤ 501 := by unfold lnB; omega
theorem totL_le : ∀ l : Ls, totL l ≤ 501 * l.length
  | [] => Nat.le_refl _
  | x :: l => by
    have h1 := totL_le l
    have h2 := lnB_le x
    have h3 : totL (x :: l) = lnB x + totL l := by simp [totL]
    rw [h3, List.length_cons]; omega
theorem tot_le : ∀ L : List Hk, (∀ h ∈ L, ¬ tooBig h) → tot L ≤ 15030 * L.length
  | [], _ => Nat.le_refl _
  | h :: L, hb => by
    have h1 := tot_le L fun h hh => hb h (List.mem_cons_of_mem _ hh)
    have h2 := totL_le h.lines
    have h3 : tot (h :: L) = totL h.lines + tot L := by simp [tot]
    have h4 : h.lines.length ≤ 30 := by
      have := hb h (List.mem_cons_self ..)
      unfold tooBig at this; omega
    rw [h3, List.length_cons]; omega
theorem few_parts {L : List Hk} (h : fewH L = true) : (∀ h ∈ L, ¬ tooBig h) ∧ L.length ≤ 12 := by
  unfold fewH at h
  rw [Bool.and_eq_true] at h
  exact ⟨of_decide_eq_true h.1, of_decide_eq_true h.2⟩
end Go.Proofs.YtnehgogajghefaaGreatDoor.Un
namespace Go.Proofs.YtnehgogajghefaaGreatDoor.Un
open Go Go.RowKit Kt Lw Li Df Hu

theorem dec_len : ∀ (k u : Nat), 0 < k → u < 10 ^ k → (Lib.decDigits u).length ≤ k
  | 0, _, h, _ => absurd h (by omega)
  | k + 1, u, _, h => by
    rw [Lib.decDigits]
    split
    · simp
    · rename_i h10
      have hk : 0 < k := by
        rcases Nat.eq_zero_or_pos k with rfl | h0
        · simp at h; omega
        · exact h0
      have h1 := dec_len k (u / 10) hk (by rw [Nat.pow_succ] at h; omega)
      rw [List.length_append, List.length_singleton]
      omega
theorem itoa_len (n : Int) (h : -10000000000 < n ∧ n < 10000000000) : (Lib.itoa n).length ≤ 11 := by
  rw [Lib.itoa]
  split
  · rw [List.length_cons]
    have := dec_len 10 n.natAbs (by omega) (by show _ < 10000000000; omega)
    omega
  · have := dec_len 10 n.toNat (by omega) (by show _ < 10000000000; omega)
    omega
theorem sideT_len (p m : Int) (hp : -4294967296 ≤ p ∧ p ≤ 4294967296) (hm : -4294967296 ≤ m ∧ m ≤ 4294967296) : (sideT p m).length ≤ 23 := by
  have h1 := itoa_len (plc p m) (by unfold plc; omega)
  have h2 := itoa_len m (by omega)
  rw [sideT, List.length_append, List.length_cons]; omega
theorem headT_len (a an b bn : Int) (ha : -4294967296 ≤ a ∧ a ≤ 4294967296) (han : -4294967296 ≤ an ∧ an ≤ 4294967296) (hb : -4294967296 ≤ b ∧ b ≤ 4294967296) (hbn : -4294967296 ≤ bn ∧ bn ≤ 4294967296) : (headT a an b bn).length ≤ 56 := by
  have h1 := sideT_len a an ha han
  have h2 := sideT_len b bn hb hbn
  rw [headT, List.length_append, List.length_append, List.length_append, List.length_append]
  have h3 : opensB.length = 4 := rfl
  have h4 : plusB.length = 2 := rfl
  have h5 : closesB.length = 4 := rfl
  omega
theorem mem_sum {α : Type} (f : α → Nat) {x : α} : ∀ {l : List α}, x ∈ l → f x ≤ (l.map f).sum
  | y :: l, h => by
    rw [List.map_cons, List.sum_cons]
    rcases List.mem_cons.1 h with h | h
    · rw [h]; omega
    · have := mem_sum f h; omega
theorem lineT_len (x : List UInt8) : x.length ≤ (lineT x).length ∧ (lineT x).length ≤ x.length + 29 := by
  unfold lineT
  split
  · omega
  · rw [List.length_append]
    have : (10 :: markB).length = 29 := rfl
    omega
theorem lines_long : ∀ (l : Ls), (∀ x ∈ l, x.length ≤ 499) → ((l.map lineT).flatten).length ≤ totL l + 28 * l.length
  | [], _ => by simp
  | x :: l, h => by
    have h1 := lines_long l fun y hy => h y (List.mem_cons_of_mem _ hy)
    have h2 := lineT_len x
    have h3 : totL (x :: l) = lnB x + totL l := by simp [totL]
    have h4 : lnB x = x.length + 1 := by
      have := h x List.mem_cons_self
      unfold lnB; omega
    rw [List.map_cons, List.flatten_cons, List.length_append, List.length_cons, h3]; omega
theorem hks_long : ∀ (L : List Hk), (∀ h ∈ L, ¬ tooBig h ∧ ∀ x ∈ h.lines, x.length ≤ 499) → ((L.map hkT).flatten).length ≤ tot L + 900 * L.length
  | [], _ => by simp
  | h :: L, hb => by
    have h1 := hks_long L fun y hy => hb y (List.mem_cons_of_mem _ hy)
    obtain ⟨h2, h2'⟩ := hb h List.mem_cons_self
    have h3 : tot (h :: L) = totL h.lines + tot L := by simp [tot]
    have h4 := lines_long h.lines h2'
    unfold tooBig at h2
    have h5 := headT_len h.a h.an h.b h.bn (by omega) (by omega) (by omega) (by omega)
    rw [List.map_cons, List.flatten_cons, List.length_append, List.length_cons, h3, hkT, List.length_append]
    omega
theorem few_short {L : List Hk} (h : fewU L = true) : (∀ h ∈ L, ¬ tooBig h ∧ ∀ x ∈ h.lines, x.length ≤ 499) ∧ L.length ≤ 12 ∧ tot L ≤ 500 := by
  unfold fewU at h
  rw [Bool.and_eq_true] at h
  obtain ⟨h1, h2⟩ := few_parts h.1
  have h3 : tot L ≤ 500 := of_decide_eq_true h.2
  refine ⟨fun e he => ⟨h1 e he, fun x hx => ?_⟩, h2, h3⟩
  have h4 : totL e.lines ≤ tot L := mem_sum (fun h => totL h.lines) he
  have h5 : lnB x ≤ totL e.lines := mem_sum lnB hx
  unfold lnB at h5
  omega
theorem few_fit {L : List Hk} (h : fewU L = true) : (∀ h ∈ L, Fit h) ∧ ((L.map hkT).flatten).length ≤ 12000 ∧ (prt L).length ≤ 12000 := by
  obtain ⟨h1, h2, h3⟩ := few_short h
  have h4 := hks_long L h1
  refine ⟨fun e he => ?_, by omega, ?_⟩
  · obtain ⟨h5, h6⟩ := h1 e he
    unfold tooBig at h5
    exact ⟨by omega, by omega, by omega, fun x hx => Nat.le_trans (h6 x hx) (by omega)⟩
  · unfold prt
    split
    · omega
    · simp
theorem flat_mem {α β : Type} (f : α → List β) {x : α} : ∀ {l : List α}, x ∈ l → (f x).length ≤ ((l.map f).flatten).length
  | y :: l, h => by
    rw [List.map_cons, List.flatten_cons, List.length_append]
    rcases List.mem_cons.1 h with h | h
    · rw [h]; omega
    · have := flat_mem f h; omega
theorem flat_count {α β : Type} (f : α → List β) : ∀ {l : List α}, (∀ x ∈ l, 1 ≤ (f x).length) → l.length ≤ ((l.map f).flatten).length
  | [], _ => Nat.le_refl _
  | y :: l, h => by
    have h1 := flat_count f (l := l) fun x hx => h x (List.mem_cons_of_mem _ hx)
    have h2 := h y List.mem_cons_self
    rw [List.map_cons, List.flatten_cons, List.length_append, List.length_cons]; omega
theorem hkT_ne (h : Hk) : 1 ≤ (hkT h).length := by
  rw [hkT, headT]; simp [opensB]
theorem tell_fit {l : List Hk} (h : l.all tell = true) (m : Nat) (hm : m ≤ 100000) (hl : ((l.map hkT).flatten).length ≤ m) : (∀ h ∈ l, Fit h) ∧ l.length ≤ m ∧ ∀ h ∈ l, h.lines.length ≤ m := by
  have key : ∀ e ∈ l, e.lines.length ≤ m ∧ ∀ x ∈ e.lines, x.length ≤ m := fun e he => by
    have h1 := tell_iff.1 (List.all_eq_true.1 h e he)
    have h2 := flat_mem hkT he
    have h3 : (hkT e).length = (headT e.a e.an e.b e.bn).length + ((e.lines.map lineT).flatten).length := by rw [hkT, List.length_append]
    have h4 := flat_count lineT (l := e.lines) fun x hx => by
      have h5 := one_ne (h1.2.2.2.2.2 x hx)
      have h6 := (lineT_len x).1
      have h7 : 0 < x.length := List.length_pos_iff.2 h5
      omega
    refine ⟨by omega, fun x hx => ?_⟩
    have h5 := flat_mem lineT hx
    have h6 := (lineT_len x).1
    omega
  refine ⟨fun e he => ?_, ?_, fun e he => (key e he).1⟩
  · obtain ⟨h1, h2, h3, _⟩ := tell_iff.1 (List.all_eq_true.1 h e he)
    obtain ⟨k1, k2⟩ := key e he
    have p2 := h2.1
    have p3 := h2.2.1
    have p4 := h2.2.2.2
    have q2 := h3.1
    have q3 := h3.2.1
    have q4 := h3.2.2.2
    unfold plc at p4 q4
    exact ⟨by omega, by omega, by omega, fun x hx => Nat.le_trans (k2 x hx) (by omega)⟩
  · exact Nat.le_trans (flat_count hkT fun x _ => hkT_ne x) hl
theorem prt_tell {l : List Hk} (h : prt l ≠ []) : l.all tell = true := by
  unfold prt at h
  split at h
  · assumption
  · exact absurd rfl h
theorem prt_flat {l : List Hk} (h : l.all tell = true) : prt l = (l.map hkT).flatten := if_pos h
theorem run_none : ∀ (l : Ls) (s : St) (n m : Nat), run s l n = (m, none) → n < m
  | [], s, n, m, h => by
    rw [run] at h
    simp at h
  | x :: l, s, n, m, h => by
    rw [run] at h
    cases hq : step s x with
    | none =>
      rw [hq] at h
      simp at h
      omega
    | some s2 =>
      rw [hq] at h
      have := run_none l s2 (n + 1) m h
      omega
theorem parse_no {t : List UInt8} (h : (parse t).2.2 ≠ 0) : (parse t).1 = [] ∧ 1 ≤ (parse t).2.1 := by
  revert h
  unfold parse fin
  split
  · rename_i hs
    intro _
    have := run_none (lns t) ⟨[], 0, 0⟩ 0 _ (Prod.ext rfl hs)
    exact ⟨rfl, this⟩
  · split
    · intro h; exact absurd rfl h
    · intro _; exact ⟨rfl, by simp⟩
end Go.Proofs.YtnehgogajghefaaGreatDoor.Un
