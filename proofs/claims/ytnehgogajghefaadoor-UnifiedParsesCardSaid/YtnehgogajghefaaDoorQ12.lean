/-
  unified: place, small, side.
-/
import Derived.Test.YtnehgogajghefaaDoorQ10
import Derived.Test.YtnehgogajghefaaDoorQ11
import Derived.Test.YtnehgogajghefaaDoorQ7
import Derived.Lib.AppendIntMem
import Derived.Lib.ItoaLen
import Derived.Test.YtnehgogajghefaaDoorQ2
import Derived.Deep.CutRange
import Derived.Deep.CutBlock
import Derived.Shelf.Strings.BuilderK
import Derived.Test.YtnehgogajghefaaDoorShelf
import Derived.Test.YtnehgogajghefaaDoorProg
namespace Go.Proofs.YtnehgogajghefaaDoor.Un
open Go Go.RowKit Kt Lw Li Df Hu

/-- what the library's variables hold -/
structure Env (w : World) : Prop where
  tab : Lib.TabIs Tryd.prog w "internal/strconv.uint64pow10" .u64 Lib.pow10Tab
  most : ∃ m, w.cell? ⟨0, 0, none⟩ = some (.int .i64 m)
  syn : ∃ t p, w.cell? ⟨2, 0, none⟩ = some (.iface t p)
  rng : ∃ t p, w.cell? ⟨3, 0, none⟩ = some (.iface t p)
theorem Env.keep {w w' : World} (h : Env w) (hb : Below w.heap.size w w') : Env w' := by
  obtain ⟨m, hm⟩ := h.most
  obtain ⟨t, p, hs⟩ := h.syn
  obtain ⟨t', p', hr⟩ := h.rng
  exact ⟨Lib.tabBelow_of_tabIs h.tab w' hb, ⟨m, cell_keep hb hm⟩, ⟨t, p, cell_keep hb hs⟩, ⟨t', p', cell_keep hb hr⟩⟩
theorem grow_below (w : World) (k : Nat) (os : Array Obj) : Below w.heap.size w (Sort.grow (w.drewN k) os) := Lib.below_grow _ w (Nat.le_refl _) k os
theorem run_max3 (P : Program) (ts : Array TypeId) (t : TypeId) (k : IntKind) (x y z : Int) (w : World) : (Builtin.max_ ts t #[.int k x, .int k y, .int k z]).run P w = .ok (.int k (max (max x y) z)) w := by
  have h : ∀ a b : Int, (Builtin.max2 (.int k a) (.int k b)).run P w = .ok (.int k (max a b)) w := fun a b => by
    have e : (if b > a then b else a) = max a b := by split <;> omega
    rw [← e]
    simp [Builtin.max2]
  simp only [Builtin.max_, List.foldlM_cons, List.foldlM_nil, Sem.run_bind, Sem.run_pure, h, Result.andThen]
set_option maxRecDepth 100000 in
set_option maxHeartbeats 400000 in
theorem place_any (p m : Int) (w : World) (hp : -4503599627370496 ≤ p ∧ p ≤ 4503599627370496) (hm : 0 ≤ m ∧ m ≤ 4503599627370496) :
    Calls Tryd.prog 42 #[.int .i64 p, .int .i64 m] w fun y w' => y = .returned (.int .i64 (plc p m)) ∧ w' = w := by
  have hpl : plc p m = p + min m 1 := rfl
  by_cases h : m < 1
  · have h0 : m = 0 := by omega
    subst h0
    have hw : IntKind.i64.wrap p = p := IntWalk.i64_in _ (by omega)
    rw [hpl]
    go_enter Tryd.func42, Tryd.ntmps42
    go_wp2
    go_ret
    exact ⟨by simp, rfl⟩
  · have h1 : min m 1 = 1 := by omega
    have h2 : ¬ m < 1 := h
    have hw : IntKind.i64.wrap (p + 1) = p + 1 := IntWalk.i64_in _ (by omega)
    rw [hpl, h1]
    go_enter Tryd.func42, Tryd.ntmps42
    go_wp2
    go_ret
    exact ⟨rfl, rfl⟩
set_option maxRecDepth 100000 in
set_option maxHeartbeats 400000 in
theorem small_any (p m : Int) (w : World) (hp : -4503599627370496 ≤ p ∧ p ≤ 4503599627370496) (hm : 0 ≤ m ∧ m ≤ 4503599627370496) :
    Calls Tryd.prog 30 #[.int .i64 p, .int .i64 m] w fun y w' => y = .returned (.bool (smlB p m)) ∧ w' = w := by
  have HP := hide (place_any p m w hp hm)
  have hs : smlB p m = decide (max (max p m) (plc p m) < 2147483648) := rfl
  have HS := hide hs
  clear hs hp hm
  generalize plc p m = x at *
  go_enter Tryd.func30, Tryd.ntmps30
  go_wp2_with fail
  refine HP.out.mono ?_
  rintro y w1 ⟨rfl, rfl⟩
  go_wp2
  rw [run_max3]
  simp only [Result.andThen]
  rw [Oper.upon_value]
  go_wp2
  go_ret
  exact ⟨by rw [HS.out, Int.max_assoc]; rfl, rfl⟩
end Go.Proofs.YtnehgogajghefaaDoor.Un
namespace Go.Proofs.YtnehgogajghefaaDoor.Un
open Go Go.RowKit Kt Lw Li Df Hu

set_option maxRecDepth 100000 in
set_option maxHeartbeats 1000000 in
theorem side_any (p m : Int) (w : World) (hE : Env w) (hp : 0 ≤ p ∧ p ≤ 4503599627370496) (hm : 0 ≤ m ∧ m ≤ 4503599627370496) :
    Calls Tryd.prog 33 #[.int .i64 p, .int .i64 m] w fun y w' => y = .returned (.string ⟨(sideT p m).toArray⟩) ∧ Below w.heap.size w w' := by
  have HP := hide (place_any p m w (by omega) hm)
  have hpl : 0 ≤ plc p m ∧ plc p m ≤ 4503599627370497 := by unfold plc; omega
  have HT := hide (show sideT p m = (Lib.itoa (plc p m) ++ [44]) ++ Lib.itoa m by simp [sideT])
  have HI1 := hide (Tryd.strconv_Itoa (plc p m) (by omega) (by omega) w hE.tab)
  have HI2 := hide (fun w' (hb : Below w.heap.size w w') => Tryd.strconv_Itoa m (by omega) (by omega) w' (hE.keep hb).tab)
  have hl1 := Lib.itoa_length_le (plc p m) (by omega) (by omega)
  have hl2 := Lib.itoa_length_le m (by omega) (by omega)
  clear hE hp hm hpl
  generalize plc p m = q at *
  generalize Lib.itoa q = x at *
  generalize Lib.itoa m = y at *
  have ea := app_txt x [44]
  have eb := app_txt (x ++ [44]) y
  have hlx : (x ++ [44]).length ≤ 22 := by simp; omega
  generalize hz : x ++ [44] = z at *
  clear hz
  have hX1 : ¬ 9223372036854775807 < x.length + 1 := by omega
  have hX2 : ¬ 9223372036854775807 < z.length + y.length := by omega
  go_enter Tryd.func33, Tryd.ntmps33
  go_wp2_with fail
  refine HP.out.mono ?_
  rintro u w1 ⟨rfl, rfl⟩
  go_wp2_with fail
  refine HI1.out.mono ?_
  rintro u w2 ⟨rfl, k, os, rfl⟩
  have hb1 := grow_below w1 k os
  generalize Sort.grow (w1.drewN k) os = w2 at *
  go_wp2_with fail
  refine (HI2.out _ hb1).mono ?_
  rintro u w3 ⟨rfl, k2, os2, rfl⟩
  have hb2 := hb1.trans ((grow_below w2 k2 os2).mono hb1.size)
  generalize Sort.grow (w2.drewN k2) os2 = w3 at *
  go_wp2
  go_ret
  exact ⟨by rw [HT.out]; rfl, hb2⟩
theorem side_len {p m : Int} (hp : 0 ≤ p ∧ p ≤ 4503599627370496) (hm : 0 ≤ m ∧ m ≤ 4503599627370496) : (sideT p m).length ≤ 43 := by
  have hpl : 0 ≤ plc p m ∧ plc p m ≤ 4503599627370497 := by unfold plc; omega
  have hl1 := Lib.itoa_length_le (plc p m) (by omega) (by omega)
  have hl2 := Lib.itoa_length_le m (by omega) (by omega)
  rw [sideT, List.length_append, List.length_cons]
  omega
set_option maxRecDepth 100000 in
set_option maxHeartbeats 1000000 in
theorem head_any (a an b bn : Int) (v : Value) (_hv : v.oneCell' = true) (w : World) (hE : Env w) (ha : 0 ≤ a ∧ a ≤ 4503599627370496) (han : 0 ≤ an ∧ an ≤ 4503599627370496) (hb0 : 0 ≤ b ∧ b ≤ 4503599627370496) (hbn : 0 ≤ bn ∧ bn ≤ 4503599627370496) :
    Calls Tryd.prog 20 #[.agg #[.int .i64 a, .int .i64 an, .int .i64 b, .int .i64 bn, v]] w fun y w' => y = .returned (.string ⟨(headT a an b bn).toArray⟩) ∧ Below w.heap.size w w' := by
  go_enter Tryd.func20, Tryd.ntmps20
  go_wp2
  obtain ⟨w1, hw1⟩ : ∃ w1, w1 = w.alloc (.cells #[.int .i64 a, .int .i64 an, .int .i64 b, .int .i64 bn, v] tH) := ⟨_, rfl⟩
  have hb1 : Below w.heap.size w w1 := by rw [hw1]; exact (Below.refl _ w).alloc (Nat.le_refl _) _
  have hrow : Row w1 w.heap.size tH [.int .i64 a, .int .i64 an, .int .i64 b, .int .i64 bn, v] := by rw [hw1]; exact Row.fresh w tH _
  rw [← hw1]
  have c0 := hrow.cell 0
  have c1 := hrow.cell 1
  have c2 := hrow.cell 2
  have c3 := hrow.cell 3
  simp only [List.getElem?_cons_zero, List.getElem?_cons_succ] at c0 c1 c2 c3
  obtain ⟨g, hg⟩ : ∃ g, g = w.heap.size := ⟨_, rfl⟩
  rw [← hg] at c0 c1 c2 c3 ⊢
  have HT := hide (show headT a an b bn = (((opensB ++ sideT a an) ++ plusB) ++ sideT b bn) ++ closesB by simp [headT])
  have HS1 := hide (fun w' (hb : Below w.heap.size w w') => side_any a an w' (hE.keep hb) ha han)
  have HS2 := hide (fun w' (hb : Below w.heap.size w w') => side_any b bn w' (hE.keep hb) hb0 hbn)
  have hx := side_len ha han
  have hy := side_len hb0 hbn
  obtain ⟨x, hx'⟩ : ∃ x, x = sideT a an := ⟨_, rfl⟩
  obtain ⟨y, hy'⟩ : ∃ y, y = sideT b bn := ⟨_, rfl⟩
  rw [← hx'] at HT HS1 hx
  rw [← hy'] at HT HS2 hy
  have Hb1 := hide hb1
  have e1 := app_txt [64, 64, 32, 45] x
  have e2 := app_txt ([64, 64, 32, 45] ++ x) [32, 43]
  have e3 := app_txt (([64, 64, 32, 45] ++ x) ++ [32, 43]) y
  have e4 := app_txt ((([64, 64, 32, 45] ++ x) ++ [32, 43]) ++ y) [32, 64, 64, 10]
  obtain ⟨p1, hp1⟩ : ∃ p1, p1 = [64, 64, 32, 45] ++ x := ⟨_, rfl⟩
  have l1 : p1.length ≤ 100 := by rw [hp1]; simp; omega
  rw [← hp1] at e1 e2 e3 e4
  obtain ⟨p2, hp2⟩ : ∃ p2, p2 = p1 ++ [32, 43] := ⟨_, rfl⟩
  have l2 : p2.length ≤ 102 := by rw [hp2]; simp; omega
  rw [← hp2] at e2 e3 e4
  obtain ⟨p3, hp3⟩ : ∃ p3, p3 = p2 ++ y := ⟨_, rfl⟩
  have l3 : p3.length ≤ 200 := by rw [hp3]; simp; omega
  rw [← hp3] at e3 e4
  have HT2 := hide (show headT a an b bn = p3 ++ [32, 64, 64, 10] by rw [HT.out, hp3, hp2, hp1]; rfl)
  have X1 : ¬ 9223372036854775807 < 4 + x.length := by omega
  have X2 : ¬ 9223372036854775807 < p1.length + 2 := by omega
  have X3 : ¬ 9223372036854775807 < p2.length + y.length := by omega
  have X4 : ¬ 9223372036854775807 < p3.length + 4 := by omega
  have Hg := hide hg
  clear hE ha han hb0 hbn hw1 hb1 hrow hx' hy' hp1 hp2 hp3 hg HT
  refine Rg.wp_region_ord (fun w' => w'.cell? ⟨g, 0, none⟩ = some (.int .i64 a) ∧ w'.cell? ⟨g, 1, none⟩ = some (.int .i64 an) ∧ w'.cell? ⟨g, 2, none⟩ = some (.int .i64 b) ∧ w'.cell? ⟨g, 3, none⟩ = some (.int .i64 bn)) [(0, true), (1, true), (2, true), (3, true), (7, true), (8, true), (9, true), (10, true), (4, false), (5, true), (6, true), (11, false), (12, true), (13, true), (14, true)] (by kernel_rfl) (by kernel_rfl) ?_
  simp only [Rg.pick, List.map_cons, List.map_nil, List.getD_cons_zero, List.getD_cons_succ]
  iterate 8 (refine Rg.ord_quiet (v := ?_) rfl (fun w' hS => ?_) ⟨c0, c1, c2, c3⟩ ?_; rotate_left; (obtain ⟨s0, s1, s2, s3⟩ := hS; go_simp; with_reducible rfl); simp only [Act.put, List.setIfInBounds_toArray, List.set_cons_succ, List.set_cons_zero])
  refine Rg.ord_loud rfl (fun K hK => ?_)
  go_simp
  refine (HS1.out _ Hb1.out.drew).mono ?_
  rintro u w2 ⟨rfl, hb2⟩
  have Hb2 := hide (Hb1.out.drew.trans (hb2.mono Hb1.out.drew.size))
  have d0 := cell_keep hb2 (show w1.drew.cell? _ = _ from c0)
  have d1 := cell_keep hb2 (show w1.drew.cell? _ = _ from c1)
  have d2 := cell_keep hb2 (show w1.drew.cell? _ = _ from c2)
  have d3 := cell_keep hb2 (show w1.drew.cell? _ = _ from c3)
  refine hK _ _ (fun _ => ⟨d0, d1, d2, d3⟩) ?_
  clear hK K c0 c1 c2 c3 hb2
  try simp only [Act.put, List.setIfInBounds_toArray, List.set_cons_succ, List.set_cons_zero]
  iterate 2 (refine Rg.ord_quiet (v := ?_) rfl (fun w' hS => ?_) ⟨d0, d1, d2, d3⟩ ?_; rotate_left; (obtain ⟨s0, s1, s2, s3⟩ := hS; go_simp; with_reducible rfl); simp only [Act.put, List.setIfInBounds_toArray, List.set_cons_succ, List.set_cons_zero])
  refine Rg.ord_loud rfl (fun K hK => ?_)
  go_simp
  refine (HS2.out _ Hb2.out).mono ?_
  rintro u w3 ⟨rfl, hb3⟩
  have Hb3 := hide (Hb2.out.trans (hb3.mono Hb2.out.size))
  have f0 := cell_keep hb3 d0
  have f1 := cell_keep hb3 d1
  have f2 := cell_keep hb3 d2
  have f3 := cell_keep hb3 d3
  refine hK _ _ (fun _ => ⟨f0, f1, f2, f3⟩) ?_
  clear hK K d0 d1 d2 d3 hb3
  try simp only [Act.put, List.setIfInBounds_toArray, List.set_cons_succ, List.set_cons_zero]
  iterate 3 (refine Rg.ord_quiet (v := ?_) rfl (fun w' hS => ?_) ⟨f0, f1, f2, f3⟩ ?_; rotate_left; (obtain ⟨s0, s1, s2, s3⟩ := hS; go_simp; with_reducible rfl); simp only [Act.put, List.setIfInBounds_toArray, List.set_cons_succ, List.set_cons_zero])
  refine Rg.ord_nil ?_
  go_wp2
  go_ret
  exact ⟨by rw [HT2.out]; rfl, Hb3.out⟩
end Go.Proofs.YtnehgogajghefaaDoor.Un
namespace Go.Proofs.YtnehgogajghefaaDoor.Un
open Go Go.RowKit Kt Lw Li Df Hu

theorem all_take (p : List UInt8 → Bool) (L : Ls) (k : Nat) (hk : k < L.length) : (L.take (k + 1)).all p = ((L.take k).all p && p (L.getD k [])) := by
  rw [List.take_succ_eq_append_getElem hk, List.all_append]
  simp [List.getElem?_eq_getElem hk]
theorem all_no (p : List UInt8 → Bool) (L : Ls) (k : Nat) (hk : k < L.length) (h : p (L.getD k []) = false) : L.all p = false := by
  rw [List.all_eq_false]
  refine ⟨L[k], List.getElem_mem hk, ?_⟩
  simp [List.getElem?_eq_getElem hk] at h
  simp [h]
set_option maxRecDepth 100000 in
set_option maxHeartbeats 2000000 in
theorem tellable_any (ha han hb hbn : Int) (L : Ls) (A : Option Addr) (c : Nat) (P : Nat → Prop) (w : World) (hs : Vs w P A c (texts L)) (hn : L.length ≤ 1000000) (hx : ∀ x ∈ L, x.length ≤ 9223372036854775807)
    (h1 : -4503599627370496 ≤ ha ∧ ha ≤ 4503599627370496) (h2 : -4503599627370496 ≤ hb ∧ hb ≤ 4503599627370496) :
    Calls Tryd.prog 18 #[.agg #[.int .i64 ha, .int .i64 han, .int .i64 hb, .int .i64 hbn, .slice A L.length c]] w fun y w' => y = .returned (.bool (tell ⟨ha, han, hb, hbn, L⟩)) ∧ Below w.heap.size w w' := by
  have Hs := hide hs.bound
  have HR := hide (fun w' (hb' : Below w.heap.size w w') => hright_any ha han hb hbn L A c _ w' (Lw.Vs.below hs.bound hb') hn)
  have HT := hide (show tell ⟨ha, han, hb, hbn, L⟩ = ((hright ⟨ha, han, hb, hbn, L⟩ && (smlB ha han && smlB hb hbn)) && L.all (fun x => (lns x).length == 1)) from rfl)
  have HX := hide (fun k (hk : k < L.length) => hx (L.getD k []) (by simp [List.getElem?_eq_getElem hk]))
  have HP := hide (fun (e : hright ⟨ha, han, hb, hbn, L⟩ = true) => hright_parts e)
  have HM := hide (show many 45 L ≤ L.length ∧ many 43 L ≤ L.length from ⟨many_le _ _, many_le _ _⟩)
  obtain ⟨N, hN⟩ : ∃ N, N = L.length := ⟨_, rfl⟩
  rw [← hN] at hn HR HX HM ⊢
  have HN := hide hN
  clear hs hx hN
  go_enter Tryd.func18, Tryd.ntmps18
  go_upto_region 1 with fail
  obtain ⟨w1, hw1⟩ : ∃ w1, w1 = w.alloc (.cells #[.int .i64 ha, .int .i64 han, .int .i64 hb, .int .i64 hbn, .slice A N c] tH) := ⟨_, rfl⟩
  have hb1 : Below w.heap.size w w1 := by rw [hw1]; exact (Below.refl _ w).alloc (Nat.le_refl _) _
  have hrow : Row w1 w.heap.size tH [.int .i64 ha, .int .i64 han, .int .i64 hb, .int .i64 hbn, .slice A N c] := by rw [hw1]; exact Row.fresh w tH _
  rw [← hw1]
  have c0 := hrow.cell 0
  have c1 := hrow.cell 1
  have c2 := hrow.cell 2
  have c3 := hrow.cell 3
  have c4 := hrow.cell 4
  simp only [List.getElem?_cons_zero, List.getElem?_cons_succ] at c0 c1 c2 c3 c4
  obtain ⟨g, hg⟩ : ∃ g, g = w.heap.size := ⟨_, rfl⟩
  rw [← hg] at c0 c1 c2 c3 c4 ⊢
  have Hg := hide hg
  have Hb1 := hide hb1
  clear hw1 hb1 hrow hg
  have HR1 := hide (HR.out w1 Hb1.out)
  clear HR
  cases hr : hright ⟨ha, han, hb, hbn, L⟩ with
  | false =>
    rw [hr] at HR1 HT
    have Hno := hide (show tell ⟨ha, han, hb, hbn, L⟩ = false by rw [HT.out]; rfl)
    clear HT HP hr
    go_wp2_with fail
    refine HR1.out.mono ?_
    rintro y w2 ⟨rfl, hb2⟩
    have Hb2 := hide (Hb1.out.trans (hb2.mono Hb1.out.size))
    clear hb2
    go_wp2
    go_ret
    exact ⟨by rw [Hno.out]; rfl, Hb2.out⟩
  | true =>
    obtain ⟨_, _, _, q1, q2⟩ := HP.out hr
    simp only at q1 q2
    have han0 : 0 ≤ han ∧ han ≤ 4503599627370496 := by have := HM.out; omega
    have hbn0 : 0 ≤ hbn ∧ hbn ≤ 4503599627370496 := by have := HM.out; omega
    rw [hr] at HR1 HT
    have HS1 := hide (fun w' => small_any ha han w' h1 han0)
    have HS2 := hide (fun w' => small_any hb hbn w' h2 hbn0)
    clear q1 q2 HP hr
    cases hs1 : smlB ha han with
    | false =>
      rw [hs1] at HS1 HT
      have Hno := hide (show tell ⟨ha, han, hb, hbn, L⟩ = false by rw [HT.out]; rfl)
      clear HT hs1
      go_wp2_with fail
      refine HR1.out.mono ?_
      rintro y w2 ⟨rfl, hb2⟩
      have Hb2 := hide (Hb1.out.trans (hb2.mono Hb1.out.size))
      have d0 := cell_keep hb2 c0
      have d1 := cell_keep hb2 c1
      clear hb2 c0 c1 c2 c3 c4
      go_wp2_with fail
      refine (HS1.out _).mono ?_
      rintro y w3 ⟨rfl, rfl⟩
      go_wp2
      go_ret
      exact ⟨by rw [Hno.out]; rfl, Hb2.out⟩
    | true =>
      rw [hs1] at HS1 HT
      cases hs2 : smlB hb hbn with
      | false =>
        rw [hs2] at HS2 HT
        have Hno := hide (show tell ⟨ha, han, hb, hbn, L⟩ = false by rw [HT.out]; rfl)
        clear HT hs1 hs2
        go_wp2_with fail
        refine HR1.out.mono ?_
        rintro y w2 ⟨rfl, hb2⟩
        have Hb2 := hide (Hb1.out.trans (hb2.mono Hb1.out.size))
        have d0 := cell_keep hb2 c0
        have d1 := cell_keep hb2 c1
        have d2 := cell_keep hb2 c2
        have d3 := cell_keep hb2 c3
        clear hb2 c0 c1 c2 c3 c4
        go_wp2_with fail
        refine (HS1.out _).mono ?_
        rintro y w3 ⟨rfl, rfl⟩
        go_wp2_with fail
        refine (HS2.out _).mono ?_
        rintro y w3 ⟨rfl, rfl⟩
        go_wp2
        go_ret
        exact ⟨by rw [Hno.out]; rfl, Hb2.out⟩
      | true =>
        rw [hs2] at HS2 HT
        have HT2 := hide (show tell ⟨ha, han, hb, hbn, L⟩ = L.all (fun x => (lns x).length == 1) by rw [HT.out]; rfl)
        clear HT hs1 hs2
        go_wp2_with fail
        refine HR1.out.mono ?_
        rintro y w2 ⟨rfl, hb2⟩
        have Hb2 := hide (Hb1.out.trans (hb2.mono Hb1.out.size))
        have d0 := cell_keep hb2 c0
        have d1 := cell_keep hb2 c1
        have d2 := cell_keep hb2 c2
        have d3 := cell_keep hb2 c3
        have d4 := cell_keep hb2 c4
        clear hb2 c0 c1 c2 c3 c4
        go_wp2_with fail
        refine (HS1.out _).mono ?_
        rintro y w3 ⟨rfl, rfl⟩
        go_wp2_with fail
        refine (HS2.out _).mono ?_
        rintro y w3 ⟨rfl, rfl⟩
        go_wp2
        clear d0 d1 d2 d3 d4
        go_loopw [27] (fun i wr => ∃ k : Nat, k ≤ N ∧ i = .int .i64 k ∧ (L.take k).all (fun x => (lns x).length == 1) = true ∧ Below w.heap.size w wr) (fun i _ => N - (intOf i).toNat)
        case atStart => exact ⟨0, Nat.zero_le _, rfl, rfl, Hb2.out⟩
        case round =>
          obtain ⟨k, hk, rfl, hall, hb3⟩ := hrel
          have Hall := hide hall
          have Hb3 := hide hb3
          clear hall hb3
          by_cases hlt : k < N
          · obtain ⟨b, o, rfl, ck⟩ := Hs.out.text Hb3.out (k := k) (by have := HN.out; omega)
            have HC := hide (count_any (L.getD k []) wr (HX.out k hlt))
            have Hst := hide (all_take (fun x => (lns x).length == 1) L k (by have := HN.out; omega))
            have Hna := hide (all_no (fun x => (lns x).length == 1) L k (by have := HN.out; omega))
            generalize L.getD k [] = x at *
            by_cases h1 : (lns x).length = 1
            · have Hnx := hide (show (L.take (k + 1)).all (fun x => (lns x).length == 1) = true by rw [Hst.out, Hall.out, h1]; rfl)
              rw [h1] at HC
              clear h1 Hst Hna Hall
              go_wp2_with fail
              refine HC.out.mono ?_
              rintro y w4 ⟨rfl, hb4⟩
              have Hb4 := hide (Hb3.out.trans (hb4.mono Hb3.out.size))
              clear hb4
              go_wp2
              exact ⟨⟨k + 1, by omega, by go_num, Hnx.out, Hb4.out⟩, by simp [intOf]; omega⟩
            · have Hno := hide (show tell ⟨ha, han, hb, hbn, L⟩ = false by rw [HT2.out]; exact Hna.out (by simpa using h1))
              have e1 : (((lns x).length : Int) == 1) = false := beq_eq_false_iff_ne.2 (by omega)
              generalize ((lns x).length : Int) = z at *
              clear h1 Hst Hna Hall
              go_wp2_with fail
              refine HC.out.mono ?_
              rintro y w4 ⟨rfl, hb4⟩
              have Hb4 := hide (Hb3.out.trans (hb4.mono Hb3.out.size))
              clear hb4
              go_wp2
              go_ret
              exact ⟨by rw [Hno.out]; rfl, Hb4.out⟩
          · obtain rfl : k = N := by omega
            have Hy := hide (show tell ⟨ha, han, hb, hbn, L⟩ = true by
              have := Hall.out
              rw [HN.out, List.take_length] at this
              rw [HT2.out, this])
            clear Hall
            go_wp2
            go_ret
            exact ⟨by rw [Hy.out]; rfl, Hb3.out⟩
end Go.Proofs.YtnehgogajghefaaDoor.Un
namespace Go.Proofs.YtnehgogajghefaaDoor.Un
open Go Go.Shelf Go.RowKit

def bren : Go.Shelf.Ren := ⟨fun | 240 => 32 | 276 => 43 | 166 => 19 | n => n, fun | 70 => 44 | 9 => 9 | 0 => 0 | 72 => 47 | 37 => 45 | 75 => 50 | 80 => 42 | 20 => 20 | 164 => 71 | 3 => 3 | 4 => 4 | 5 => 5 | n => n, fun | n => n⟩
theorem b166 : Go.Proofs.Lays.n166 Tryd.prog bren := {
  mixed := by kernel_rfl
  f166 := Tryd.func19.trans (congrArg some (by kernel_rfl))
  f240 := Tryd.func32.trans (congrArg some (by kernel_rfl))
  f276 := Tryd.func43.trans (congrArg some (by kernel_rfl))
  t0 := Tryd.underlying0
  a0 := Tryd.isAgg0
  z0 := Tryd.sizeOf0
  v0 := Tryd.zeroValue0
  t3 := Tryd.underlying3
  a3 := Tryd.isAgg3
  z3 := Tryd.sizeOf3
  v3 := Tryd.zeroValue3
  t4 := Tryd.underlying4
  a4 := Tryd.isAgg4
  z4 := Tryd.sizeOf4
  v4 := Tryd.zeroValue4
  t9 := Tryd.underlying9
  a9 := Tryd.isAgg9
  z9 := Tryd.sizeOf9
  v9 := Tryd.zeroValue9
  t20 := Tryd.underlying20
  a20 := Tryd.isAgg20
  z20 := Tryd.sizeOf20
  v20 := Tryd.zeroValue20
  t37 := Tryd.underlying45
  a37 := Tryd.isAgg45
  z37 := Tryd.sizeOf45
  v37 := Tryd.zeroValue45
  t70 := Tryd.underlying44
  a70 := Tryd.isAgg44
  z70 := Tryd.sizeOf44
  v70 := Tryd.zeroValue44
  t72 := Tryd.underlying47
  a72 := Tryd.isAgg47
  z72 := Tryd.sizeOf47
  v72 := Tryd.zeroValue47
  t75 := Tryd.underlying50
  a75 := Tryd.isAgg50
  z75 := Tryd.sizeOf50
  v75 := Tryd.zeroValue50
  t164 := Tryd.underlying71
  a164 := Tryd.isAgg71
  z164 := Tryd.sizeOf71
  v164 := Tryd.zeroValue71 }
theorem bext : Builder.Extra Tryd.prog bren := {
  sizeBuilder := by kernel_rfl
  liesBuilder := by kernel_rfl
  t5 := Tryd.underlying5
  a5 := Tryd.isAgg5
  z5 := Tryd.sizeOf5
  v5 := Tryd.zeroValue5
  infoByte := by kernel_rfl
  cellsByte := by kernel_rfl
  sizeByte := by kernel_rfl
  neB5 := by decide }
/-- a builder of the call's own, in block b: what it holds -/
def Bd (w : World) (B b : Nat) (l : List UInt8) : Prop := Lib.IsBuilderF 47 5 B b (Lib.byteCells l) w
theorem Bd.keep {w w' : World} {B b : Nat} {l : List UInt8} (h : Bd w B b l) (hb : Below w.heap.size w w') : Bd w' B b l := by
  have key : ∀ p, Lib.BuilderAtF 47 5 B b p (Lib.byteCells l) w → Lib.BuilderAtF 47 5 B b p (Lib.byteCells l) w' := fun p h => by
    obtain ⟨h1, v, h2, h3, h4⟩ := h
    refine ⟨h1, v, (hb.block b (Array.getElem?_eq_some_iff.1 h2).1).trans h2, ⟨h3.1, ?_⟩, h4⟩
    rcases h3.2 with ⟨e1, e2⟩ | ⟨g, cap, cur, fz, hv, e1, e2, e3⟩
    · exact .inl ⟨e1, e2⟩
    · exact .inr ⟨g, cap, cur, fz, hv, e1, (hb.block g (Array.getElem?_eq_some_iff.1 e2).1).trans e2, e3⟩
  exact h.elim (fun h => .inl (key _ h)) (fun h => .inr (key _ h))
theorem Bd.fresh (w : World) : Bd (w.alloc (.cells #[.pointer none, .slice none 0 0] 47)) w.heap.size w.heap.size [] := Lib.IsBuilderF.of (Lib.fresh_isBuilder 47 5 w)
/-- a text is written -/
theorem write_any (B b : Nat) (l s : List UInt8) (w : World) (h : Bd w B b l) (hlen : l.length + s.length ≤ 140737488355328) (hBw : B ≤ w.heap.size) :
    Calls Tryd.prog 19 #[.pointer (some ⟨b, 0, none⟩), .string ⟨s.toArray⟩] w fun e w' => e = .returned (.tuple #[.int .i64 s.length, .nilIface]) ∧ Bd w' B b (l ++ s) ∧ Below B w w' ∧ Lib.OthersKept 5 (some b) w w' := by
  have hl : (Lib.byteCells l).length = l.length := by simp [Lib.byteCells]
  refine (Any.Builder_WriteString_k b166 bext B b (Lib.byteCells l) ⟨s.toArray⟩ w h (by rw [hl]; exact hlen) hBw).mono ?_
  rintro e w' ⟨h1, h2, h3, h4⟩
  refine ⟨h1, ?_, h3, h4⟩
  unfold Bd
  rw [Lib.byteCells_append]
  exact .inr h2
/-- what it holds, as a text -/
theorem told_any (B b : Nat) (l : List UInt8) (w : World) (h : Bd w B b l) (hBw : B ≤ w.heap.size) :
    Calls Tryd.prog 22 #[.pointer (some ⟨b, 0, none⟩)] w fun e w' => e = .returned (.string ⟨l.toArray⟩) ∧ Below B w w' := by
  refine (Any.Builder_String_any_k Tryd.lays169 Tryd.Builder_Extra_169 B b l w h hBw).mono ?_
  rintro e w' ⟨h1, _, h2, _⟩
  exact ⟨h1, h2⟩
end Go.Proofs.YtnehgogajghefaaDoor.Un
