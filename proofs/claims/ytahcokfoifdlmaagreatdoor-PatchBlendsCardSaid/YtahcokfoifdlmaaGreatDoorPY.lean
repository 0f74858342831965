/-
  patches: what is between two trees.
-/
import Derived.BigQuiet
import Derived.Test.YtahcokfoifdlmaaGreatDoorQPR
import Derived.Test.YtahcokfoifdlmaaGreatDoorQNA
import Derived.Test.YtahcokfoifdlmaaGreatDoorQOA
import Derived.Test.YtahcokfoifdlmaaGreatDoorQWS
namespace Go.Proofs.YtahcokfoifdlmaaGreatDoor.Tr
open Go Go.RowKit Kt Lw Li Lx Df

def slLen : Value → Nat
  | .slice _ n _ => n
  | _ => 0
theorem head_cells {w : World} {A : Option Addr} {c : Nat} {f : Fl} {r : List Fl} (h : Fls w A c (f :: r)) : ∃ b o, A = some ⟨b, o, none⟩ ∧ ∀ wz, Below w.heap.size w wz → wz.cell? ⟨b, o, none⟩ = some (.string ⟨f.path.toArray⟩) ∧ wz.cell? ⟨b, o + 1, none⟩ = some (.string ⟨f.text.toArray⟩) := by
  obtain ⟨b, o, rfl, hlt, he⟩ := h.2 (by simp)
  refine ⟨b, o, rfl, fun wz hz => ?_⟩
  have h1 := he 0 f rfl
  exact ⟨(World.cell?_of_block (a := ⟨b, o, none⟩) (hz.block b hlt)).trans (h1 0 _ rfl), (World.cell?_of_block (a := ⟨b, o + 1, none⟩) (hz.block b hlt)).trans (h1 1 _ rfl)⟩
theorem fls_tail {w : World} {A : Option Addr} {c : Nat} {f : Fl} {r : List Fl} (h : Fls w A c (f :: r)) : Fls w (if c = 1 then A else A.map (·.add (1 * 2))) (c - 1) r := by
  obtain ⟨A', c', e, hf⟩ := fls_drop h 1 (by simp)
  cases e
  exact hf
theorem btw_len {a b : List Fl} {i k : Nat} {D : List Bs} (h : Btw a b i k D) : (D.filterMap (chOf a b)).length ≤ (both a b).length := by
  have h1 := List.length_filterMap_le (chOf a b) D
  have h2 := congrArg List.length h.all
  rw [List.length_append] at h2
  omega
set_option maxHeartbeats 8000000 in
set_option maxRecDepth 100000 in
theorem between_call (a b : List Fl) (A A' : Option Addr) (c c' : Nat) (w : World) (hs : Fls w A c a) (hs' : Fls w A' c' b) (ha : go none a = true) (hb0 : go none b = true) (hn : (both a b).length ≤ 100000) :
    Calls Tryz.prog 14 #[.slice A a.length c, .slice A' b.length c'] w fun y w' => ∃ v, y = .returned v ∧ OwC w' w.heap.size v (betw a b) ∧ Below w.heap.size w w' := by
  have Hs := hide hs
  have Hs' := hide hs'
  have Hst := hide (Btw.start ha hb0)
  have HLn := hide hn
  obtain ⟨N, hN⟩ : ∃ N, N = a.length := ⟨_, rfl⟩
  obtain ⟨M, hM⟩ : ∃ M, M = b.length := ⟨_, rfl⟩
  rw [← hN, ← hM]
  have HN := hide hN
  have HM := hide hM
  clear hs hs' ha hb0 hn hN hM
  go_enter Tryz.func14, Tryz.ntmps14
  go_wp2
  go_loopw [0, 1, 5] (fun s0 s1 s5 wr => ∃ (i k : Nat) (Aa Ab : Option Addr) (ca cb : Nat) (vo : Value) (D : List Bs), s0 = .slice Aa (a.drop i).length ca ∧ s1 = .slice Ab (b.drop k).length cb ∧ vo = s5 ∧ Fls w Aa ca (a.drop i) ∧ Fls w Ab cb (b.drop k) ∧ OwC wr w.heap.size vo (D.filterMap (chOf a b)) ∧ Hid (Btw a b i k D) ∧ Below w.heap.size w wr) (fun s0 s1 _ _ => slLen s0 + slLen s1)
  case atStart => exact ⟨0, 0, A, A', c, c', _, [], by rw [List.drop_zero, HN.out], by rw [List.drop_zero, HM.out], rfl, Hs.out, Hs'.out, OwC.nil _ _, by show Hid _; exact Hst, Below.refl _ _⟩
  case round =>
    obtain ⟨i, k, Aa, Ab, ca, cb, vo, D, rfl, rfl, rfl, hFa, hFb, hown, HBt, hb⟩ := hrel
    clear Hs Hs' Hst
    have Hb := hide hb
    have Hown := hide hown
    have Fa := hide hFa
    have Fb := hide hFb
    have HLen := hide (show (D.filterMap (chOf a b)).length ≤ 100000 from Nat.le_trans (btw_len HBt.out) HLn.out)
    obtain ⟨x, hx⟩ : ∃ x, x = (a.drop i).length := ⟨_, rfl⟩
    obtain ⟨y, hy⟩ : ∃ y, y = (b.drop k).length := ⟨_, rfl⟩
    rw [← hx, ← hy]
    have HX := hide hx
    have HY := hide hy
    clear hb hown hFa hFb hx hy
    by_cases hx0 : x = 0
    · by_cases hy0 : y = 0
      · have Hf := hide (show D.filterMap (chOf a b) = betw a b from HBt.out.full (by have := HX.out; rw [List.length_drop] at this; omega) (by have := HY.out; rw [List.length_drop] at this; omega))
        have gx1 : decide (0 < (x : Int)) = false := decide_eq_false (by omega)
        have gx2 : decide (0 < x) = false := decide_eq_false (by omega)
        have gx3 : ((x : Int) == 0) = true := by rw [beq_iff_eq]; omega
        have gx4 : (x == 0) = true := by rw [beq_iff_eq]; omega
        have gx5 : decide ((x : Int) = 0) = true := decide_eq_true (by omega)
        have gy1 : decide (0 < (y : Int)) = false := decide_eq_false (by omega)
        have gy2 : decide (0 < y) = false := decide_eq_false (by omega)
        have gy3 : ((y : Int) == 0) = true := by rw [beq_iff_eq]; omega
        have gy4 : (y == 0) = true := by rw [beq_iff_eq]; omega
        have gy5 : decide ((y : Int) = 0) = true := decide_eq_true (by omega)
        clear hx0 hy0
        go_wp2
        go_ret
        exact ⟨_, rfl, by rw [← Hf.out]; exact Hown.out, Hb.out⟩
      · obtain ⟨g, hgB⟩ : ∃ g, b[k]? = some g := ⟨_, List.getElem?_eq_getElem (show k < b.length by have := HY.out; rw [List.length_drop] at this; omega)⟩
        have hdB := (take_next hgB).2
        have hFb := Fb.out
        rw [hdB] at hFb
        obtain ⟨b2, o2, rfl, HB0⟩ := head_cells hFb
        have HTb := hide (fls_tail hFb)
        obtain ⟨B2, hB2⟩ : ∃ B2, (if cb = 1 then some (⟨b2, o2, none⟩ : Addr) else (some (⟨b2, o2, none⟩ : Addr)).map (·.add (1 * 2))) = B2 := ⟨_, rfl⟩
        have hrB := fun w => run_cutF1 w (some ⟨b2, o2, none⟩) y cb 1 (by omega) (by have := Fb.out.1; have := HY.out; omega)
        rw [hB2] at HTb hrB
        simp only [Int.cast_ofNat_Int] at hrB
        have HY1 := hide (show y - 1 = (b.drop (k + 1)).length by have := HY.out; rw [List.length_drop] at this ⊢; omega)
        obtain ⟨r, yt⟩ := g
        have HBc := hide HB0
        clear hB2 hFb hdB HB0
        have gx1 : decide (0 < (x : Int)) = false := decide_eq_false (by omega)
        have gx2 : decide (0 < x) = false := decide_eq_false (by omega)
        have gx3 : ((x : Int) == 0) = true := by rw [beq_iff_eq]; omega
        have gx4 : (x == 0) = true := by rw [beq_iff_eq]; omega
        have gx5 : decide ((x : Int) = 0) = true := decide_eq_true (by omega)
        have gy1 : decide (0 < (y : Int)) = true := decide_eq_true (by omega)
        have gy2 : decide (0 < y) = true := decide_eq_true (by omega)
        have gy3 : ((y : Int) == 0) = false := by rw [beq_eq_false_iff_ne]; omega
        have gy4 : (y == 0) = false := by rw [beq_eq_false_iff_ne]; omega
        have gy6 : 0 < y := by omega
        have gy5 : decide ((y : Int) = 0) = false := decide_eq_false (by omega)
        obtain ⟨hbt, hch⟩ := HBt.out.came hgB (by intro f hf; have := (List.getElem?_eq_some_iff.1 hf).1; have := HX.out; rw [List.length_drop] at this; omega)
        have Hbt := hide hbt
        have Hco := hide (show (D ++ [r]).filterMap (chOf a b) = D.filterMap (chOf a b) ++ [⟨r, false, yt⟩] by rw [chOf_snoc, hch]; rfl)
        have Hyp := hide (show 0 < y by omega)
        clear hbt hch hgB hx0 hy0
        go_wp2
        obtain ⟨d0, d1⟩ := HBc.out wr.drew Hb.out.drew
        refine Rg.wp_region_ord (fun w' => w'.cell? ⟨b2, o2, none⟩ = some (.string ⟨r.toArray⟩) ∧ w'.cell? ⟨b2, o2 + 1, none⟩ = some (.string ⟨yt.toArray⟩)) [(0, true), (1, true), (2, true), (3, true), (4, true), (5, true), (6, true), (7, true), (8, true), (9, true), (10, true), (11, true), (12, true), (13, true), (14, true), (15, true), (16, true), (17, true), (18, true), (19, true)] (by kernel_rfl) (by kernel_rfl) ?_
        simp only [Rg.pick, List.map_cons, List.map_nil, List.getD_cons_zero, List.getD_cons_succ]
        iterate 4 (refine Rg.ord_quiet (v := ?_) rfl (fun w' hS => ?_) ⟨d0, d1⟩ ?_; rotate_left; (obtain ⟨t0, t1⟩ := hS; go_simp; with_reducible rfl); simp only [Act.put, List.setIfInBounds_toArray, List.set_cons_succ, List.set_cons_zero])
        iterate 4 (refine Rg.ord_guarded (v := ?_) (by rfl) (fun w' hS => ?_) ⟨d0, d1⟩ ?_; rotate_left; (obtain ⟨t0, t1⟩ := hS; go_simp; with_reducible rfl); simp only [Act.put, List.setIfInBounds_toArray, List.set_cons_succ, List.set_cons_zero])
        iterate 9 (refine Rg.ord_passed (by rfl) ⟨d0, d1⟩ ?_; simp only [Act.put, List.setIfInBounds_toArray, List.set_cons_succ, List.set_cons_zero])
        iterate 1 (refine Rg.ord_guarded (v := ?_) (by rfl) (fun w' hS => ?_) ⟨d0, d1⟩ ?_; rotate_left; (obtain ⟨t0, t1⟩ := hS; go_simp; with_reducible rfl); simp only [Act.put, List.setIfInBounds_toArray, List.set_cons_succ, List.set_cons_zero])
        iterate 2 (refine Rg.ord_quiet (v := ?_) rfl (fun w' hS => ?_) ⟨d0, d1⟩ ?_; rotate_left; (obtain ⟨t0, t1⟩ := hS; go_simp; with_reducible rfl); simp only [Act.put, List.setIfInBounds_toArray, List.set_cons_succ, List.set_cons_zero])
        refine Rg.ord_nil ?_
        have Hb := hide Hb.out.drew
        clear d0 d1
        go_wp2
        obtain ⟨d0, d1⟩ := HBc.out wr.drew.drew Hb.out.drew
        refine Rg.wp_region_ord (fun w' => w'.cell? ⟨b2, o2, none⟩ = some (.string ⟨r.toArray⟩) ∧ w'.cell? ⟨b2, o2 + 1, none⟩ = some (.string ⟨yt.toArray⟩)) [(0, true), (1, true), (2, true), (3, true), (4, true), (5, true), (6, true), (7, true), (8, true), (9, true), (10, true), (11, true), (12, true), (13, true), (14, true)] (by kernel_rfl) (by kernel_rfl) ?_
        simp only [Rg.pick, List.map_cons, List.map_nil, List.getD_cons_zero, List.getD_cons_succ]
        iterate 4 (refine Rg.ord_quiet (v := ?_) rfl (fun w' hS => ?_) ⟨d0, d1⟩ ?_; rotate_left; (obtain ⟨t0, t1⟩ := hS; go_simp; with_reducible rfl); simp only [Act.put, List.setIfInBounds_toArray, List.set_cons_succ, List.set_cons_zero])
        iterate 9 (refine Rg.ord_passed (by rfl) ⟨d0, d1⟩ ?_; simp only [Act.put, List.setIfInBounds_toArray, List.set_cons_succ, List.set_cons_zero])
        iterate 2 (refine Rg.ord_quiet (v := ?_) rfl (fun w' hS => ?_) ⟨d0, d1⟩ ?_; rotate_left; (obtain ⟨t0, t1⟩ := hS; go_simp; with_reducible rfl); simp only [Act.put, List.setIfInBounds_toArray, List.set_cons_succ, List.set_cons_zero])
        refine Rg.ord_nil ?_
        have Hb := hide Hb.out.drew
        clear d0 d1
        go_wp2
        obtain ⟨d0, d1⟩ := HBc.out wr.drew.drew.drew Hb.out.drew
        refine Rg.wp_region_ord (fun w' => w'.cell? ⟨b2, o2, none⟩ = some (.string ⟨r.toArray⟩) ∧ w'.cell? ⟨b2, o2 + 1, none⟩ = some (.string ⟨yt.toArray⟩)) [(0, true), (1, true), (2, true), (3, true), (4, true), (5, true), (6, true), (7, true), (8, true), (9, true), (10, false), (11, false), (12, true)] (by kernel_rfl) (by kernel_rfl) ?_
        simp only [Rg.pick, List.map_cons, List.map_nil, List.getD_cons_zero, List.getD_cons_succ]
        iterate 10 (refine Rg.ord_quiet (v := ?_) rfl (fun w' hS => ?_) ⟨d0, d1⟩ ?_; rotate_left; (obtain ⟨t0, t1⟩ := hS; go_simp; with_reducible rfl); simp only [Act.put, List.setIfInBounds_toArray, List.set_cons_succ, List.set_cons_zero])
        refine Rg.ord_loud rfl (fun K hK => ?_)
        go_simp
        have hb3 : Below wr.drew.drew.drew.heap.size wr.drew.drew.drew (wr.drew.drew.drew.alloc (.cells #[.string ⟨r.toArray⟩, .bool false, .string ⟨yt.toArray⟩] tC)) := (Below.refl _ wr.drew.drew.drew).alloc (Nat.le_refl _) _
        refine hK _ _ (fun _ => ⟨agr d0 hb3, agr d1 hb3⟩) ?_
        clear hK K
        refine Rg.ord_loud rfl (fun K hK => ?_)
        refine wp_pushC (W := wr.drew.drew.drew) (.tmp 84) (.tmp 94) rfl w.heap.size w vo (D.filterMap (chOf a b)) ⟨r, false, yt⟩ _ rfl rfl rfl Hown.out (by have := HLen.out; omega) Hb.out.drew Hb.out.size ?_
        intro v7 w7 hown7 hb7 hg7
        obtain ⟨e0, e1⟩ := HBc.out w7 hb7
        obtain ⟨A7, c7, e7, _⟩ := hown7.fls
        obtain ⟨n7, hn7⟩ : ∃ n, n = List.length (D.filterMap (chOf a b) ++ [(⟨r, false, yt⟩ : Ch)]) := ⟨_, rfl⟩
        rw [← hn7] at e7
        subst e7
        have Hown7 := hide hown7
        have Hb7 := hide hb7
        refine hK _ _ (fun _ => ⟨e0, e1⟩) ?_
        clear hK K hb3 hg7 hn7 hown7 hb7 d0 d1
        simp only [Act.put, List.setIfInBounds_toArray, List.set_cons_succ, List.set_cons_zero]
        iterate 1 (refine Rg.ord_quiet (v := ?_) rfl (fun w' hS => ?_) ⟨e0, e1⟩ ?_; rotate_left; (obtain ⟨t0, t1⟩ := hS; go_simp; with_reducible rfl); simp only [Act.put, List.setIfInBounds_toArray, List.set_cons_succ, List.set_cons_zero])
        refine Rg.ord_nil ?_
        clear e0 e1
        go_wp2
        exact ⟨⟨i, k + 1, _, _, _, _, _, D ++ [r], by rw [HX.out], by rw [HY1.out], rfl, Fa.out, HTb.out, by rw [Hco.out]; exact Hown7.out, by show Hid _; exact Hbt, Hb7.out⟩, by simp only [slLen]; have := Hyp.out; omega⟩
    · by_cases hy0 : y = 0
      · obtain ⟨f, hfA⟩ : ∃ f, a[i]? = some f := ⟨_, List.getElem?_eq_getElem (show i < a.length by have := HX.out; rw [List.length_drop] at this; omega)⟩
        have hdA := (take_next hfA).2
        have hFa := Fa.out
        rw [hdA] at hFa
        obtain ⟨b1, o1, rfl, HA0⟩ := head_cells hFa
        have HTa := hide (fls_tail hFa)
        obtain ⟨A2, hA2⟩ : ∃ A2, (if ca = 1 then some (⟨b1, o1, none⟩ : Addr) else (some (⟨b1, o1, none⟩ : Addr)).map (·.add (1 * 2))) = A2 := ⟨_, rfl⟩
        have hrA := fun w => run_cutF1 w (some ⟨b1, o1, none⟩) x ca 1 (by omega) (by have := Fa.out.1; have := HX.out; omega)
        rw [hA2] at HTa hrA
        simp only [Int.cast_ofNat_Int] at hrA
        have HX1 := hide (show x - 1 = (a.drop (i + 1)).length by have := HX.out; rw [List.length_drop] at this ⊢; omega)
        obtain ⟨p, xt⟩ := f
        have HA := hide HA0
        clear hA2 hFa hdA HA0
        have gx1 : decide (0 < (x : Int)) = true := decide_eq_true (by omega)
        have gx2 : decide (0 < x) = true := decide_eq_true (by omega)
        have gx3 : ((x : Int) == 0) = false := by rw [beq_eq_false_iff_ne]; omega
        have gx4 : (x == 0) = false := by rw [beq_eq_false_iff_ne]; omega
        have gx6 : 0 < x := by omega
        have gx5 : decide ((x : Int) = 0) = false := decide_eq_false (by omega)
        have gy1 : decide (0 < (y : Int)) = false := decide_eq_false (by omega)
        have gy2 : decide (0 < y) = false := decide_eq_false (by omega)
        have gy3 : ((y : Int) == 0) = true := by rw [beq_iff_eq]; omega
        have gy4 : (y == 0) = true := by rw [beq_iff_eq]; omega
        have gy5 : decide ((y : Int) = 0) = true := decide_eq_true (by omega)
        obtain ⟨hbt, hch⟩ := HBt.out.gone hfA (by intro g hg; have := (List.getElem?_eq_some_iff.1 hg).1; have := HY.out; rw [List.length_drop] at this; omega)
        have Hbt := hide hbt
        have Hco := hide (show (D ++ [p]).filterMap (chOf a b) = D.filterMap (chOf a b) ++ [⟨p, true, []⟩] by rw [chOf_snoc, hch]; rfl)
        have Hxp := hide (show 0 < x by omega)
        clear hbt hch hfA hx0 hy0
        go_wp2
        obtain ⟨a0, a1⟩ := HA.out wr.drew Hb.out.drew
        refine Rg.wp_region_ord (fun w' => w'.cell? ⟨b1, o1, none⟩ = some (.string ⟨p.toArray⟩) ∧ w'.cell? ⟨b1, o1 + 1, none⟩ = some (.string ⟨xt.toArray⟩)) [(0, true), (1, true), (2, true), (3, true), (4, true), (5, true), (6, true), (7, true), (8, true), (9, true), (10, true), (11, true), (12, true), (13, true), (14, true), (15, true), (16, true), (17, true), (18, true), (19, true)] (by kernel_rfl) (by kernel_rfl) ?_
        simp only [Rg.pick, List.map_cons, List.map_nil, List.getD_cons_zero, List.getD_cons_succ]
        iterate 4 (refine Rg.ord_quiet (v := ?_) rfl (fun w' hS => ?_) ⟨a0, a1⟩ ?_; rotate_left; (obtain ⟨s0, s1⟩ := hS; go_simp; with_reducible rfl); simp only [Act.put, List.setIfInBounds_toArray, List.set_cons_succ, List.set_cons_zero])
        iterate 4 (refine Rg.ord_passed (by rfl) ⟨a0, a1⟩ ?_; simp only [Act.put, List.setIfInBounds_toArray, List.set_cons_succ, List.set_cons_zero])
        iterate 9 (refine Rg.ord_passed (by rfl) ⟨a0, a1⟩ ?_; simp only [Act.put, List.setIfInBounds_toArray, List.set_cons_succ, List.set_cons_zero])
        iterate 1 (refine Rg.ord_passed (by rfl) ⟨a0, a1⟩ ?_; simp only [Act.put, List.setIfInBounds_toArray, List.set_cons_succ, List.set_cons_zero])
        iterate 2 (refine Rg.ord_quiet (v := ?_) rfl (fun w' hS => ?_) ⟨a0, a1⟩ ?_; rotate_left; (obtain ⟨s0, s1⟩ := hS; go_simp; with_reducible rfl); simp only [Act.put, List.setIfInBounds_toArray, List.set_cons_succ, List.set_cons_zero])
        refine Rg.ord_nil ?_
        have Hb := hide Hb.out.drew
        clear a0 a1
        obtain ⟨a0, a1⟩ := HA.out wr.drew Hb.out
        go_wp2_with (refine wpList_pushC rfl (.tmp 59) (.tmp 65) rfl w.heap.size w vo _ ⟨p, true, []⟩ _ rfl rfl rfl Hown.out.drew (by have := HLen.out; omega) Hb.out Hb.out.size ?_; intro v7 w7 hown7 hb7 _; have Hown7 := hide hown7; have Hb7 := hide hb7; clear hown7 hb7)
        exact ⟨⟨i + 1, k, _, _, _, _, v7, D ++ [p], by rw [HX1.out], by rw [HY.out], rfl, HTa.out, Fb.out, by rw [Hco.out]; exact Hown7.out, by show Hid _; exact Hbt, Hb7.out⟩, by simp only [slLen]; have := Hxp.out; omega⟩
      · obtain ⟨f, hfA⟩ : ∃ f, a[i]? = some f := ⟨_, List.getElem?_eq_getElem (show i < a.length by have := HX.out; rw [List.length_drop] at this; omega)⟩
        have hdA := (take_next hfA).2
        have hFa := Fa.out
        rw [hdA] at hFa
        obtain ⟨b1, o1, rfl, HA0⟩ := head_cells hFa
        have HTa := hide (fls_tail hFa)
        obtain ⟨A2, hA2⟩ : ∃ A2, (if ca = 1 then some (⟨b1, o1, none⟩ : Addr) else (some (⟨b1, o1, none⟩ : Addr)).map (·.add (1 * 2))) = A2 := ⟨_, rfl⟩
        have hrA := fun w => run_cutF1 w (some ⟨b1, o1, none⟩) x ca 1 (by omega) (by have := Fa.out.1; have := HX.out; omega)
        rw [hA2] at HTa hrA
        simp only [Int.cast_ofNat_Int] at hrA
        have HX1 := hide (show x - 1 = (a.drop (i + 1)).length by have := HX.out; rw [List.length_drop] at this ⊢; omega)
        obtain ⟨p, xt⟩ := f
        have HA := hide HA0
        clear hA2 hFa hdA HA0
        obtain ⟨g, hgB⟩ : ∃ g, b[k]? = some g := ⟨_, List.getElem?_eq_getElem (show k < b.length by have := HY.out; rw [List.length_drop] at this; omega)⟩
        have hdB := (take_next hgB).2
        have hFb := Fb.out
        rw [hdB] at hFb
        obtain ⟨b2, o2, rfl, HB0⟩ := head_cells hFb
        have HTb := hide (fls_tail hFb)
        obtain ⟨B2, hB2⟩ : ∃ B2, (if cb = 1 then some (⟨b2, o2, none⟩ : Addr) else (some (⟨b2, o2, none⟩ : Addr)).map (·.add (1 * 2))) = B2 := ⟨_, rfl⟩
        have hrB := fun w => run_cutF1 w (some ⟨b2, o2, none⟩) y cb 1 (by omega) (by have := Fb.out.1; have := HY.out; omega)
        rw [hB2] at HTb hrB
        simp only [Int.cast_ofNat_Int] at hrB
        have HY1 := hide (show y - 1 = (b.drop (k + 1)).length by have := HY.out; rw [List.length_drop] at this ⊢; omega)
        obtain ⟨r, yt⟩ := g
        have HBc := hide HB0
        clear hB2 hFb hdB HB0
        have gx1 : decide (0 < (x : Int)) = true := decide_eq_true (by omega)
        have gx2 : decide (0 < x) = true := decide_eq_true (by omega)
        have gx3 : ((x : Int) == 0) = false := by rw [beq_eq_false_iff_ne]; omega
        have gx4 : (x == 0) = false := by rw [beq_eq_false_iff_ne]; omega
        have gx6 : 0 < x := by omega
        have gx5 : decide ((x : Int) = 0) = false := decide_eq_false (by omega)
        have gy1 : decide (0 < (y : Int)) = true := decide_eq_true (by omega)
        have gy2 : decide (0 < y) = true := decide_eq_true (by omega)
        have gy3 : ((y : Int) == 0) = false := by rw [beq_eq_false_iff_ne]; omega
        have gy4 : (y == 0) = false := by rw [beq_eq_false_iff_ne]; omega
        have gy6 : 0 < y := by omega
        have gy5 : decide ((y : Int) = 0) = false := decide_eq_false (by omega)
        cases hl : Op.bytesLess p r with
        | true =>
          obtain ⟨hbt, hch⟩ := HBt.out.gone hfA (by intro g hg; rw [hgB] at hg; cases hg; exact hl)
          have Hbt := hide hbt
          have Hco := hide (show (D ++ [p]).filterMap (chOf a b) = D.filterMap (chOf a b) ++ [⟨p, true, []⟩] by rw [chOf_snoc, hch]; rfl)
          have Hxp := hide (show 0 < x by omega)
          clear hbt hch hfA hx0 hy0 hgB
          go_wp2
          obtain ⟨a0, a1⟩ := HA.out wr.drew Hb.out.drew
          obtain ⟨d0, d1⟩ := HBc.out wr.drew Hb.out.drew
          refine Rg.wp_region_ord (fun w' => (w'.cell? ⟨b1, o1, none⟩ = some (.string ⟨p.toArray⟩) ∧ w'.cell? ⟨b1, o1 + 1, none⟩ = some (.string ⟨xt.toArray⟩)) ∧ w'.cell? ⟨b2, o2, none⟩ = some (.string ⟨r.toArray⟩) ∧ w'.cell? ⟨b2, o2 + 1, none⟩ = some (.string ⟨yt.toArray⟩)) [(0, true), (1, true), (2, true), (3, true), (4, true), (5, true), (6, true), (7, true), (8, true), (9, true), (10, true), (11, true), (12, true), (13, true), (14, true), (15, true), (16, true), (17, true), (18, true), (19, true)] (by kernel_rfl) (by kernel_rfl) ?_
          simp only [Rg.pick, List.map_cons, List.map_nil, List.getD_cons_zero, List.getD_cons_succ]
          iterate 4 (refine Rg.ord_quiet (v := ?_) rfl (fun w' hS => ?_) ⟨⟨a0, a1⟩, d0, d1⟩ ?_; rotate_left; (obtain ⟨⟨s0, s1⟩, t0, t1⟩ := hS; go_simp; with_reducible rfl); simp only [Act.put, List.setIfInBounds_toArray, List.set_cons_succ, List.set_cons_zero])
          iterate 4 (refine Rg.ord_guarded (v := ?_) (by rfl) (fun w' hS => ?_) ⟨⟨a0, a1⟩, d0, d1⟩ ?_; rotate_left; (obtain ⟨⟨s0, s1⟩, t0, t1⟩ := hS; go_simp; with_reducible rfl); simp only [Act.put, List.setIfInBounds_toArray, List.set_cons_succ, List.set_cons_zero])
          iterate 9 (refine Rg.ord_guarded (v := ?_) (by rfl) (fun w' hS => ?_) ⟨⟨a0, a1⟩, d0, d1⟩ ?_; rotate_left; (obtain ⟨⟨s0, s1⟩, t0, t1⟩ := hS; go_simp; with_reducible rfl); simp only [Act.put, List.setIfInBounds_toArray, List.set_cons_succ, List.set_cons_zero])
          iterate 1 (refine Rg.ord_guarded (v := ?_) (by rfl) (fun w' hS => ?_) ⟨⟨a0, a1⟩, d0, d1⟩ ?_; rotate_left; (obtain ⟨⟨s0, s1⟩, t0, t1⟩ := hS; go_simp; with_reducible rfl); simp only [Act.put, List.setIfInBounds_toArray, List.set_cons_succ, List.set_cons_zero])
          iterate 2 (refine Rg.ord_quiet (v := ?_) rfl (fun w' hS => ?_) ⟨⟨a0, a1⟩, d0, d1⟩ ?_; rotate_left; (obtain ⟨⟨s0, s1⟩, t0, t1⟩ := hS; go_simp; with_reducible rfl); simp only [Act.put, List.setIfInBounds_toArray, List.set_cons_succ, List.set_cons_zero])
          refine Rg.ord_nil ?_
          have Hb := hide Hb.out.drew
          clear a0 a1 d0 d1
          obtain ⟨a0, a1⟩ := HA.out wr.drew Hb.out
          go_wp2_with (refine wpList_pushC rfl (.tmp 59) (.tmp 65) rfl w.heap.size w vo _ ⟨p, true, []⟩ _ rfl rfl rfl Hown.out.drew (by have := HLen.out; omega) Hb.out Hb.out.size ?_; intro v7 w7 hown7 hb7 _; have Hown7 := hide hown7; have Hb7 := hide hb7; clear hown7 hb7)
          exact ⟨⟨i + 1, k, _, _, _, _, v7, D ++ [p], by rw [HX1.out], by rw [HY.out], rfl, HTa.out, Fb.out, by rw [Hco.out]; exact Hown7.out, by show Hid _; exact Hbt, Hb7.out⟩, by simp only [slLen]; have := Hxp.out; omega⟩
        | false =>
          cases hl2 : Op.bytesLess r p with
          | true =>
            obtain ⟨hbt, hch⟩ := HBt.out.came hgB (by intro f hf; rw [hfA] at hf; cases hf; exact hl2)
            have Hbt := hide hbt
            have Hco := hide (show (D ++ [r]).filterMap (chOf a b) = D.filterMap (chOf a b) ++ [⟨r, false, yt⟩] by rw [chOf_snoc, hch]; rfl)
            have Hyp := hide (show 0 < y by omega)
            clear hbt hch hgB hx0 hy0 hfA
            go_wp2
            obtain ⟨a0, a1⟩ := HA.out wr.drew Hb.out.drew
            obtain ⟨d0, d1⟩ := HBc.out wr.drew Hb.out.drew
            refine Rg.wp_region_ord (fun w' => (w'.cell? ⟨b1, o1, none⟩ = some (.string ⟨p.toArray⟩) ∧ w'.cell? ⟨b1, o1 + 1, none⟩ = some (.string ⟨xt.toArray⟩)) ∧ w'.cell? ⟨b2, o2, none⟩ = some (.string ⟨r.toArray⟩) ∧ w'.cell? ⟨b2, o2 + 1, none⟩ = some (.string ⟨yt.toArray⟩)) [(0, true), (1, true), (2, true), (3, true), (4, true), (5, true), (6, true), (7, true), (8, true), (9, true), (10, true), (11, true), (12, true), (13, true), (14, true), (15, true), (16, true), (17, true), (18, true), (19, true)] (by kernel_rfl) (by kernel_rfl) ?_
            simp only [Rg.pick, List.map_cons, List.map_nil, List.getD_cons_zero, List.getD_cons_succ]
            iterate 4 (refine Rg.ord_quiet (v := ?_) rfl (fun w' hS => ?_) ⟨⟨a0, a1⟩, d0, d1⟩ ?_; rotate_left; (obtain ⟨⟨s0, s1⟩, t0, t1⟩ := hS; go_simp; with_reducible rfl); simp only [Act.put, List.setIfInBounds_toArray, List.set_cons_succ, List.set_cons_zero])
            iterate 4 (refine Rg.ord_guarded (v := ?_) (by rfl) (fun w' hS => ?_) ⟨⟨a0, a1⟩, d0, d1⟩ ?_; rotate_left; (obtain ⟨⟨s0, s1⟩, t0, t1⟩ := hS; go_simp; with_reducible rfl); simp only [Act.put, List.setIfInBounds_toArray, List.set_cons_succ, List.set_cons_zero])
            iterate 9 (refine Rg.ord_guarded (v := ?_) (by rfl) (fun w' hS => ?_) ⟨⟨a0, a1⟩, d0, d1⟩ ?_; rotate_left; (obtain ⟨⟨s0, s1⟩, t0, t1⟩ := hS; go_simp; with_reducible rfl); simp only [Act.put, List.setIfInBounds_toArray, List.set_cons_succ, List.set_cons_zero])
            iterate 1 (refine Rg.ord_guarded (v := ?_) (by rfl) (fun w' hS => ?_) ⟨⟨a0, a1⟩, d0, d1⟩ ?_; rotate_left; (obtain ⟨⟨s0, s1⟩, t0, t1⟩ := hS; go_simp; with_reducible rfl); simp only [Act.put, List.setIfInBounds_toArray, List.set_cons_succ, List.set_cons_zero])
            iterate 2 (refine Rg.ord_quiet (v := ?_) rfl (fun w' hS => ?_) ⟨⟨a0, a1⟩, d0, d1⟩ ?_; rotate_left; (obtain ⟨⟨s0, s1⟩, t0, t1⟩ := hS; go_simp; with_reducible rfl); simp only [Act.put, List.setIfInBounds_toArray, List.set_cons_succ, List.set_cons_zero])
            refine Rg.ord_nil ?_
            have Hb := hide Hb.out.drew
            clear a0 a1 d0 d1
            go_wp2
            obtain ⟨a0, a1⟩ := HA.out wr.drew.drew Hb.out.drew
            obtain ⟨d0, d1⟩ := HBc.out wr.drew.drew Hb.out.drew
            refine Rg.wp_region_ord (fun w' => (w'.cell? ⟨b1, o1, none⟩ = some (.string ⟨p.toArray⟩) ∧ w'.cell? ⟨b1, o1 + 1, none⟩ = some (.string ⟨xt.toArray⟩)) ∧ w'.cell? ⟨b2, o2, none⟩ = some (.string ⟨r.toArray⟩) ∧ w'.cell? ⟨b2, o2 + 1, none⟩ = some (.string ⟨yt.toArray⟩)) [(0, true), (1, true), (2, true), (3, true), (4, true), (5, true), (6, true), (7, true), (8, true), (9, true), (10, true), (11, true), (12, true), (13, true), (14, true)] (by kernel_rfl) (by kernel_rfl) ?_
            simp only [Rg.pick, List.map_cons, List.map_nil, List.getD_cons_zero, List.getD_cons_succ]
            iterate 4 (refine Rg.ord_quiet (v := ?_) rfl (fun w' hS => ?_) ⟨⟨a0, a1⟩, d0, d1⟩ ?_; rotate_left; (obtain ⟨⟨s0, s1⟩, t0, t1⟩ := hS; go_simp; with_reducible rfl); simp only [Act.put, List.setIfInBounds_toArray, List.set_cons_succ, List.set_cons_zero])
            iterate 9 (refine Rg.ord_guarded (v := ?_) (by rfl) (fun w' hS => ?_) ⟨⟨a0, a1⟩, d0, d1⟩ ?_; rotate_left; (obtain ⟨⟨s0, s1⟩, t0, t1⟩ := hS; go_simp; with_reducible rfl); simp only [Act.put, List.setIfInBounds_toArray, List.set_cons_succ, List.set_cons_zero])
            iterate 2 (refine Rg.ord_quiet (v := ?_) rfl (fun w' hS => ?_) ⟨⟨a0, a1⟩, d0, d1⟩ ?_; rotate_left; (obtain ⟨⟨s0, s1⟩, t0, t1⟩ := hS; go_simp; with_reducible rfl); simp only [Act.put, List.setIfInBounds_toArray, List.set_cons_succ, List.set_cons_zero])
            refine Rg.ord_nil ?_
            have Hb := hide Hb.out.drew
            clear a0 a1 d0 d1
            go_wp2
            obtain ⟨d0, d1⟩ := HBc.out wr.drew.drew.drew Hb.out.drew
            refine Rg.wp_region_ord (fun w' => w'.cell? ⟨b2, o2, none⟩ = some (.string ⟨r.toArray⟩) ∧ w'.cell? ⟨b2, o2 + 1, none⟩ = some (.string ⟨yt.toArray⟩)) [(0, true), (1, true), (2, true), (3, true), (4, true), (5, true), (6, true), (7, true), (8, true), (9, true), (10, false), (11, false), (12, true)] (by kernel_rfl) (by kernel_rfl) ?_
            simp only [Rg.pick, List.map_cons, List.map_nil, List.getD_cons_zero, List.getD_cons_succ]
            iterate 10 (refine Rg.ord_quiet (v := ?_) rfl (fun w' hS => ?_) ⟨d0, d1⟩ ?_; rotate_left; (obtain ⟨t0, t1⟩ := hS; go_simp; with_reducible rfl); simp only [Act.put, List.setIfInBounds_toArray, List.set_cons_succ, List.set_cons_zero])
            refine Rg.ord_loud rfl (fun K hK => ?_)
            go_simp
            have hb3 : Below wr.drew.drew.drew.heap.size wr.drew.drew.drew (wr.drew.drew.drew.alloc (.cells #[.string ⟨r.toArray⟩, .bool false, .string ⟨yt.toArray⟩] tC)) := (Below.refl _ wr.drew.drew.drew).alloc (Nat.le_refl _) _
            refine hK _ _ (fun _ => ⟨agr d0 hb3, agr d1 hb3⟩) ?_
            clear hK K
            refine Rg.ord_loud rfl (fun K hK => ?_)
            refine wp_pushC (W := wr.drew.drew.drew) (.tmp 84) (.tmp 94) rfl w.heap.size w vo (D.filterMap (chOf a b)) ⟨r, false, yt⟩ _ rfl rfl rfl Hown.out (by have := HLen.out; omega) Hb.out.drew Hb.out.size ?_
            intro v7 w7 hown7 hb7 hg7
            obtain ⟨e0, e1⟩ := HBc.out w7 hb7
            obtain ⟨A7, c7, e7, _⟩ := hown7.fls
            obtain ⟨n7, hn7⟩ : ∃ n, n = List.length (D.filterMap (chOf a b) ++ [(⟨r, false, yt⟩ : Ch)]) := ⟨_, rfl⟩
            rw [← hn7] at e7
            subst e7
            have Hown7 := hide hown7
            have Hb7 := hide hb7
            refine hK _ _ (fun _ => ⟨e0, e1⟩) ?_
            clear hK K hb3 hg7 hn7 hown7 hb7 d0 d1
            simp only [Act.put, List.setIfInBounds_toArray, List.set_cons_succ, List.set_cons_zero]
            iterate 1 (refine Rg.ord_quiet (v := ?_) rfl (fun w' hS => ?_) ⟨e0, e1⟩ ?_; rotate_left; (obtain ⟨t0, t1⟩ := hS; go_simp; with_reducible rfl); simp only [Act.put, List.setIfInBounds_toArray, List.set_cons_succ, List.set_cons_zero])
            refine Rg.ord_nil ?_
            clear e0 e1
            go_wp2
            exact ⟨⟨i, k + 1, _, _, _, _, _, D ++ [r], by rw [HX.out], by rw [HY1.out], rfl, Fa.out, HTb.out, by rw [Hco.out]; exact Hown7.out, by show Hid _; exact Hbt, Hb7.out⟩, by simp only [slLen]; have := Hyp.out; omega⟩
          | false =>
            have hpe : p = r := by
              rcases lt_tri p r with h | h | h
              · rw [show Op.bytesLess p r = true from h] at hl; cases hl
              · exact h
              · rw [show Op.bytesLess r p = true from h] at hl2; cases hl2
            obtain ⟨hbt, hch⟩ := HBt.out.same hfA hgB hpe
            have Hbt := hide hbt
            have Hxp := hide (show 0 < x ∧ 0 < y by omega)
            clear hbt hfA hgB hx0 hy0
            simp only at hch
            by_cases hte : xt = yt
            · have Hco := hide (show (D ++ [r]).filterMap (chOf a b) = D.filterMap (chOf a b) by rw [chOf_snoc, hch, if_pos hte]; simp)
              have q1 : (xt != yt) = false := by simpa using hte
              have q2 : (xt == yt) = true := by simpa using hte
              clear hte hch hpe
              go_wp2
              obtain ⟨a0, a1⟩ := HA.out wr.drew Hb.out.drew
              obtain ⟨d0, d1⟩ := HBc.out wr.drew Hb.out.drew
              refine Rg.wp_region_ord (fun w' => (w'.cell? ⟨b1, o1, none⟩ = some (.string ⟨p.toArray⟩) ∧ w'.cell? ⟨b1, o1 + 1, none⟩ = some (.string ⟨xt.toArray⟩)) ∧ w'.cell? ⟨b2, o2, none⟩ = some (.string ⟨r.toArray⟩) ∧ w'.cell? ⟨b2, o2 + 1, none⟩ = some (.string ⟨yt.toArray⟩)) [(0, true), (1, true), (2, true), (3, true), (4, true), (5, true), (6, true), (7, true), (8, true), (9, true), (10, true), (11, true), (12, true), (13, true), (14, true), (15, true), (16, true), (17, true), (18, true), (19, true)] (by kernel_rfl) (by kernel_rfl) ?_
              simp only [Rg.pick, List.map_cons, List.map_nil, List.getD_cons_zero, List.getD_cons_succ]
              iterate 4 (refine Rg.ord_quiet (v := ?_) rfl (fun w' hS => ?_) ⟨⟨a0, a1⟩, d0, d1⟩ ?_; rotate_left; (obtain ⟨⟨s0, s1⟩, t0, t1⟩ := hS; go_simp; with_reducible rfl); simp only [Act.put, List.setIfInBounds_toArray, List.set_cons_succ, List.set_cons_zero])
              iterate 4 (refine Rg.ord_guarded (v := ?_) (by rfl) (fun w' hS => ?_) ⟨⟨a0, a1⟩, d0, d1⟩ ?_; rotate_left; (obtain ⟨⟨s0, s1⟩, t0, t1⟩ := hS; go_simp; with_reducible rfl); simp only [Act.put, List.setIfInBounds_toArray, List.set_cons_succ, List.set_cons_zero])
              iterate 9 (refine Rg.ord_guarded (v := ?_) (by rfl) (fun w' hS => ?_) ⟨⟨a0, a1⟩, d0, d1⟩ ?_; rotate_left; (obtain ⟨⟨s0, s1⟩, t0, t1⟩ := hS; go_simp; with_reducible rfl); simp only [Act.put, List.setIfInBounds_toArray, List.set_cons_succ, List.set_cons_zero])
              iterate 1 (refine Rg.ord_guarded (v := ?_) (by rfl) (fun w' hS => ?_) ⟨⟨a0, a1⟩, d0, d1⟩ ?_; rotate_left; (obtain ⟨⟨s0, s1⟩, t0, t1⟩ := hS; go_simp; with_reducible rfl); simp only [Act.put, List.setIfInBounds_toArray, List.set_cons_succ, List.set_cons_zero])
              iterate 2 (refine Rg.ord_quiet (v := ?_) rfl (fun w' hS => ?_) ⟨⟨a0, a1⟩, d0, d1⟩ ?_; rotate_left; (obtain ⟨⟨s0, s1⟩, t0, t1⟩ := hS; go_simp; with_reducible rfl); simp only [Act.put, List.setIfInBounds_toArray, List.set_cons_succ, List.set_cons_zero])
              refine Rg.ord_nil ?_
              have Hb := hide Hb.out.drew
              clear a0 a1 d0 d1
              go_wp2
              obtain ⟨a0, a1⟩ := HA.out wr.drew.drew Hb.out.drew
              obtain ⟨d0, d1⟩ := HBc.out wr.drew.drew Hb.out.drew
              refine Rg.wp_region_ord (fun w' => (w'.cell? ⟨b1, o1, none⟩ = some (.string ⟨p.toArray⟩) ∧ w'.cell? ⟨b1, o1 + 1, none⟩ = some (.string ⟨xt.toArray⟩)) ∧ w'.cell? ⟨b2, o2, none⟩ = some (.string ⟨r.toArray⟩) ∧ w'.cell? ⟨b2, o2 + 1, none⟩ = some (.string ⟨yt.toArray⟩)) [(0, true), (1, true), (2, true), (3, true), (4, true), (5, true), (6, true), (7, true), (8, true), (9, true), (10, true), (11, true), (12, true), (13, true), (14, true)] (by kernel_rfl) (by kernel_rfl) ?_
              simp only [Rg.pick, List.map_cons, List.map_nil, List.getD_cons_zero, List.getD_cons_succ]
              iterate 4 (refine Rg.ord_quiet (v := ?_) rfl (fun w' hS => ?_) ⟨⟨a0, a1⟩, d0, d1⟩ ?_; rotate_left; (obtain ⟨⟨s0, s1⟩, t0, t1⟩ := hS; go_simp; with_reducible rfl); simp only [Act.put, List.setIfInBounds_toArray, List.set_cons_succ, List.set_cons_zero])
              iterate 9 (refine Rg.ord_guarded (v := ?_) (by rfl) (fun w' hS => ?_) ⟨⟨a0, a1⟩, d0, d1⟩ ?_; rotate_left; (obtain ⟨⟨s0, s1⟩, t0, t1⟩ := hS; go_simp; with_reducible rfl); simp only [Act.put, List.setIfInBounds_toArray, List.set_cons_succ, List.set_cons_zero])
              iterate 2 (refine Rg.ord_quiet (v := ?_) rfl (fun w' hS => ?_) ⟨⟨a0, a1⟩, d0, d1⟩ ?_; rotate_left; (obtain ⟨⟨s0, s1⟩, t0, t1⟩ := hS; go_simp; with_reducible rfl); simp only [Act.put, List.setIfInBounds_toArray, List.set_cons_succ, List.set_cons_zero])
              refine Rg.ord_nil ?_
              have Hb := hide Hb.out.drew
              clear a0 a1 d0 d1
              go_wp2
              obtain ⟨a0, a1⟩ := HA.out wr.drew.drew.drew Hb.out.drew
              obtain ⟨d0, d1⟩ := HBc.out wr.drew.drew.drew Hb.out.drew
              refine Rg.wp_region_ord (fun w' => (w'.cell? ⟨b1, o1, none⟩ = some (.string ⟨p.toArray⟩) ∧ w'.cell? ⟨b1, o1 + 1, none⟩ = some (.string ⟨xt.toArray⟩)) ∧ w'.cell? ⟨b2, o2, none⟩ = some (.string ⟨r.toArray⟩) ∧ w'.cell? ⟨b2, o2 + 1, none⟩ = some (.string ⟨yt.toArray⟩)) [(0, true), (1, true), (2, true), (3, true), (4, true), (5, true), (6, true), (7, true), (8, true)] (by kernel_rfl) (by kernel_rfl) ?_
              simp only [Rg.pick, List.map_cons, List.map_nil, List.getD_cons_zero, List.getD_cons_succ]
              iterate 9 (refine Rg.ord_quiet (v := ?_) rfl (fun w' hS => ?_) ⟨⟨a0, a1⟩, d0, d1⟩ ?_; rotate_left; (obtain ⟨⟨s0, s1⟩, t0, t1⟩ := hS; go_simp; with_reducible rfl); simp only [Act.put, List.setIfInBounds_toArray, List.set_cons_succ, List.set_cons_zero])
              refine Rg.ord_nil ?_
              have Hb := hide Hb.out.drew
              clear a0 a1 d0 d1
              go_wp2
              refine Rg.wp_region_ord (fun _ => True) [(0, true), (1, true), (2, true), (3, true), (4, true), (5, true)] (by kernel_rfl) (by kernel_rfl) ?_
              simp only [Rg.pick, List.map_cons, List.map_nil, List.getD_cons_zero, List.getD_cons_succ]
              iterate 6 (refine Rg.ord_quiet (v := ?_) rfl (fun w' hS => ?_) trivial ?_; rotate_left; (go_simp; with_reducible rfl); simp only [Act.put, List.setIfInBounds_toArray, List.set_cons_succ, List.set_cons_zero])
              refine Rg.ord_nil ?_
              go_wp2
              exact ⟨⟨i + 1, k + 1, _, _, _, _, _, D ++ [r], by rw [HX1.out], by rw [HY1.out], rfl, HTa.out, HTb.out, by rw [Hco.out]; exact Hown.out, by show Hid _; exact Hbt, Hb.out.drew⟩, by simp only [slLen]; have := Hxp.out; omega⟩
            · have Hco := hide (show (D ++ [r]).filterMap (chOf a b) = D.filterMap (chOf a b) ++ [⟨r, false, yt⟩] by rw [chOf_snoc, hch, if_neg hte]; rfl)
              have q1 : (xt != yt) = true := by simpa using hte
              have q2 : (xt == yt) = false := by simpa using hte
              clear hte hch hpe
              go_wp2
              obtain ⟨a0, a1⟩ := HA.out wr.drew Hb.out.drew
              obtain ⟨d0, d1⟩ := HBc.out wr.drew Hb.out.drew
              refine Rg.wp_region_ord (fun w' => (w'.cell? ⟨b1, o1, none⟩ = some (.string ⟨p.toArray⟩) ∧ w'.cell? ⟨b1, o1 + 1, none⟩ = some (.string ⟨xt.toArray⟩)) ∧ w'.cell? ⟨b2, o2, none⟩ = some (.string ⟨r.toArray⟩) ∧ w'.cell? ⟨b2, o2 + 1, none⟩ = some (.string ⟨yt.toArray⟩)) [(0, true), (1, true), (2, true), (3, true), (4, true), (5, true), (6, true), (7, true), (8, true), (9, true), (10, true), (11, true), (12, true), (13, true), (14, true), (15, true), (16, true), (17, true), (18, true), (19, true)] (by kernel_rfl) (by kernel_rfl) ?_
              simp only [Rg.pick, List.map_cons, List.map_nil, List.getD_cons_zero, List.getD_cons_succ]
              iterate 4 (refine Rg.ord_quiet (v := ?_) rfl (fun w' hS => ?_) ⟨⟨a0, a1⟩, d0, d1⟩ ?_; rotate_left; (obtain ⟨⟨s0, s1⟩, t0, t1⟩ := hS; go_simp; with_reducible rfl); simp only [Act.put, List.setIfInBounds_toArray, List.set_cons_succ, List.set_cons_zero])
              iterate 4 (refine Rg.ord_guarded (v := ?_) (by rfl) (fun w' hS => ?_) ⟨⟨a0, a1⟩, d0, d1⟩ ?_; rotate_left; (obtain ⟨⟨s0, s1⟩, t0, t1⟩ := hS; go_simp; with_reducible rfl); simp only [Act.put, List.setIfInBounds_toArray, List.set_cons_succ, List.set_cons_zero])
              iterate 9 (refine Rg.ord_guarded (v := ?_) (by rfl) (fun w' hS => ?_) ⟨⟨a0, a1⟩, d0, d1⟩ ?_; rotate_left; (obtain ⟨⟨s0, s1⟩, t0, t1⟩ := hS; go_simp; with_reducible rfl); simp only [Act.put, List.setIfInBounds_toArray, List.set_cons_succ, List.set_cons_zero])
              iterate 1 (refine Rg.ord_guarded (v := ?_) (by rfl) (fun w' hS => ?_) ⟨⟨a0, a1⟩, d0, d1⟩ ?_; rotate_left; (obtain ⟨⟨s0, s1⟩, t0, t1⟩ := hS; go_simp; with_reducible rfl); simp only [Act.put, List.setIfInBounds_toArray, List.set_cons_succ, List.set_cons_zero])
              iterate 2 (refine Rg.ord_quiet (v := ?_) rfl (fun w' hS => ?_) ⟨⟨a0, a1⟩, d0, d1⟩ ?_; rotate_left; (obtain ⟨⟨s0, s1⟩, t0, t1⟩ := hS; go_simp; with_reducible rfl); simp only [Act.put, List.setIfInBounds_toArray, List.set_cons_succ, List.set_cons_zero])
              refine Rg.ord_nil ?_
              have Hb := hide Hb.out.drew
              clear a0 a1 d0 d1
              go_wp2
              obtain ⟨a0, a1⟩ := HA.out wr.drew.drew Hb.out.drew
              obtain ⟨d0, d1⟩ := HBc.out wr.drew.drew Hb.out.drew
              refine Rg.wp_region_ord (fun w' => (w'.cell? ⟨b1, o1, none⟩ = some (.string ⟨p.toArray⟩) ∧ w'.cell? ⟨b1, o1 + 1, none⟩ = some (.string ⟨xt.toArray⟩)) ∧ w'.cell? ⟨b2, o2, none⟩ = some (.string ⟨r.toArray⟩) ∧ w'.cell? ⟨b2, o2 + 1, none⟩ = some (.string ⟨yt.toArray⟩)) [(0, true), (1, true), (2, true), (3, true), (4, true), (5, true), (6, true), (7, true), (8, true), (9, true), (10, true), (11, true), (12, true), (13, true), (14, true)] (by kernel_rfl) (by kernel_rfl) ?_
              simp only [Rg.pick, List.map_cons, List.map_nil, List.getD_cons_zero, List.getD_cons_succ]
              iterate 4 (refine Rg.ord_quiet (v := ?_) rfl (fun w' hS => ?_) ⟨⟨a0, a1⟩, d0, d1⟩ ?_; rotate_left; (obtain ⟨⟨s0, s1⟩, t0, t1⟩ := hS; go_simp; with_reducible rfl); simp only [Act.put, List.setIfInBounds_toArray, List.set_cons_succ, List.set_cons_zero])
              iterate 9 (refine Rg.ord_guarded (v := ?_) (by rfl) (fun w' hS => ?_) ⟨⟨a0, a1⟩, d0, d1⟩ ?_; rotate_left; (obtain ⟨⟨s0, s1⟩, t0, t1⟩ := hS; go_simp; with_reducible rfl); simp only [Act.put, List.setIfInBounds_toArray, List.set_cons_succ, List.set_cons_zero])
              iterate 2 (refine Rg.ord_quiet (v := ?_) rfl (fun w' hS => ?_) ⟨⟨a0, a1⟩, d0, d1⟩ ?_; rotate_left; (obtain ⟨⟨s0, s1⟩, t0, t1⟩ := hS; go_simp; with_reducible rfl); simp only [Act.put, List.setIfInBounds_toArray, List.set_cons_succ, List.set_cons_zero])
              refine Rg.ord_nil ?_
              have Hb := hide Hb.out.drew
              clear a0 a1 d0 d1
              go_wp2
              obtain ⟨a0, a1⟩ := HA.out wr.drew.drew.drew Hb.out.drew
              obtain ⟨d0, d1⟩ := HBc.out wr.drew.drew.drew Hb.out.drew
              refine Rg.wp_region_ord (fun w' => (w'.cell? ⟨b1, o1, none⟩ = some (.string ⟨p.toArray⟩) ∧ w'.cell? ⟨b1, o1 + 1, none⟩ = some (.string ⟨xt.toArray⟩)) ∧ w'.cell? ⟨b2, o2, none⟩ = some (.string ⟨r.toArray⟩) ∧ w'.cell? ⟨b2, o2 + 1, none⟩ = some (.string ⟨yt.toArray⟩)) [(0, true), (1, true), (2, true), (3, true), (4, true), (5, true), (6, true), (7, true), (8, true)] (by kernel_rfl) (by kernel_rfl) ?_
              simp only [Rg.pick, List.map_cons, List.map_nil, List.getD_cons_zero, List.getD_cons_succ]
              iterate 9 (refine Rg.ord_quiet (v := ?_) rfl (fun w' hS => ?_) ⟨⟨a0, a1⟩, d0, d1⟩ ?_; rotate_left; (obtain ⟨⟨s0, s1⟩, t0, t1⟩ := hS; go_simp; with_reducible rfl); simp only [Act.put, List.setIfInBounds_toArray, List.set_cons_succ, List.set_cons_zero])
              refine Rg.ord_nil ?_
              have Hb := hide Hb.out.drew
              clear a0 a1 d0 d1
              go_wp2
              obtain ⟨d0, d1⟩ := HBc.out wr.drew.drew.drew.drew Hb.out.drew
              refine Rg.wp_region_ord (fun w' => w'.cell? ⟨b2, o2, none⟩ = some (.string ⟨r.toArray⟩) ∧ w'.cell? ⟨b2, o2 + 1, none⟩ = some (.string ⟨yt.toArray⟩)) [(0, true), (1, true), (2, true), (3, true), (4, true), (5, true), (6, true), (7, true), (8, true), (9, true), (10, false), (11, false), (12, true)] (by kernel_rfl) (by kernel_rfl) ?_
              simp only [Rg.pick, List.map_cons, List.map_nil, List.getD_cons_zero, List.getD_cons_succ]
              iterate 10 (refine Rg.ord_quiet (v := ?_) rfl (fun w' hS => ?_) ⟨d0, d1⟩ ?_; rotate_left; (obtain ⟨t0, t1⟩ := hS; go_simp; with_reducible rfl); simp only [Act.put, List.setIfInBounds_toArray, List.set_cons_succ, List.set_cons_zero])
              refine Rg.ord_loud rfl (fun K hK => ?_)
              go_simp
              have hb3 : Below wr.drew.drew.drew.drew.heap.size wr.drew.drew.drew.drew (wr.drew.drew.drew.drew.alloc (.cells #[.string ⟨r.toArray⟩, .bool false, .string ⟨yt.toArray⟩] tC)) := (Below.refl _ wr.drew.drew.drew.drew).alloc (Nat.le_refl _) _
              refine hK _ _ (fun _ => ⟨agr d0 hb3, agr d1 hb3⟩) ?_
              clear hK K
              refine Rg.ord_loud rfl (fun K hK => ?_)
              refine wp_pushC (W := wr.drew.drew.drew.drew) (.tmp 23) (.tmp 33) rfl w.heap.size w vo (D.filterMap (chOf a b)) ⟨r, false, yt⟩ _ rfl rfl rfl Hown.out (by have := HLen.out; omega) Hb.out.drew Hb.out.size ?_
              intro v7 w7 hown7 hb7 hg7
              obtain ⟨e0, e1⟩ := HBc.out w7 hb7
              obtain ⟨A7, c7, e7, _⟩ := hown7.fls
              obtain ⟨n7, hn7⟩ : ∃ n, n = List.length (D.filterMap (chOf a b) ++ [(⟨r, false, yt⟩ : Ch)]) := ⟨_, rfl⟩
              rw [← hn7] at e7
              subst e7
              have Hown7 := hide hown7
              have Hb7 := hide hb7
              refine hK _ _ (fun _ => ⟨e0, e1⟩) ?_
              clear hK K hb3 hg7 hn7 hown7 hb7 d0 d1
              simp only [Act.put, List.setIfInBounds_toArray, List.set_cons_succ, List.set_cons_zero]
              iterate 1 (refine Rg.ord_quiet (v := ?_) rfl (fun w' hS => ?_) ⟨e0, e1⟩ ?_; rotate_left; (obtain ⟨t0, t1⟩ := hS; go_simp; with_reducible rfl); simp only [Act.put, List.setIfInBounds_toArray, List.set_cons_succ, List.set_cons_zero])
              refine Rg.ord_nil ?_
              clear e0 e1
              go_wp2
              refine Rg.wp_region_ord (fun _ => True) [(0, true), (1, true), (2, true), (3, true), (4, true), (5, true)] (by kernel_rfl) (by kernel_rfl) ?_
              simp only [Rg.pick, List.map_cons, List.map_nil, List.getD_cons_zero, List.getD_cons_succ]
              iterate 6 (refine Rg.ord_quiet (v := ?_) rfl (fun w' hS => ?_) trivial ?_; rotate_left; (go_simp; with_reducible rfl); simp only [Act.put, List.setIfInBounds_toArray, List.set_cons_succ, List.set_cons_zero])
              refine Rg.ord_nil ?_
              go_wp2
              exact ⟨⟨i + 1, k + 1, _, _, _, _, _, D ++ [r], by rw [HX1.out], by rw [HY1.out], rfl, HTa.out, HTb.out, by rw [Hco.out]; exact Hown7.out, by show Hid _; exact Hbt, Hb7.out.drew⟩, by simp only [slLen]; have := Hxp.out; omega⟩
end Go.Proofs.YtahcokfoifdlmaaGreatDoor.Tr
