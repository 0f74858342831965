/-
  Two sides' trees, together, where they are looked at; the chapter's example.
-/
import Derived.BigQuiet
import Derived.Test.YtghnieddokhagaaOF
import Derived.Test.YtghnieddokhagaaNG
import Derived.Test.YtghnieddokhagaaNL
namespace Go.Proofs.Ytghnieddokhagaa.Tr
open Go Go.RowKit Kt Lw Li Lx Df Al

theorem mgT_600 {o a b : Bs} (ho : o.length ≤ 40000) (ha : a.length ≤ 40000) (hb : b.length ≤ 40000) : (mgT o a b).1.length ≤ 1000000000 := by
  unfold mgT
  split
  · simp only []; omega
  · split
    · simp only []; omega
    · split
      · split <;> (simp only []; omega)
      · have h := (mgL_sum (lns o) (lns a) (lns b)).2
        have h1 := lns_len_le o
        have h2 := lns_len_le a
        have h3 := lns_len_le b
        rw [lns_flat, lns_flat, lns_flat] at h
        simp only []
        omega
theorem bfine_any (o a b : List Fl) (Ao Aa Ab : Option Addr) (co ca cb : Nat) (w : World) (ho : Fls w Ao co o) (ha : Fls w Aa ca a) (hb : Fls w Ab cb b) (fo : fine o = true) (fa : fine a = true) (fb : fine b = true) :
    Calls Try.prog 9 #[.slice Ao o.length co, .slice Aa a.length ca, .slice Ab b.length cb] w fun y w' =>
      ∃ v u, y = .returned (.tuple #[v, u]) ∧ OwF w' w.heap.size v (trees mgT o a b).1 ∧ OwT w' w.heap.size tS u (trees mgT o a b).2 ∧ Below w.heap.size w w' := by
  have lo := fun p => get_le (p := p) (fine_texts fo).2.1
  have la := fun p => get_le (p := p) (fine_texts fa).2.1
  have lb := fun p => get_le (p := p) (fine_texts fb).2.1
  refine btrees_any o a b Ao Aa Ab co ca cb w ho ha hb (fine_is fo).1 (fine_is fa).1 (fine_is fb).1 (fine_texts fo).1 (fine_texts fa).1 (fine_texts fb).1 (fun p => ?_) (fun p wz => ?_)
  · have := lo p; have := la p; have := lb p
    exact mgT_600 (by omega) (by omega) (by omega)
  · exact mtext_any _ _ _ wz (lo p) (la p) (lb p)
/-- a row of cells that holds files -/
theorem row_fls (L : List Fl) {w : World} {g : Nat} (hr : Row w g tF (L.flatMap flC)) : Fls w (some ⟨g, 0, none⟩) L.length L :=
  ⟨Nat.le_refl _, fun _ => ⟨g, 0, rfl, hr.lt, fun j e hj k u hk => by
    have hk2 : k < 2 := (List.getElem?_eq_some_iff.1 hk).1
    show w.cell? ⟨g, 0 + 2 * j + k, none⟩ = some u
    rw [hr.cell, Nat.zero_add, flat_at flC 2 flC_len L j k e hj hk2]
    exact hk⟩⟩
set_option maxRecDepth 100000 in
set_option maxHeartbeats 4000000 in
theorem wake_any (w : World) : Calls Try.prog 7 #[] w fun y w' => y = .returned (.bool true) ∧ Below w.heap.size w w' := by
  have H1 := hide (fun (wz : World) Aa Ab ca cb (ha : Fls wz Aa ca [⟨[120], [49]⟩]) (hb : Fls wz Ab cb [⟨[121], [50]⟩]) => by
    have h := bfine_any [] [⟨[120], [49]⟩] [⟨[121], [50]⟩] none Aa Ab 0 ca cb wz (Fls.nil _ _ _) ha hb wake_fine.1 wake_fine.2.2.1 wake_fine.2.2.2
    rw [wake_one] at h
    exact h)
  have H2 := hide (fun (wz : World) Ao Aa Ab co ca cb (ho : Fls wz Ao co [⟨[120], [48]⟩]) (ha : Fls wz Aa ca [⟨[120], [49]⟩]) (hb : Fls wz Ab cb [⟨[121], [50]⟩]) => by
    have h := bfine_any [⟨[120], [48]⟩] [⟨[120], [49]⟩] [⟨[121], [50]⟩] Ao Aa Ab co ca cb wz ho ha hb wake_fine.2.1 wake_fine.2.2.1 wake_fine.2.2.2
    rw [wake_two] at h
    exact h)
  obtain ⟨s, hs⟩ : ∃ s, s = w.heap.size := ⟨_, rfl⟩
  obtain ⟨w2, hw2⟩ : ∃ w2, w2 = (w.alloc (.cells #[.string ⟨#[120]⟩, .string ⟨#[49]⟩] tF)).alloc (.cells #[.string ⟨#[121]⟩, .string ⟨#[50]⟩] tF) := ⟨_, rfl⟩
  have ra : Row w2 s tF [.string ⟨#[120]⟩, .string ⟨#[49]⟩] := by rw [hw2, hs]; exact (Row.fresh w tF _).alloc _
  have rb : Row w2 (s + 1) tF [.string ⟨#[121]⟩, .string ⟨#[50]⟩] := by rw [hw2, hs]; exact Row.new _ tF (by simp) rfl
  have B2 : Below w.heap.size w w2 := by rw [hw2]; exact ((Below.refl _ w).alloc (Nat.le_refl _) _).alloc (by simp) _
  have sz : w2.heap.size = s + 2 := by rw [hw2, hs]; simp
  have flsOf : ∀ (wz : World) (g : Nat) (f : Fl), Row wz g tF (flC f) → Fls wz (some ⟨g, 0, none⟩) 1 [f] := fun wz g f hr => ⟨Nat.le_refl _, fun _ => ⟨g, 0, rfl, hr.lt, fun j e hj k u hk => by
    rcases j with _ | j
    · obtain rfl : f = e := Option.some.inj hj
      rw [hr.cell]
      simp only [Nat.mul_zero, Nat.zero_add]
      exact hk
    · simp at hj⟩⟩
  have Ra := hide ra
  have Rb := hide rb
  have HB2 := hide B2
  have HSz := hide sz
  have HW2 := hide hw2
  have HS := hide hs
  have HFl := hide flsOf
  clear ra rb B2 sz hw2 hs flsOf
  go_enter Try.func7, Try.ntmps7
  go_wp2_with (first | rw [← HW2.out, ← HS.out] | fail)
  refine (H1.out w2 _ _ _ _ (HFl.out w2 s ⟨[120], [49]⟩ Ra.out) (HFl.out w2 (s + 1) ⟨[121], [50]⟩ Rb.out)).mono ?_
  rintro y w3 ⟨v3, v4, rfl, o3, o4, hb3⟩
  obtain ⟨w4, hw4⟩ : ∃ w4, w4 = w3.alloc (.cells #[.string ⟨#[120]⟩, .string ⟨#[48]⟩] tF) := ⟨_, rfl⟩
  obtain ⟨s3, hs3⟩ : ∃ s3, s3 = w3.heap.size := ⟨_, rfl⟩
  have hb34 : Below w3.heap.size w3 w4 := by rw [hw4]; exact (Below.refl _ w3).alloc (Nat.le_refl _) _
  have r4 : Row w4 s3 tF (flC ⟨[120], [48]⟩) := by rw [hw4, hs3]; exact Row.fresh w3 tF _
  have R4 := hide r4
  have B4 := hide (hb3.trans (hb34.mono hb3.size))
  have O3 := hide (o3.keep hb34)
  have O4 := hide (o4.kept hb34)
  have HW4 := hide hw4
  have HS3 := hide hs3
  clear H1 o3 o4 hb3 hb34 r4 hw4 hs3
  go_wp2_with (first | rw [← HW4.out, ← HS3.out] | fail)
  refine (H2.out w4 _ _ _ _ _ _ (HFl.out w4 s3 ⟨[120], [48]⟩ R4.out) (HFl.out w4 s ⟨[120], [49]⟩ (Ra.out.below B4.out Ra.out.lt)) (HFl.out w4 (s + 1) ⟨[121], [50]⟩ (Rb.out.below B4.out Rb.out.lt))).mono ?_
  rintro y w5 ⟨v5, v6, rfl, o5, o6, hb5⟩
  obtain ⟨A4, c4, rfl, _⟩ := O4.out.vs
  have HO3 := O3.out.keep hb5
  obtain ⟨A3, c3, rfl, f3⟩ := HO3.fls
  obtain ⟨A5, c5, rfl, f5⟩ := o5.fls
  obtain ⟨A6, c6, rfl, f6⟩ := o6.vs
  have B5 := hide (B4.out.trans (hb5.mono B4.out.size))
  have F3 := hide f3
  have F5 := hide f5
  have F6 := hide f6
  clear H2 O3 O4 R4 o5 o6 hb5 HO3 f3 f5 f6 B4
  have HC := hide (show ∀ wz, Below w2.heap.size w2 wz → wz.cell? ⟨s, 0, none⟩ = some (.string ⟨#[120]⟩) ∧ wz.cell? ⟨s, 1, none⟩ = some (.string ⟨#[49]⟩) ∧ wz.cell? ⟨s + 1, 0, none⟩ = some (.string ⟨#[121]⟩) ∧ wz.cell? ⟨s + 1, 1, none⟩ = some (.string ⟨#[50]⟩) from fun wz h =>
    ⟨(Ra.out.below h Ra.out.lt).cell 0, (Ra.out.below h Ra.out.lt).cell 1, (Rb.out.below h Rb.out.lt).cell 0, (Rb.out.below h Rb.out.lt).cell 1⟩)
  clear Ra Rb HFl
  go_wp2
  refine Rg.wp_region_ord (fun w' => w'.cell? ⟨s, 0, none⟩ = some (.string ⟨#[120]⟩) ∧ w'.cell? ⟨s, 1, none⟩ = some (.string ⟨#[49]⟩) ∧ w'.cell? ⟨s + 1, 0, none⟩ = some (.string ⟨#[121]⟩) ∧ w'.cell? ⟨s + 1, 1, none⟩ = some (.string ⟨#[50]⟩)) [(0, true), (1, true), (2, true), (3, true), (4, true), (5, true), (6, true), (7, true), (8, true), (9, true), (10, true), (11, false), (12, false), (13, true), (14, true), (15, true), (16, true), (17, false), (18, true), (19, true), (20, true), (21, false), (22, false), (23, true), (24, true)] (by kernel_rfl) (by kernel_rfl) ?_
  simp only [Rg.pick, List.map_cons, List.map_nil, List.getD_cons_zero, List.getD_cons_succ]
  have B5d := hide B5.out.drew
  iterate 4 (refine Rg.ord_quiet (v := ?_) rfl (fun w' hS => ?_) (HC.out _ B5d.out) ?_; rotate_left; (obtain ⟨k0, k1, k2, k3⟩ := hS; go_simp; with_reducible rfl); simp only [Act.put, List.setIfInBounds_toArray, List.set_cons_succ, List.set_cons_zero])
  iterate 7 (refine Rg.ord_guarded (v := ?_) (by rfl) (fun w' hS => ?_) (HC.out _ B5d.out) ?_; rotate_left; (obtain ⟨k0, k1, k2, k3⟩ := hS; go_simp; with_reducible rfl); simp only [Act.put, List.setIfInBounds_toArray, List.set_cons_succ, List.set_cons_zero])
  refine Rg.ord_loud (by rfl) (fun K hK => ?_)
  go_simp
  have hb6 : Below w5.heap.size w5 ((w5.alloc (.cells #[.string ⟨#[120]⟩, .string ⟨#[49]⟩, .string ⟨#[121]⟩, .string ⟨#[50]⟩] tF)).drew) := ((Below.refl _ w5).alloc (Nat.le_refl _) _).drew
  have L6 := hide (row_fls [⟨[120], [49]⟩, ⟨[121], [50]⟩] (Row.fresh w5 tF #[.string ⟨#[120]⟩, .string ⟨#[49]⟩, .string ⟨#[121]⟩, .string ⟨#[50]⟩]).drew)
  generalize ((w5.alloc (.cells #[.string ⟨#[120]⟩, .string ⟨#[49]⟩, .string ⟨#[121]⟩, .string ⟨#[50]⟩] tF)).drew) = w6 at *
  have B6 := hide (B5.out.trans (hb6.mono B5.out.size))
  have F3_6 := hide (F3.out.keep hb6)
  have F5_6 := hide (F5.out.keep hb6)
  have F6_6 := hide (Lw.Vs.below F6.out hb6)
  clear hb6 F3 F5 F6 B5d B5
  refine hK _ _ (fun _ => HC.out _ B6.out) ?_
  clear hK K
  have HS1 := hide (same_any [⟨[120], [49]⟩, ⟨[121], [50]⟩] [⟨[120], [49]⟩, ⟨[121], [50]⟩] A3 _ c3 2 w6 F3_6.out L6.out (by decide))
  rw [decide_eq_true rfl] at HS1
  refine Rg.ord_loud (by rfl) (fun K hK => ?_)
  go_simp
  refine HS1.out.mono ?_
  rintro y w7 ⟨rfl, hb7⟩
  have B7 := hide (B6.out.trans (hb7.mono B6.out.size))
  have F3_7 := hide (F3_6.out.keep hb7)
  have F5_7 := hide (F5_6.out.keep hb7)
  have F6_7 := hide (Lw.Vs.below F6_6.out hb7)
  clear hb7 F3_6 F5_6 F6_6 HS1 B6 L6
  refine hK _ _ (fun _ => HC.out _ B7.out) ?_
  clear hK K
  iterate 2 (refine Rg.ord_quiet (v := ?_) rfl (fun w' hS => ?_) (HC.out _ B7.out) ?_; rotate_left; (obtain ⟨k0, k1, k2, k3⟩ := hS; go_simp; with_reducible rfl); simp only [Act.put, List.setIfInBounds_toArray, List.set_cons_succ, List.set_cons_zero])
  iterate 2 (refine Rg.ord_guarded (v := ?_) (by rfl) (fun w' hS => ?_) (HC.out _ B7.out) ?_; rotate_left; (obtain ⟨k0, k1, k2, k3⟩ := hS; go_simp; with_reducible rfl); simp only [Act.put, List.setIfInBounds_toArray, List.set_cons_succ, List.set_cons_zero])
  have HS2 := hide (same_any [⟨[120], [49]⟩, ⟨[121], [50]⟩] [⟨[120], [49]⟩, ⟨[121], [50]⟩] A5 A3 c5 c3 w7 F5_7.out F3_7.out (by decide))
  rw [decide_eq_true rfl] at HS2
  refine Rg.ord_loud (by rfl) (fun K hK => ?_)
  go_simp
  refine HS2.out.mono ?_
  rintro y w8 ⟨rfl, hb8⟩
  have B8 := hide (B7.out.trans (hb8.mono B7.out.size))
  have F6_8 := hide (Lw.Vs.below F6_7.out hb8)
  clear hb8 F3_7 F5_7 F6_7 HS2 B7
  refine hK _ _ (fun _ => HC.out _ B8.out) ?_
  clear hK K
  iterate 2 (refine Rg.ord_quiet (v := ?_) rfl (fun w' hS => ?_) (HC.out _ B8.out) ?_; rotate_left; (obtain ⟨k0, k1, k2, k3⟩ := hS; go_simp; with_reducible rfl); simp only [Act.put, List.setIfInBounds_toArray, List.set_cons_succ, List.set_cons_zero])
  iterate 1 (refine Rg.ord_guarded (v := ?_) (by rfl) (fun w' hS => ?_) (HC.out _ B8.out) ?_; rotate_left; (obtain ⟨k0, k1, k2, k3⟩ := hS; go_simp; with_reducible rfl); simp only [Act.put, List.setIfInBounds_toArray, List.set_cons_succ, List.set_cons_zero])
  refine Rg.ord_loud (by rfl) (fun K hK => ?_)
  go_simp
  have hb9 : Below w8.heap.size w8 (w8.alloc (.cells #[.string ⟨#[120]⟩] tS)) := (Below.refl _ w8).alloc (Nat.le_refl _) _
  obtain ⟨A9, c9, e9, L9⟩ := (OwT.lit w8 w8.heap.size tS [[120]] #[.string ⟨#[120]⟩] rfl (Nat.le_refl _) (by decide)).vs
  injection e9 with e9a e9b e9c
  subst e9a e9c
  generalize w8.alloc (.cells #[.string ⟨#[120]⟩] tS) = w9 at *
  have B9 := hide (B8.out.trans (hb9.mono B8.out.size))
  have F6_9 := Lw.Vs.below F6_8.out hb9
  refine hK _ _ (fun _ => HC.out _ B9.out) ?_
  clear hK K hb9 F6_8 B8
  have HS3 := hide (texts_any [[120]] [[120]] A6 _ c6 _ _ _ w9 F6_9 L9 (by decide))
  rw [decide_eq_true rfl] at HS3
  clear F6_9 L9
  refine Rg.ord_loud (by rfl) (fun K hK => ?_)
  go_simp
  refine HS3.out.mono ?_
  rintro y w10 ⟨rfl, hb10⟩
  have B10 := hide (B9.out.trans (hb10.mono B9.out.size))
  refine hK _ _ (fun _ => HC.out _ B10.out) ?_
  clear hK K hb10 HS3 B9
  iterate 2 (refine Rg.ord_quiet (v := ?_) rfl (fun w' hS => ?_) (HC.out _ B10.out) ?_; rotate_left; (obtain ⟨k0, k1, k2, k3⟩ := hS; go_simp; with_reducible rfl); simp only [Act.put, List.setIfInBounds_toArray, List.set_cons_succ, List.set_cons_zero])
  refine Rg.ord_nil ?_
  go_wp2
  go_ret
  exact ⟨rfl, HB2.out.trans (B10.out.mono HB2.out.size)⟩
end Go.Proofs.Ytghnieddokhagaa.Tr
