/-
  The statement HunkTwice, walked.
-/
import Derived.Test.YtodicgopmcdjpaaHP
import Derived.Test.YtodicgopmcdjpaaHQ
import Derived.Test.YtodicgopmcdjpaaRegB
namespace Go.Proofs.Ytodicgopmcdjpaa.Hu
open Go Go.RowKit Kt Lw Li Df

theorem edits_len (h : Hk) (hr : hright h = true) : (hedits (hturn h)).length = (hedits h).length := by
  obtain ⟨ps, hg, hl, he, ht, hr2, hh, he2⟩ := hparts hr
  rw [he, he2]
  exact edP_swp_len ps _ _
theorem edits_few (h : Hk) (hr : hright h = true) : (hedits h).length ≤ h.lines.length := by
  obtain ⟨ps, hg, hl, he, _⟩ := hparts hr
  rw [he, hl]
  exact Nat.le_trans (edP_len ps _) (lay_ge ps hg)
theorem turn_lines (h : Hk) (hr : hright h = true) : (hturn h).lines.length = h.lines.length := by
  obtain ⟨ps, hg, hl, he, ht, _⟩ := hparts hr
  rw [ht, hl, lay_swp_len]
theorem turn_bound (h : Hk) (hr : hright h = true) (n : Nat) (hx : ∀ x ∈ h.lines, x.length ≤ n) : ∀ x ∈ (hturn h).lines, x.length ≤ n := by
  obtain ⟨ps, hg, hl, he, ht, h5⟩ := hparts hr
  rw [hl] at hx
  rw [ht]
  clear hl he ht hg h5
  have hm : ∀ (s : UInt8) (l : Ls) (x : List UInt8), x ∈ mk s l ↔ ∃ y, y ∈ l ∧ s :: y = x := fun s l x => by simp [mk]
  have hkey : ∀ (s t : UInt8) (l : Ls), (∀ x ∈ mk s l, x.length ≤ n) → ∀ x ∈ mk t l, x.length ≤ n := by
    intro s t l h x hx
    obtain ⟨y, hy, rfl⟩ := (hm t l x).1 hx
    have := h (s :: y) ((hm s l _).2 ⟨y, hy, rfl⟩)
    simpa using this
  induction ps with
  | nil => intro x hx; cases hx
  | cons p r ih =>
    intro x hxx
    rw [List.map_cons, lay, layP, swp] at hxx
    rw [lay, layP] at hx
    have h1 : ∀ x ∈ mk 32 p.st, x.length ≤ n := fun x h => hx x (List.mem_append_left _ (List.mem_append_left _ h))
    have h2 : ∀ x ∈ mk 45 p.gn, x.length ≤ n := fun x h => hx x (List.mem_append_left _ (List.mem_append_right _ (List.mem_append_left _ h)))
    have h3 : ∀ x ∈ mk 43 p.cm, x.length ≤ n := fun x h => hx x (List.mem_append_left _ (List.mem_append_right _ (List.mem_append_right _ h)))
    have h4 := ih fun x h => hx x (List.mem_append_right _ h)
    rcases List.mem_append.1 hxx with hxx | hxx
    · rcases List.mem_append.1 hxx with hxx | hxx
      · exact h1 x hxx
      · rcases List.mem_append.1 hxx with hxx | hxx
        · exact hkey 43 45 _ h3 x hxx
        · exact hkey 45 43 _ h2 x hxx
    · exact h4 x hxx
theorem right_lines {h : Hk} (hb : ¬ tooBig h) : h.lines.length ≤ 30 ∧ (-1048576 ≤ h.a ∧ h.a ≤ 1048576) ∧ (-1048576 ≤ h.b ∧ h.b ≤ 1048576) := by
  unfold tooBig at hb
  omega
set_option maxHeartbeats 2000000 in
set_option maxRecDepth 100000 in
theorem twice_any (a an b bn : Int) (l : Ls) (A : Option Addr) (c : Nat) (P : Nat → Prop) (w : World) (hs : Vs w P A c (texts l)) (hx : ∀ x ∈ l, x.length ≤ 9223372036854775807) (_hl : l.length ≤ 9223372036854775807) :
    Calls Try.prog 6 #[.agg #[.int .i64 a, .int .i64 an, .int .i64 b, .int .i64 bn, .slice A l.length c]] w fun y w' => y = .returned (.bool true) ∧ Below w.heap.size w w' := by
  have Hs := hide hs.bound
  have Hfew := fun w1 (hb : Below w.heap.size w w1) => few_any [⟨a, an, b, bn, l⟩] (some ⟨w1.heap.size, 0, none⟩) 1 (w1.alloc (.cells #[.int .i64 a, .int .i64 an, .int .i64 b, .int .i64 bn, .slice A l.length c] tH)) (lit_hks w1 ⟨a, an, b, bn, l⟩ A c _ (Lw.Vs.below hs.bound hb)) (by simp)
  rw [few_one] at Hfew
  have Hrt := fun (hb : ¬ tooBig ⟨a, an, b, bn, l⟩) w1 (hb1 : Below w.heap.size w w1) => hright_any a an b bn l A c _ w1 (Lw.Vs.below hs.bound hb1) (by have := (right_lines hb).1; simp only at this; omega)
  by_cases hbig : tooBig ⟨a, an, b, bn, l⟩
  · rw [decide_eq_false (fun k => k hbig)] at Hfew
    have HF := hide Hfew
    obtain ⟨n, hn⟩ : ∃ n, n = l.length := ⟨_, rfl⟩
    rw [← hn] at HF ⊢
    clear hs hx Hrt Hfew hbig hn
    go_enter Try.func6, Try.ntmps6
    go_wp2_with fail
    have hb0 : Below w.heap.size w (w.alloc (.cells #[.int .i64 a, .int .i64 an, .int .i64 b, .int .i64 bn, .slice A n c] tH)) := (Below.refl _ w).alloc (Nat.le_refl _) _
    have hr0 : Row (w.alloc (.cells #[.int .i64 a, .int .i64 an, .int .i64 b, .int .i64 bn, .slice A n c] tH)) w.heap.size tH [.int .i64 a, .int .i64 an, .int .i64 b, .int .i64 bn, .slice A n c] := Row.fresh w tH _
    refine (awake_any _).mono ?_
    rintro y w1 ⟨rfl, hb1⟩
    have hr1 := hr0.below hb1 hr0.lt
    have Hb1 := hide (hb0.trans (hb1.mono hb0.size))
    clear hr0 hb0 hb1
    have c0 := hr1.cell 0
    have c1 := hr1.cell 1
    have c2 := hr1.cell 2
    have c3 := hr1.cell 3
    have c4 := hr1.cell 4
    simp only [List.getElem?_cons_zero, List.getElem?_cons_succ] at c0 c1 c2 c3 c4
    clear hr1
    go_wp2_with fail
    refine (HF.out w1 Hb1.out).mono ?_
    rintro y w2 ⟨rfl, hb2⟩
    have hb3 := Hb1.out.trans (((Below.refl w1.heap.size w1).alloc (Nat.le_refl _) (.cells #[.int .i64 a, .int .i64 an, .int .i64 b, .int .i64 bn, .slice A n c] tH)).trans (hb2.mono (by simp)) |>.mono Hb1.out.size)
    clear hb2 c0 c1 c2 c3 c4
    go_wp2
    go_ret
    exact ⟨rfl, hb3⟩
  · rw [decide_eq_true hbig] at Hfew
    have HF := hide Hfew
    have hRt := Hrt hbig
    obtain ⟨hl30, hza, hzb⟩ := right_lines hbig
    simp only at hl30 hza hzb
    cases hr : hright ⟨a, an, b, bn, l⟩ with
    | false =>
      rw [hr] at hRt
      have HR := hide hRt
      obtain ⟨n, hn⟩ : ∃ n, n = l.length := ⟨_, rfl⟩
      rw [← hn] at HF HR ⊢
      clear hs hx Hrt Hfew hbig hn hl30 hza hzb hRt hr
      go_enter Try.func6, Try.ntmps6
      go_wp2_with fail
      have hb0 : Below w.heap.size w (w.alloc (.cells #[.int .i64 a, .int .i64 an, .int .i64 b, .int .i64 bn, .slice A n c] tH)) := (Below.refl _ w).alloc (Nat.le_refl _) _
      have hr0 : Row (w.alloc (.cells #[.int .i64 a, .int .i64 an, .int .i64 b, .int .i64 bn, .slice A n c] tH)) w.heap.size tH [.int .i64 a, .int .i64 an, .int .i64 b, .int .i64 bn, .slice A n c] := Row.fresh w tH _
      refine (awake_any _).mono ?_
      rintro y w1 ⟨rfl, hb1⟩
      have hr1 := hr0.below hb1 hr0.lt
      have Hb1 := hide (hb0.trans (hb1.mono hb0.size))
      clear hr0 hb0 hb1
      have c0 := hr1.cell 0
      have c1 := hr1.cell 1
      have c2 := hr1.cell 2
      have c3 := hr1.cell 3
      have c4 := hr1.cell 4
      simp only [List.getElem?_cons_zero, List.getElem?_cons_succ] at c0 c1 c2 c3 c4
      go_wp2_with fail
      refine (HF.out w1 Hb1.out).mono ?_
      rintro y w2 ⟨rfl, hb2⟩
      have hb3 := (((Below.refl w1.heap.size w1).alloc (Nat.le_refl _) (.cells #[.int .i64 a, .int .i64 an, .int .i64 b, .int .i64 bn, .slice A n c] tH)).trans (hb2.mono (by simp)))
      have hr2 := hr1.below hb3 hr1.lt
      have Hb2 := hide (Hb1.out.trans (hb3.mono Hb1.out.size))
      clear hb2 hb3 c0 c1 c2 c3 c4 hr1
      have c0 := hr2.cell 0
      have c1 := hr2.cell 1
      have c2 := hr2.cell 2
      have c3 := hr2.cell 3
      have c4 := hr2.cell 4
      simp only [List.getElem?_cons_zero, List.getElem?_cons_succ] at c0 c1 c2 c3 c4
      clear hr2
      go_wp2_with fail
      refine (HR.out w2 Hb2.out).mono ?_
      rintro y w3 ⟨rfl, hb3⟩
      have hb4 := Hb2.out.trans (hb3.mono Hb2.out.size)
      clear hb3 c0 c1 c2 c3 c4
      go_wp2
      go_ret
      exact ⟨rfl, hb4⟩
    | true =>
      rw [hr] at hRt
      have HR := hide hRt
      obtain ⟨ps, _, _, _, _, hrT, hTT, _⟩ := hparts hr
      have hEl := edits_len _ hr
      have hEf := edits_few _ hr
      have hTl := turn_lines _ hr
      have hTx := turn_bound _ hr _ hx
      have hTu := fun w1 (hb1 : Below w.heap.size w w1) => hturn_any ⟨a, an, b, bn, l⟩ A c _ w1 (Lw.Vs.below hs.bound hb1) (by simp only; omega) hr hx
      have hEd := fun w1 (hb1 : Below w.heap.size w w1) => hedits_any ⟨a, an, b, bn, l⟩ A c _ w1 (Lw.Vs.below hs.bound hb1) (by simp only; omega) hr (by simp only; omega)
      simp only [hturn] at hrT hTT hEl hTl hTx hTu
      obtain ⟨TL, hTL⟩ : ∃ TL, TL = turnA [] [] l := ⟨_, rfl⟩
      rw [← hTL] at hrT hTT hEl hTl hTx hTu
      obtain ⟨ne, hne⟩ : ∃ ne, ne = (hedits ⟨a, an, b, bn, l⟩).length := ⟨_, rfl⟩
      have hTT2 : turnA [] [] TL = l := by
        injection hTT
      have HE := hide (fun w1 (hb1 : Below w.heap.size w w1) => (hEd w1 hb1).mono (R' := fun y w' => ∃ Ae ce, y = .returned (.slice Ae ne ce) ∧ Below w1.heap.size w1 w') (by
        rintro y w' ⟨v, rfl, hv, hb⟩
        obtain ⟨Ae, ce, rfl, _⟩ := OwE.es hv
        exact ⟨Ae, ce, by rw [hne], hb⟩))
      have HT := hide hTu
      have HRT := hide (fun At ct w1 (hv : Vs w1 (fun b => b < w1.heap.size) At ct (texts TL)) => hright_any b bn a an TL At ct _ w1 hv (by omega))
      rw [hrT] at HRT
      have HTT := hide (fun At ct w1 (hv : Vs w1 (fun b => b < w1.heap.size) At ct (texts TL)) => hturn_any ⟨b, bn, a, an, TL⟩ At ct _ w1 hv (by simp only; omega) hrT hTx)
      simp only [hturn, hTT2] at HTT
      have HET := hide (fun At ct w1 (hv : Vs w1 (fun b => b < w1.heap.size) At ct (texts TL)) => (hedits_any ⟨b, bn, a, an, TL⟩ At ct _ w1 hv (by simp only; omega) hrT (by simp only; omega)).mono (R' := fun y w' => ∃ Ae ce, y = .returned (.slice Ae ne ce) ∧ Below w1.heap.size w1 w') (by
        rintro y w' ⟨v, rfl, hv, hb⟩
        obtain ⟨Ae, ce, rfl, _⟩ := OwE.es hv
        exact ⟨Ae, ce, by rw [hne, ← hEl], hb⟩))
      have HO := hide (fun Av cv w1 (hv : Vs w1 (fun b => b < w1.heap.size) Av cv (texts l)) (hb1 : Below w.heap.size w w1) => one_same ⟨a, an, b, bn, l⟩ Av A cv c _ _ w1 hv (Lw.Vs.below hs.bound hb1) (by simp only; omega))
      obtain ⟨n, hn⟩ : ∃ n, n = l.length := ⟨_, rfl⟩
      simp only at HF HO HE HTT HET HT HR
      rw [hTl] at HRT HTT HET
      rw [← hn] at HF HR HT HE HRT HTT HET HO ⊢
      have Hn := hide hn
      have HTl := hide hTl
      clear hs hx Hrt Hfew hbig hn hl30 hza hzb hRt hr hTu hEd hEl hTl hTx hTT hTT2 hTL hne hrT hEf
      go_enter Try.func6, Try.ntmps6
      go_wp2_with fail
      have hb0 : Below w.heap.size w (w.alloc (.cells #[.int .i64 a, .int .i64 an, .int .i64 b, .int .i64 bn, .slice A n c] tH)) := (Below.refl _ w).alloc (Nat.le_refl _) _
      have hr0 : Row (w.alloc (.cells #[.int .i64 a, .int .i64 an, .int .i64 b, .int .i64 bn, .slice A n c] tH)) w.heap.size tH [.int .i64 a, .int .i64 an, .int .i64 b, .int .i64 bn, .slice A n c] := Row.fresh w tH _
      refine (awake_any _).mono ?_
      rintro y w1 ⟨rfl, hb1⟩
      have hr1 := hr0.below hb1 hr0.lt
      have Hb1 := hide (hb0.trans (hb1.mono hb0.size))
      clear hr0 hb0 hb1
      have c0 := hr1.cell 0
      have c1 := hr1.cell 1
      have c2 := hr1.cell 2
      have c3 := hr1.cell 3
      have c4 := hr1.cell 4
      simp only [List.getElem?_cons_zero, List.getElem?_cons_succ] at c0 c1 c2 c3 c4
      go_wp2_with fail
      refine (HF.out w1 Hb1.out).mono ?_
      rintro y w2 ⟨rfl, hb2⟩
      have hb3 := (((Below.refl w1.heap.size w1).alloc (Nat.le_refl _) (.cells #[.int .i64 a, .int .i64 an, .int .i64 b, .int .i64 bn, .slice A n c] tH)).trans (hb2.mono (by simp)))
      have hr2 := hr1.below hb3 hr1.lt
      have Hb2 := hide (Hb1.out.trans (hb3.mono Hb1.out.size))
      clear hb2 hb3 c0 c1 c2 c3 c4 hr1
      have c0 := hr2.cell 0
      have c1 := hr2.cell 1
      have c2 := hr2.cell 2
      have c3 := hr2.cell 3
      have c4 := hr2.cell 4
      simp only [List.getElem?_cons_zero, List.getElem?_cons_succ] at c0 c1 c2 c3 c4
      go_wp2_with fail
      refine (HR.out w2 Hb2.out).mono ?_
      rintro y w3 ⟨rfl, hb3⟩
      have hr3 := hr2.below hb3 hr2.lt
      have Hb3 := hide (Hb2.out.trans (hb3.mono Hb2.out.size))
      clear hb3 c0 c1 c2 c3 c4 hr2
      have c0 := hr3.cell 0
      have c1 := hr3.cell 1
      have c2 := hr3.cell 2
      have c3 := hr3.cell 3
      have c4 := hr3.cell 4
      simp only [List.getElem?_cons_zero, List.getElem?_cons_succ] at c0 c1 c2 c3 c4
      go_wp2_with fail
      refine (HT.out w3 Hb3.out).mono ?_
      rintro y w4 ⟨v, rfl, hv, hb4⟩
      obtain ⟨At, ct, rfl, hvt⟩ := OwT.vs hv
      rw [HTl.out, ← Hn.out]
      have hr4 := hr3.below hb4 hr3.lt
      have Hb4 := hide (Hb3.out.trans (hb4.mono Hb3.out.size))
      have Hvt := hide (Lw.Vs.bound hvt)
      clear hb4 c0 c1 c2 c3 c4 hr3 hv hvt
      obtain ⟨w5, hw5⟩ : ∃ w5, w5 = w4.alloc (.cells #[.int .i64 b, .int .i64 bn, .int .i64 a, .int .i64 an, .slice At n ct] tH) := ⟨_, rfl⟩
      have hb5 : Below w4.heap.size w4 w5 := by rw [hw5]; exact (Below.refl _ w4).alloc (Nat.le_refl _) _
      have h6 : Row w5 w4.heap.size tH [.int .i64 b, .int .i64 bn, .int .i64 a, .int .i64 an, .slice At n ct] := by rw [hw5]; exact Row.fresh w4 tH _
      have hr5 := hr4.below hb5 hr4.lt
      have Hb5 := hide (Hb4.out.trans (hb5.mono Hb4.out.size))
      have Hvt5 := hide (vs_keep Hvt.out hb5)
      have HW5 := hide hw5
      clear hw5 hb5 hr4
      go_wp2_with fail
      rw [← HW5.out]
      obtain ⟨g6, hg6⟩ : ∃ g6, g6 = w4.heap.size := ⟨_, rfl⟩
      rw [← hg6] at h6 ⊢
      clear hg6
      refine (HRT.out At ct w5 Hvt5.out).mono ?_
      rintro y w6 ⟨rfl, hb6⟩
      have R6 := hide (h6.below hb6 h6.lt)
      have R1 := hide (hr5.below hb6 hr5.lt)
      have Hb6 := hide (Hb5.out.trans (hb6.mono Hb5.out.size))
      have Hvt6 := hide (vs_keep Hvt5.out hb6)
      clear hb6 h6 hr5
      go_wp2_with fail
      refine Rg.wp_region_ord (fun w' => Row w' g6 tH [.int .i64 b, .int .i64 bn, .int .i64 a, .int .i64 an, .slice At n ct] ∧ Row w' w.heap.size tH [.int .i64 a, .int .i64 an, .int .i64 b, .int .i64 bn, .slice A n c]) [(0, true), (1, true), (2, true), (4, true), (3, false), (5, false), (6, true), (7, true), (8, true), (11, true), (9, false), (10, true), (12, false), (13, true), (14, true), (15, true), (16, true)] (by kernel_rfl) (by kernel_rfl) ?_
      simp only [Rg.pick, List.map_cons, List.map_nil, List.getD_cons_zero, List.getD_cons_succ]
      iterate 2 (refine Rg.ord_quiet (v := ?_) rfl (fun w' hS => ?_) ⟨R6.out.drew, R1.out.drew⟩ ?_; rotate_left; (obtain ⟨s6, s1⟩ := hS; have x0 := s6.cell 0; have x1 := s6.cell 1; have x2 := s6.cell 2; have x3 := s6.cell 3; have x4 := s6.cell 4; have y0 := s1.cell 0; have y1 := s1.cell 1; have y2 := s1.cell 2; have y3 := s1.cell 3; have y4 := s1.cell 4; simp only [List.getElem?_cons_zero, List.getElem?_cons_succ] at x0 y0 x1 y1 x2 y2 x3 y3 x4 y4; go_simp; with_reducible rfl); simp only [Act.put, List.setIfInBounds_toArray, List.set_cons_succ, List.set_cons_zero])
      iterate 2 (refine Rg.ord_guarded (v := ?_) (by rfl) (fun w' hS => ?_) ⟨R6.out.drew, R1.out.drew⟩ ?_; rotate_left; (obtain ⟨s6, s1⟩ := hS; have x0 := s6.cell 0; have x1 := s6.cell 1; have x2 := s6.cell 2; have x3 := s6.cell 3; have x4 := s6.cell 4; have y0 := s1.cell 0; have y1 := s1.cell 1; have y2 := s1.cell 2; have y3 := s1.cell 3; have y4 := s1.cell 4; simp only [List.getElem?_cons_zero, List.getElem?_cons_succ] at x0 y0 x1 y1 x2 y2 x3 y3 x4 y4; go_simp; with_reducible rfl); simp only [Act.put, List.setIfInBounds_toArray, List.set_cons_succ, List.set_cons_zero])
      refine Rg.ord_loud (by rfl) (fun K hK => ?_)
      go_simp
      refine (HTT.out At ct w6.drew (vs_drew Hvt6.out)).mono ?_
      rintro y w7 ⟨v2, rfl, hv2, hb7⟩
      obtain ⟨Av, cv, rfl, hvv⟩ := OwT.vs hv2
      rw [← Hn.out]
      have Hvv := hide (Lw.Vs.bound hvv)
      have R6a := hide (R6.out.drew.below hb7 R6.out.drew.lt)
      have R1a := hide (R1.out.drew.below hb7 R1.out.drew.lt)
      have Hb7 := hide (Hb6.out.drew.trans (hb7.mono Hb6.out.size))
      have Hvt7 := hide (vs_keep (vs_drew Hvt6.out) hb7)
      clear hb7 hv2 hvv R6 R1 Hvt6
      refine hK _ _ (fun _ => ⟨R6a.out, R1a.out⟩) ?_
      clear hK K
      try simp only [Act.put, List.setIfInBounds_toArray, List.set_cons_succ, List.set_cons_zero]
      refine Rg.ord_loud (by rfl) (fun K hK => ?_)
      go_simp
      refine (HO.out Av cv w7 Hvv.out Hb7.out).mono ?_
      rintro y w8 ⟨rfl, hb8⟩
      have R6 := hide (R6a.out.below hb8 R6a.out.lt)
      have R1 := hide (R1a.out.below hb8 R1a.out.lt)
      have Hb8 := hide (Hb7.out.trans (hb8.mono Hb7.out.size))
      have Hvt8 := hide (vs_keep Hvt7.out hb8)
      clear hb8 R6a R1a Hvt7
      refine hK _ _ (fun _ => ⟨R6.out, R1.out⟩) ?_
      clear hK K
      try simp only [Act.put, List.setIfInBounds_toArray, List.set_cons_succ, List.set_cons_zero]
      iterate 2 (refine Rg.ord_quiet (v := ?_) rfl (fun w' hS => ?_) ⟨R6.out, R1.out⟩ ?_; rotate_left; (obtain ⟨s6, s1⟩ := hS; have x0 := s6.cell 0; have x1 := s6.cell 1; have x2 := s6.cell 2; have x3 := s6.cell 3; have x4 := s6.cell 4; have y0 := s1.cell 0; have y1 := s1.cell 1; have y2 := s1.cell 2; have y3 := s1.cell 3; have y4 := s1.cell 4; simp only [List.getElem?_cons_zero, List.getElem?_cons_succ] at x0 y0 x1 y1 x2 y2 x3 y3 x4 y4; go_simp; with_reducible rfl); simp only [Act.put, List.setIfInBounds_toArray, List.set_cons_succ, List.set_cons_zero])
      iterate 2 (refine Rg.ord_guarded (v := ?_) (by rfl) (fun w' hS => ?_) ⟨R6.out, R1.out⟩ ?_; rotate_left; (obtain ⟨s6, s1⟩ := hS; have x0 := s6.cell 0; have x1 := s6.cell 1; have x2 := s6.cell 2; have x3 := s6.cell 3; have x4 := s6.cell 4; have y0 := s1.cell 0; have y1 := s1.cell 1; have y2 := s1.cell 2; have y3 := s1.cell 3; have y4 := s1.cell 4; simp only [List.getElem?_cons_zero, List.getElem?_cons_succ] at x0 y0 x1 y1 x2 y2 x3 y3 x4 y4; go_simp; with_reducible rfl); simp only [Act.put, List.setIfInBounds_toArray, List.set_cons_succ, List.set_cons_zero])
      refine Rg.ord_loud (by rfl) (fun K hK => ?_)
      go_simp
      refine (HET.out At ct w8 Hvt8.out).mono ?_
      rintro y w9 ⟨Ae, ce, rfl, hb9⟩
      have R6a := hide (R6.out.below hb9 R6.out.lt)
      have R1a := hide (R1.out.below hb9 R1.out.lt)
      have Hb9 := hide (Hb8.out.trans (hb9.mono Hb8.out.size))
      clear hb9 R6 R1 Hvt8
      refine hK _ _ (fun _ => ⟨R6a.out, R1a.out⟩) ?_
      clear hK K
      try simp only [Act.put, List.setIfInBounds_toArray, List.set_cons_succ, List.set_cons_zero]
      iterate 1 (refine Rg.ord_guarded (v := ?_) (by rfl) (fun w' hS => ?_) ⟨R6a.out, R1a.out⟩ ?_; rotate_left; (obtain ⟨s6, s1⟩ := hS; have x0 := s6.cell 0; have x1 := s6.cell 1; have x2 := s6.cell 2; have x3 := s6.cell 3; have x4 := s6.cell 4; have y0 := s1.cell 0; have y1 := s1.cell 1; have y2 := s1.cell 2; have y3 := s1.cell 3; have y4 := s1.cell 4; simp only [List.getElem?_cons_zero, List.getElem?_cons_succ] at x0 y0 x1 y1 x2 y2 x3 y3 x4 y4; go_simp; with_reducible rfl); simp only [Act.put, List.setIfInBounds_toArray, List.set_cons_succ, List.set_cons_zero])
      refine Rg.ord_loud (by rfl) (fun K hK => ?_)
      go_simp
      refine (HE.out w9 Hb9.out).mono ?_
      rintro y w10 ⟨Af, cf, rfl, hb10⟩
      have R6 := hide (R6a.out.below hb10 R6a.out.lt)
      have R1 := hide (R1a.out.below hb10 R1a.out.lt)
      have Hb10 := hide (Hb9.out.trans (hb10.mono Hb9.out.size))
      clear hb10 R6a R1a
      refine hK _ _ (fun _ => ⟨R6.out, R1.out⟩) ?_
      clear hK K
      try simp only [Act.put, List.setIfInBounds_toArray, List.set_cons_succ, List.set_cons_zero]
      iterate 2 (refine Rg.ord_guarded (v := ?_) (by rfl) (fun w' hS => ?_) ⟨R6.out, R1.out⟩ ?_; rotate_left; (obtain ⟨s6, s1⟩ := hS; have x0 := s6.cell 0; have x1 := s6.cell 1; have x2 := s6.cell 2; have x3 := s6.cell 3; have x4 := s6.cell 4; have y0 := s1.cell 0; have y1 := s1.cell 1; have y2 := s1.cell 2; have y3 := s1.cell 3; have y4 := s1.cell 4; simp only [List.getElem?_cons_zero, List.getElem?_cons_succ] at x0 y0 x1 y1 x2 y2 x3 y3 x4 y4; go_simp; with_reducible rfl); simp only [Act.put, List.setIfInBounds_toArray, List.set_cons_succ, List.set_cons_zero])
      iterate 2 (refine Rg.ord_quiet (v := ?_) rfl (fun w' hS => ?_) ⟨R6.out, R1.out⟩ ?_; rotate_left; (obtain ⟨s6, s1⟩ := hS; have x0 := s6.cell 0; have x1 := s6.cell 1; have x2 := s6.cell 2; have x3 := s6.cell 3; have x4 := s6.cell 4; have y0 := s1.cell 0; have y1 := s1.cell 1; have y2 := s1.cell 2; have y3 := s1.cell 3; have y4 := s1.cell 4; simp only [List.getElem?_cons_zero, List.getElem?_cons_succ] at x0 y0 x1 y1 x2 y2 x3 y3 x4 y4; go_simp; with_reducible rfl); simp only [Act.put, List.setIfInBounds_toArray, List.set_cons_succ, List.set_cons_zero])
      refine Rg.ord_nil ?_
      go_wp2
      go_ret
      exact ⟨rfl, Hb10.out⟩
end Go.Proofs.Ytodicgopmcdjpaa.Hu
