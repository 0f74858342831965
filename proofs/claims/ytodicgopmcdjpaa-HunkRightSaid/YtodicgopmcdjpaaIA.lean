/-
  The statement HunkRight, walked.
-/
import Derived.Test.YtodicgopmcdjpaaHR
import Derived.Test.YtodicgopmcdjpaaHZ
namespace Go.Proofs.Ytodicgopmcdjpaa.Hu
open Go Go.RowKit Kt Lw Li Df

theorem edP_ins : ∀ (ps : List Pt) (z : Int), ∀ e ∈ edP z ps, e.ins.length ≤ (lay ps).length
  | [], _, e, h => by cases h
  | p :: r, z, e, h => by
    rw [edP] at h
    rw [lay_len]
    rcases List.mem_append.1 h with h | h
    · unfold emitZ at h
      split at h
      · cases h
      · simp at h; rw [h]; simp only; omega
    · have := edP_ins r _ e h
      omega
theorem hedits_ins {h : Hk} (hr : hright h = true) : ∀ e ∈ hedits h, e.ins.length ≤ h.lines.length := by
  obtain ⟨ps, hg, hl, he, _⟩ := hparts hr
  rw [he, hl]
  exact edP_ins ps _
set_option maxHeartbeats 2000000 in
set_option maxRecDepth 100000 in
theorem lawRight_any (a an b bn : Int) (l : Ls) (A : Option Addr) (c : Nat) (P : Nat → Prop) (w : World) (hs : Vs w P A c (texts l)) (hx : ∀ x ∈ l, x.length ≤ 9223372036854775807) (_hl : l.length ≤ 9223372036854775807) :
    Calls Try.prog 4 #[.agg #[.int .i64 a, .int .i64 an, .int .i64 b, .int .i64 bn, .slice A l.length c]] w fun y w' => y = .returned (.bool true) ∧ Below w.heap.size w w' := by
  have Hs := hide hs.bound
  have Hfew := fun w1 (hb : Below w.heap.size w w1) => few_any [⟨a, an, b, bn, l⟩] (some ⟨w1.heap.size, 0, none⟩) 1 (w1.alloc (.cells #[.int .i64 a, .int .i64 an, .int .i64 b, .int .i64 bn, .slice A l.length c] tH)) (lit_hks w1 ⟨a, an, b, bn, l⟩ A c _ (Lw.Vs.below hs.bound hb)) (by simp)
  rw [few_one] at Hfew
  have Hrt := fun (hb : ¬ tooBig ⟨a, an, b, bn, l⟩) w1 (hb1 : Below w.heap.size w w1) => hright_any a an b bn l A c _ w1 (Lw.Vs.below hs.bound hb1) (by have := (right_lines hb).1; simp only at this; omega)
  have Hrr := fun (hb : ¬ tooBig ⟨a, an, b, bn, l⟩) w1 (hb1 : Below w.heap.size w w1) => refRight_any a an b bn l A c _ w1 (Lw.Vs.below hs.bound hb1) (by have := (right_lines hb).1; simp only at this; omega)
  by_cases hbig : tooBig ⟨a, an, b, bn, l⟩
  · rw [decide_eq_false (fun k => k hbig)] at Hfew
    have HF := hide Hfew
    obtain ⟨n, hn⟩ : ∃ n, n = l.length := ⟨_, rfl⟩
    rw [← hn] at HF ⊢
    clear hs hx Hrt Hrr Hfew hbig hn
    go_enter Try.func4, Try.ntmps4
    go_wp2_with fail
    have hb0 : Below w.heap.size w (w.alloc (.cells #[.int .i64 a, .int .i64 an, .int .i64 b, .int .i64 bn, .slice A n c] tH)) := (Below.refl _ w).alloc (Nat.le_refl _) _
    have hr0 : Row (w.alloc (.cells #[.int .i64 a, .int .i64 an, .int .i64 b, .int .i64 bn, .slice A n c] tH)) w.heap.size tH [.int .i64 a, .int .i64 an, .int .i64 b, .int .i64 bn, .slice A n c] := Row.fresh w tH _
    refine (awake_any _).mono ?_
    rintro y w1 ⟨rfl, hb1⟩
    have hr1 := hr0.below hb1 hr0.lt
    have Hb1 := hide (hb0.trans (hb1.mono hb0.size))
    clear hr0 hb0 hb1
    have c0 := hr1.cell 0
    have c1 := hr1.cell 1
    have c2 := hr1.cell 2
    have c3 := hr1.cell 3
    have c4 := hr1.cell 4
    simp only [List.getElem?_cons_zero, List.getElem?_cons_succ] at c0 c1 c2 c3 c4
    clear hr1
    go_wp2_with fail
    refine (HF.out w1 Hb1.out).mono ?_
    rintro y w2 ⟨rfl, hb2⟩
    have hb3 := Hb1.out.trans (((Below.refl w1.heap.size w1).alloc (Nat.le_refl _) (.cells #[.int .i64 a, .int .i64 an, .int .i64 b, .int .i64 bn, .slice A n c] tH)).trans (hb2.mono (by simp)) |>.mono Hb1.out.size)
    clear hb2 c0 c1 c2 c3 c4
    go_wp2
    go_ret
    exact ⟨rfl, hb3⟩
  · rw [decide_eq_true hbig] at Hfew
    have HF := hide Hfew
    have hRt := Hrt hbig
    have hRr := Hrr hbig
    obtain ⟨hl30, hza, hzb⟩ := right_lines hbig
    simp only at hl30 hza hzb
    cases hr : hright ⟨a, an, b, bn, l⟩ with
    | false =>
      rw [hr] at hRt hRr
      have HR := hide hRt
      have HRR := hide hRr
      obtain ⟨n, hn⟩ : ∃ n, n = l.length := ⟨_, rfl⟩
      rw [← hn] at HF HR HRR ⊢
      clear hs hx Hrt Hrr Hfew hbig hn hl30 hza hzb hRt hRr hr
      go_enter Try.func4, Try.ntmps4
      go_wp2_with fail
      have hb0 : Below w.heap.size w (w.alloc (.cells #[.int .i64 a, .int .i64 an, .int .i64 b, .int .i64 bn, .slice A n c] tH)) := (Below.refl _ w).alloc (Nat.le_refl _) _
      have hr0 : Row (w.alloc (.cells #[.int .i64 a, .int .i64 an, .int .i64 b, .int .i64 bn, .slice A n c] tH)) w.heap.size tH [.int .i64 a, .int .i64 an, .int .i64 b, .int .i64 bn, .slice A n c] := Row.fresh w tH _
      refine (awake_any _).mono ?_
      rintro y w1 ⟨rfl, hb1⟩
      have hr1 := hr0.below hb1 hr0.lt
      have Hb1 := hide (hb0.trans (hb1.mono hb0.size))
      clear hr0 hb0 hb1
      have c0 := hr1.cell 0
      have c1 := hr1.cell 1
      have c2 := hr1.cell 2
      have c3 := hr1.cell 3
      have c4 := hr1.cell 4
      simp only [List.getElem?_cons_zero, List.getElem?_cons_succ] at c0 c1 c2 c3 c4
      go_wp2_with fail
      refine (HF.out w1 Hb1.out).mono ?_
      rintro y w2 ⟨rfl, hb2⟩
      have hb3 := (((Below.refl w1.heap.size w1).alloc (Nat.le_refl _) (.cells #[.int .i64 a, .int .i64 an, .int .i64 b, .int .i64 bn, .slice A n c] tH)).trans (hb2.mono (by simp)))
      have hr2 := hr1.below hb3 hr1.lt
      have Hb2 := hide (Hb1.out.trans (hb3.mono Hb1.out.size))
      clear hb2 hb3 c0 c1 c2 c3 c4 hr1
      have c0 := hr2.cell 0
      have c1 := hr2.cell 1
      have c2 := hr2.cell 2
      have c3 := hr2.cell 3
      have c4 := hr2.cell 4
      simp only [List.getElem?_cons_zero, List.getElem?_cons_succ] at c0 c1 c2 c3 c4
      go_wp2_with fail
      refine (HRR.out w2 Hb2.out).mono ?_
      rintro y w3 ⟨rfl, hb3⟩
      have hr3 := hr2.below hb3 hr2.lt
      have Hb3 := hide (Hb2.out.trans (hb3.mono Hb2.out.size))
      clear hb3 c0 c1 c2 c3 c4 hr2
      have c0 := hr3.cell 0
      have c1 := hr3.cell 1
      have c2 := hr3.cell 2
      have c3 := hr3.cell 3
      have c4 := hr3.cell 4
      simp only [List.getElem?_cons_zero, List.getElem?_cons_succ] at c0 c1 c2 c3 c4
      go_wp2_with fail
      refine (HR.out w3 Hb3.out).mono ?_
      rintro y w4 ⟨rfl, hb4⟩
      have hr4 := hr3.below hb4 hr3.lt
      have Hb4 := hide (Hb3.out.trans (hb4.mono Hb3.out.size))
      clear hb4 c0 c1 c2 c3 c4 hr3
      go_wp2
      go_ret
      exact ⟨rfl, Hb4.out⟩
    | true =>
      rw [hr] at hRt hRr
      have HR := hide hRt
      have HRR := hide hRr
      have hok := ((hright_iff _).1 hr).1
      simp only at hok
      have hEf := edits_few _ hr
      have hEi := hedits_ins hr
      have hTl := turn_lines _ hr
      have hTu := fun w1 (hb1 : Below w.heap.size w w1) => hturn_any ⟨a, an, b, bn, l⟩ A c _ w1 (Lw.Vs.below hs.bound hb1) (by simp only; omega) hr hx
      have hRu := fun w1 (hb1 : Below w.heap.size w w1) => refTurn_any a an b bn l A c _ w1 (Lw.Vs.below hs.bound hb1) (by omega) hok hx
      have hEd := fun w1 (hb1 : Below w.heap.size w w1) => hedits_any ⟨a, an, b, bn, l⟩ A c _ w1 (Lw.Vs.below hs.bound hb1) (by simp only; omega) hr (by simp only; omega)
      have hRe := fun w1 (hb1 : Below w.heap.size w w1) => refEdits_any a an b bn l A c _ w1 (Lw.Vs.below hs.bound hb1) (by omega) hok (by omega)
      simp only [hturn, hedits] at hTl hTu hEd hEf hEi
      obtain ⟨TL, hTL⟩ : ∃ TL, TL = turnA [] [] l := ⟨_, rfl⟩
      obtain ⟨EL, hEL⟩ : ∃ EL, EL = edL a none l := ⟨_, rfl⟩
      rw [← hTL] at hTl hTu hRu
      rw [← hEL] at hEd hRe hEf hEi
      have HT := hide hTu
      have HU := hide hRu
      have HE := hide hEd
      have HV := hide hRe
      have HO := hide (fun A1 c1 A2 c2 w1 (h1 : Vs w1 (fun b => b < w1.heap.size) A1 c1 (texts TL)) (h2 : Vs w1 (fun b => b < w1.heap.size) A2 c2 (texts TL)) => one_same ⟨b, bn, a, an, TL⟩ A1 A2 c1 c2 _ _ w1 h1 h2 (by simp only; omega))
      have HSm := hide (fun A1 c1 A2 c2 w1 (h1 : Es w1 A1 c1 EL) (h2 : Es w1 A2 c2 EL) => same_any EL A1 A2 c1 c2 w1 h1 h2 (by omega) (fun e he => by have := hEi e he; omega))
      simp only at HO
      obtain ⟨n, hn⟩ : ∃ n, n = l.length := ⟨_, rfl⟩
      obtain ⟨ne, hne⟩ : ∃ ne, ne = EL.length := ⟨_, rfl⟩
      rw [hTl] at HO
      rw [← hne] at HSm
      rw [← hn] at HF HR HRR HT HU HE HV HO ⊢
      have Hn := hide hn
      have HTl := hide hTl
      have Hne := hide hne
      clear hs hx Hrt Hrr Hfew hbig hn hl30 hza hzb hRt hRr hr hTu hRu hEd hRe hTl hTL hEL hne hok hEf hEi
      go_enter Try.func4, Try.ntmps4
      go_wp2_with fail
      have hb0 : Below w.heap.size w (w.alloc (.cells #[.int .i64 a, .int .i64 an, .int .i64 b, .int .i64 bn, .slice A n c] tH)) := (Below.refl _ w).alloc (Nat.le_refl _) _
      have hr0 : Row (w.alloc (.cells #[.int .i64 a, .int .i64 an, .int .i64 b, .int .i64 bn, .slice A n c] tH)) w.heap.size tH [.int .i64 a, .int .i64 an, .int .i64 b, .int .i64 bn, .slice A n c] := Row.fresh w tH _
      refine (awake_any _).mono ?_
      rintro y w1 ⟨rfl, hb1⟩
      have hr1 := hr0.below hb1 hr0.lt
      have Hb1 := hide (hb0.trans (hb1.mono hb0.size))
      clear hr0 hb0 hb1
      have c0 := hr1.cell 0
      have c1 := hr1.cell 1
      have c2 := hr1.cell 2
      have c3 := hr1.cell 3
      have c4 := hr1.cell 4
      simp only [List.getElem?_cons_zero, List.getElem?_cons_succ] at c0 c1 c2 c3 c4
      go_wp2_with fail
      refine (HF.out w1 Hb1.out).mono ?_
      rintro y w2 ⟨rfl, hb2⟩
      have hb3 := (((Below.refl w1.heap.size w1).alloc (Nat.le_refl _) (.cells #[.int .i64 a, .int .i64 an, .int .i64 b, .int .i64 bn, .slice A n c] tH)).trans (hb2.mono (by simp)))
      have hr2 := hr1.below hb3 hr1.lt
      have Hb2 := hide (Hb1.out.trans (hb3.mono Hb1.out.size))
      clear hb2 hb3 c0 c1 c2 c3 c4 hr1
      have c0 := hr2.cell 0
      have c1 := hr2.cell 1
      have c2 := hr2.cell 2
      have c3 := hr2.cell 3
      have c4 := hr2.cell 4
      simp only [List.getElem?_cons_zero, List.getElem?_cons_succ] at c0 c1 c2 c3 c4
      go_wp2_with fail
      refine (HRR.out w2 Hb2.out).mono ?_
      rintro y w3 ⟨rfl, hb3⟩
      have hr3 := hr2.below hb3 hr2.lt
      have Hb3 := hide (Hb2.out.trans (hb3.mono Hb2.out.size))
      clear hb3 c0 c1 c2 c3 c4 hr2
      have c0 := hr3.cell 0
      have c1 := hr3.cell 1
      have c2 := hr3.cell 2
      have c3 := hr3.cell 3
      have c4 := hr3.cell 4
      simp only [List.getElem?_cons_zero, List.getElem?_cons_succ] at c0 c1 c2 c3 c4
      go_wp2_with fail
      refine (HR.out w3 Hb3.out).mono ?_
      rintro y w4 ⟨rfl, hb4⟩
      have hr4 := hr3.below hb4 hr3.lt
      have Hb4 := hide (Hb3.out.trans (hb4.mono Hb3.out.size))
      clear hb4 c0 c1 c2 c3 c4 hr3
      have R1 := hide hr4
      clear hr4
      go_wp2_with fail
      refine Rg.wp_region_ord (fun w' => Row w' w.heap.size tH [.int .i64 a, .int .i64 an, .int .i64 b, .int .i64 bn, .slice A n c]) [(0, true), (1, true), (2, true), (4, true), (3, false), (5, false), (6, false), (7, true), (8, true), (9, true), (11, true), (10, false), (12, false), (13, false), (14, true), (15, true)] (by kernel_rfl) (by kernel_rfl) ?_
      simp only [Rg.pick, List.map_cons, List.map_nil, List.getD_cons_zero, List.getD_cons_succ]
      iterate 2 (refine Rg.ord_quiet (v := ?_) rfl (fun w' hS => ?_) R1.out.drew ?_; rotate_left; (have y0 := hS.cell 0; have y1 := hS.cell 1; have y2 := hS.cell 2; have y3 := hS.cell 3; have y4 := hS.cell 4; simp only [List.getElem?_cons_zero, List.getElem?_cons_succ] at y0 y1 y2 y3 y4; go_simp; with_reducible rfl); simp only [Act.put, List.setIfInBounds_toArray, List.set_cons_succ, List.set_cons_zero])
      iterate 2 (refine Rg.ord_guarded (v := ?_) (by rfl) (fun w' hS => ?_) R1.out.drew ?_; rotate_left; (have y0 := hS.cell 0; have y1 := hS.cell 1; have y2 := hS.cell 2; have y3 := hS.cell 3; have y4 := hS.cell 4; simp only [List.getElem?_cons_zero, List.getElem?_cons_succ] at y0 y1 y2 y3 y4; go_simp; with_reducible rfl); simp only [Act.put, List.setIfInBounds_toArray, List.set_cons_succ, List.set_cons_zero])
      refine Rg.ord_loud (by rfl) (fun K hK => ?_)
      go_simp
      refine (HT.out w4.drew Hb4.out.drew).mono ?_
      rintro y w5 ⟨v5, rfl, hv5, hb5⟩
      obtain ⟨A5, c5, rfl, hvv5⟩ := OwT.vs hv5
      rw [HTl.out, ← Hn.out]
      have Hv5 := hide (Lw.Vs.bound hvv5)
      have R2 := hide (R1.out.drew.below hb5 R1.out.drew.lt)
      have Hb5 := hide (Hb4.out.drew.trans (hb5.mono Hb4.out.size))
      clear hb5 hv5 hvv5 R1
      refine hK _ _ (fun _ => R2.out) ?_
      clear hK K
      try simp only [Act.put, List.setIfInBounds_toArray, List.set_cons_succ, List.set_cons_zero]
      refine Rg.ord_loud (by rfl) (fun K hK => ?_)
      go_simp
      refine (HU.out w5 Hb5.out).mono ?_
      rintro y w6 ⟨v6, rfl, hv6, hb6⟩
      obtain ⟨A6, c6, rfl, hvv6⟩ := OwT.vs hv6
      rw [HTl.out, ← Hn.out]
      have Hv6 := hide (Lw.Vs.bound hvv6)
      have Hv5b := hide (vs_keep Hv5.out hb6)
      have R3 := hide (R2.out.below hb6 R2.out.lt)
      have Hb6 := hide (Hb5.out.trans (hb6.mono Hb5.out.size))
      clear hb6 hv6 hvv6 R2 Hv5
      refine hK _ _ (fun _ => R3.out) ?_
      clear hK K
      try simp only [Act.put, List.setIfInBounds_toArray, List.set_cons_succ, List.set_cons_zero]
      refine Rg.ord_loud (by rfl) (fun K hK => ?_)
      go_simp
      refine (HO.out A5 c5 A6 c6 w6 Hv5b.out Hv6.out).mono ?_
      rintro y w7 ⟨rfl, hb7⟩
      have R4 := hide (R3.out.below hb7 R3.out.lt)
      have Hb7 := hide (Hb6.out.trans (hb7.mono Hb6.out.size))
      clear hb7 R3 Hv5b Hv6
      refine hK _ _ (fun _ => R4.out) ?_
      clear hK K
      try simp only [Act.put, List.setIfInBounds_toArray, List.set_cons_succ, List.set_cons_zero]
      iterate 2 (refine Rg.ord_quiet (v := ?_) rfl (fun w' hS => ?_) R4.out ?_; rotate_left; (have y0 := hS.cell 0; have y1 := hS.cell 1; have y2 := hS.cell 2; have y3 := hS.cell 3; have y4 := hS.cell 4; simp only [List.getElem?_cons_zero, List.getElem?_cons_succ] at y0 y1 y2 y3 y4; go_simp; with_reducible rfl); simp only [Act.put, List.setIfInBounds_toArray, List.set_cons_succ, List.set_cons_zero])
      iterate 2 (refine Rg.ord_guarded (v := ?_) (by rfl) (fun w' hS => ?_) R4.out ?_; rotate_left; (have y0 := hS.cell 0; have y1 := hS.cell 1; have y2 := hS.cell 2; have y3 := hS.cell 3; have y4 := hS.cell 4; simp only [List.getElem?_cons_zero, List.getElem?_cons_succ] at y0 y1 y2 y3 y4; go_simp; with_reducible rfl); simp only [Act.put, List.setIfInBounds_toArray, List.set_cons_succ, List.set_cons_zero])
      refine Rg.ord_loud (by rfl) (fun K hK => ?_)
      go_simp
      refine (HE.out w7 Hb7.out).mono ?_
      rintro y w8 ⟨v8, rfl, hv8, hb8⟩
      obtain ⟨A8, c8, rfl, he8⟩ := OwE.es hv8
      rw [← Hne.out]
      have He8 := hide he8
      have R5 := hide (R4.out.below hb8 R4.out.lt)
      have Hb8 := hide (Hb7.out.trans (hb8.mono Hb7.out.size))
      clear hb8 hv8 he8 R4
      refine hK _ _ (fun _ => R5.out) ?_
      clear hK K
      try simp only [Act.put, List.setIfInBounds_toArray, List.set_cons_succ, List.set_cons_zero]
      refine Rg.ord_loud (by rfl) (fun K hK => ?_)
      go_simp
      refine (HV.out w8 Hb8.out).mono ?_
      rintro y w9 ⟨v9, rfl, hv9, hb9⟩
      obtain ⟨A9, c9, rfl, he9⟩ := OwE.es hv9
      rw [← Hne.out]
      have He9 := hide he9
      have He8b := hide (He8.out.keep hb9)
      have R6 := hide (R5.out.below hb9 R5.out.lt)
      have Hb9 := hide (Hb8.out.trans (hb9.mono Hb8.out.size))
      clear hb9 hv9 he9 R5 He8
      refine hK _ _ (fun _ => R6.out) ?_
      clear hK K
      try simp only [Act.put, List.setIfInBounds_toArray, List.set_cons_succ, List.set_cons_zero]
      refine Rg.ord_loud (by rfl) (fun K hK => ?_)
      go_simp
      refine (HSm.out A8 c8 A9 c9 w9 He8b.out He9.out).mono ?_
      rintro y w10 ⟨rfl, hb10⟩
      have R7 := hide (R6.out.below hb10 R6.out.lt)
      have Hb10 := hide (Hb9.out.trans (hb10.mono Hb9.out.size))
      clear hb10 R6 He8b He9
      refine hK _ _ (fun _ => R7.out) ?_
      clear hK K
      try simp only [Act.put, List.setIfInBounds_toArray, List.set_cons_succ, List.set_cons_zero]
      iterate 2 (refine Rg.ord_quiet (v := ?_) rfl (fun w' hS => ?_) R7.out ?_; rotate_left; (have y0 := hS.cell 0; have y1 := hS.cell 1; have y2 := hS.cell 2; have y3 := hS.cell 3; have y4 := hS.cell 4; simp only [List.getElem?_cons_zero, List.getElem?_cons_succ] at y0 y1 y2 y3 y4; go_simp; with_reducible rfl); simp only [Act.put, List.setIfInBounds_toArray, List.set_cons_succ, List.set_cons_zero])
      refine Rg.ord_nil ?_
      go_wp2
      go_ret
      exact ⟨rfl, Hb10.out⟩
end Go.Proofs.Ytodicgopmcdjpaa.Hu
