/-
  The reference of trees: a tree with a file.
-/
import Derived.BigQuiet
import Derived.Test.YtabgkfkjnpcbkaaDoorQTH
namespace Go.Proofs.YtabgkfkjnpcbkaaDoor.Tr
open Go Go.RowKit Kt Lw Li Lx Df

/-- what is done is so much of what is to do -/
def soFar (f : Fl) (D : List Fl) (k : Nat) (dn : Bool) (L : List Fl) : Prop := L.length ≤ 2 * k ∧ ins f D = if dn then L ++ D.drop k else L ++ ins f (D.drop k)
theorem soFar.zero (f : Fl) (D : List Fl) : soFar f D 0 false [] := ⟨Nat.le_refl _, rfl⟩
theorem soFar.past {f e : Fl} {D L : List Fl} {k : Nat} (h : soFar f D k true L) (hd : D.drop k = e :: D.drop (k + 1)) : soFar f D (k + 1) true (L ++ [e]) := by
  refine ⟨by have := h.1; simp only [List.length_append, List.length_cons, List.length_nil]; omega, ?_⟩
  rw [h.2, if_pos rfl, if_pos rfl, hd, List.append_assoc]; rfl
theorem soFar.here {f e : Fl} {D L : List Fl} {k : Nat} (h : soFar f D k false L) (hd : D.drop k = e :: D.drop (k + 1)) (hl : lt f.path e.path = true) : soFar f D (k + 1) true ((L ++ [f]) ++ [e]) := by
  refine ⟨by have := h.1; simp only [List.length_append, List.length_cons, List.length_nil]; omega, ?_⟩
  rw [h.2, if_neg (by decide), if_pos rfl, hd, ins, if_pos hl, List.append_assoc, List.append_assoc]; rfl
theorem soFar.ahead {f e : Fl} {D L : List Fl} {k : Nat} (h : soFar f D k false L) (hd : D.drop k = e :: D.drop (k + 1)) (hl : lt f.path e.path = false) : soFar f D (k + 1) false (L ++ [e]) := by
  refine ⟨by have := h.1; simp only [List.length_append, List.length_cons, List.length_nil]; omega, ?_⟩
  rw [h.2, if_neg (by decide), if_neg (by decide), hd, ins, if_neg (by rw [hl]; decide), List.append_assoc]; rfl
theorem soFar.full {f : Fl} {D L : List Fl} (h : soFar f D D.length true L) : ins f D = L := by
  rw [h.2, if_pos rfl, List.drop_length, List.append_nil]
theorem soFar.last {f : Fl} {D L : List Fl} (h : soFar f D D.length false L) : ins f D = L ++ [f] := by
  rw [h.2, if_neg (by decide), List.drop_length]; rfl
set_option maxRecDepth 100000 in
set_option maxHeartbeats 4000000 in
theorem rput_any (t : List Fl) (f : Fl) (A : Option Addr) (c : Nat) (w : World) (hs : Fls w A c t) (hn : t.length ≤ 1000000) (hf : f.path.length ≤ 9223372036854775807) (hm : ∀ g ∈ t, g.path.length ≤ 100000) :
    Calls Tryd.prog 49 #[.slice A t.length c, .agg #[.string ⟨f.path.toArray⟩, .string ⟨f.text.toArray⟩]] w fun y w' => ∃ v, y = .returned (.tuple #[v, .int .i64 ((put t f).2 : Nat)]) ∧ OwF w' w.heap.size v (put t f).1 ∧ Below w.heap.size w w' := by
  obtain ⟨p, x⟩ := f
  have hrow := Row.fresh w tF #[.string ⟨p.toArray⟩, .string ⟨x.toArray⟩]
  have hb1 := (Below.refl w.heap.size w).alloc (Nat.le_refl _) (.cells #[.string ⟨p.toArray⟩, .string ⟨x.toArray⟩] tF)
  have HP := hide (fun w => rpath_any p w hf)
  obtain ⟨w1, hw1⟩ : ∃ w1, w1 = w.alloc (.cells #[.string ⟨p.toArray⟩, .string ⟨x.toArray⟩] tF) := ⟨_, rfl⟩
  obtain ⟨g, hg⟩ : ∃ g, g = w.heap.size := ⟨_, rfl⟩
  rw [← hw1] at hrow hb1
  rw [← hg] at hrow
  have HD := hide (rdrop_any t p A c w1 (hs.keep hb1) hn)
  have c0 : w1.cell? ⟨g, 0, none⟩ = some (.string ⟨p.toArray⟩) := hrow.cell 0
  have c1 : w1.cell? ⟨g, 1, none⟩ = some (.string ⟨x.toArray⟩) := hrow.cell 1
  have HmD : Hid (∀ e ∈ drop t p, e.path.length ≤ 100000) := hide fun e he => hm e (List.mem_filter.1 he).1
  obtain ⟨N, hN⟩ : ∃ N, N = t.length := ⟨_, rfl⟩
  rw [← hN] at HD ⊢
  have Hb1 := hide hb1
  have Hput := hide (show put t ⟨p, x⟩ = if can p = false then ([], 7) else if 65536 < x.length ∨ 1000 ≤ (drop t p).length then ([], 4) else (ins ⟨p, x⟩ (drop t p), 0) from rfl)
  have W1 := hide hw1
  have G1 := hide hg
  generalize put t ⟨p, x⟩ = R at *
  clear hs hn hf hm hN hrow hb1 hw1 hg
  go_enter Tryd.func49, Tryd.ntmps49
  go_wp2_with fail
  rw [← W1.out, ← G1.out]
  cases hc : can p with
  | false =>
    rw [hc, if_pos rfl] at Hput
    rw [hc] at HP
    clear HD
    go_wp2_with fail
    refine (HP.out _).mono ?_
    rintro y wz ⟨rfl, rfl⟩
    go_wp2
    go_ret2
    exact ⟨_, by rw [Hput.out]; rfl, by rw [Hput.out]; exact OwF.nil _ _, Hb1.out⟩
  | true =>
    have hp2 : p.length ≤ 200 := by
      have := hc
      unfold can at this
      rw [Bool.and_eq_true, decide_eq_true_eq] at this
      exact this.1
    rw [hc, if_neg (by decide)] at Hput
    rw [hc] at HP
    clear hc
    go_wp2_with fail
    refine (HP.out _).mono ?_
    rintro y wz ⟨rfl, rfl⟩
    generalize drop t p = D at *
    go_wp2_with fail
    refine HD.out.mono ?_
    rintro y w2 ⟨v2, rfl, hown2, hb2⟩
    have s0 := agr c0 hb2
    have s1 := agr c1 hb2
    have S0 := hide s0
    have S1 := hide s1
    have Hb2 := hide (Hb1.out.trans (hb2.mono Hb1.out.size))
    obtain ⟨A2, c2, rfl, hfl⟩ := hown2.fls
    have Hfl := hide hfl
    obtain ⟨M, hM⟩ : ∃ M, M = D.length := ⟨_, rfl⟩
    have HM := hide hM
    rw [← hM] at Hput ⊢
    clear hown2 hb2 hfl HD c0 c1 hM W1
    by_cases hx : 65536 < x.length
    · rw [if_pos (.inl hx)] at Hput
      have d1 : decide (65536 < (x.length : Int)) = true := decide_eq_true (by omega)
      have d2 : decide (65536 < x.length) = true := decide_eq_true hx
      clear hx
      go_wp2
      go_ret2
      exact ⟨_, by rw [Hput.out]; rfl, by rw [Hput.out]; exact OwF.nil _ _, Hb2.out⟩
    · have d1 : decide (65536 < (x.length : Int)) = false := decide_eq_false (by omega)
      have d2 : decide (65536 < x.length) = false := decide_eq_false hx
      by_cases hM : 1000 ≤ M
      · rw [if_pos (.inr hM)] at Hput
        have d3 : decide (1000 ≤ (M : Int)) = true := decide_eq_true (by omega)
        have d4 : decide (1000 ≤ M) = true := decide_eq_true hM
        clear hx hM
        go_wp2
        go_ret2
        exact ⟨_, by rw [Hput.out]; rfl, by rw [Hput.out]; exact OwF.nil _ _, Hb2.out⟩
      · have d3 : decide (1000 ≤ (M : Int)) = false := decide_eq_false (by omega)
        have d4 : decide (1000 ≤ M) = false := decide_eq_false hM
        have hM2 : M < 1000 := by omega
        rw [if_neg (by omega)] at Hput
        clear hx hM
        go_wp2
        clear d1 d2 d3 d4
        go_loopw [9, 10, 11] (fun s d i wr => ∃ (k : Nat) (v0 : Value) (L : List Fl) (dn : Bool), v0 = s ∧ d = .bool dn ∧ k ≤ M ∧ i = .int .i64 k ∧ OwF wr w2.heap.size v0 L ∧ Hid (soFar ⟨p, x⟩ D k dn L) ∧ Below w2.heap.size w2 wr) (fun _ _ i _ => M - (intOf i).toNat)
        case atStart => exact ⟨0, _, [], false, rfl, rfl, Nat.zero_le _, rfl, OwF.nil _ _, by show Hid _; exact hide (soFar.zero _ _), Below.refl _ _⟩
        case round =>
          obtain ⟨k, v, L, dn, rfl, rfl, hk, rfl, hown, HF, hb⟩ := hrel
          have Hb := hide hb
          have Hown := hide hown
          have t0 := agr S0.out hb
          have t1 := agr S1.out hb
          clear hb hown s0 s1
          by_cases hlt : k < M
          · obtain ⟨b, o, e, rfl, hbl, he, hd, a0, a1⟩ := Hfl.out.at (w' := w2) (Below.refl _ _) (k := k) (by have := HM.out; omega)
            have hq2 := HmD.out e (List.mem_of_getElem? he)
            obtain ⟨q, z⟩ := e
            have C0 := hide a0
            have C1 := hide a1
            have d0 := agr a0 Hb.out
            have d1 := agr a1 Hb.out
            have D0 := hide d0
            have D1 := hide d1
            have Hd := hide hd
            clear he hd hbl a0 a1
            cases dn with
            | true =>
              have HF2 := hide (HF.out.past Hd.out)
              clear HF
              go_wp2
              refine Rg.wp_region_ord (fun w' => w' = wr.drew) [(0, true), (1, true), (2, true), (3, true), (4, true), (5, true), (6, true), (7, true), (8, true), (9, true), (10, true), (11, true)] (by kernel_rfl) (by kernel_rfl) ?_
              simp only [Rg.pick, List.map_cons, List.map_nil, List.getD_cons_zero, List.getD_cons_succ]
              iterate 3 (refine Rg.ord_quiet (v := ?_) rfl (fun w' hS => ?_) rfl ?_; rotate_left; (subst hS; go_simp; with_reducible rfl); simp only [Act.put, List.setIfInBounds_toArray, List.set_cons_succ, List.set_cons_zero])
              iterate 8 (refine Rg.ord_passed (by rfl) rfl ?_; simp only [Act.put, List.setIfInBounds_toArray, List.set_cons_succ, List.set_cons_zero])
              iterate 1 (refine Rg.ord_quiet (v := ?_) rfl (fun w' hS => ?_) rfl ?_; rotate_left; (subst hS; go_simp; with_reducible rfl); simp only [Act.put, List.setIfInBounds_toArray, List.set_cons_succ, List.set_cons_zero])
              refine Rg.ord_nil ?_
              have Hbd := hide Hb.out.drew
              have Howd : Hid (OwF wr.drew w2.heap.size v L) := hide Hown.out.drew
              have hL1 := HF2.out.1
              rw [List.length_append, List.length_singleton] at hL1
              have hL2 : L.length + 1 ≤ 1000000000 := by omega
              have e0 := agr D0.out ((Below.refl _ wr).drew)
              have e1 := agr D1.out ((Below.refl _ wr).drew)
              clear Hb Hown d0 d1 t0 t1 D0 D1
              generalize wr.drew = wd at *
              go_wp2_with (refine wpList_pushF rfl (.tmp 55) (.tmp 60) rfl w2.heap.size w2 v L ⟨q, z⟩ _ rfl rfl rfl Howd.out hL2 Hbd.out Hbd.out.size ?_; intro v1 w5 hown1 hb1 _)
              exact ⟨⟨k + 1, _, L ++ [⟨q, z⟩], true, rfl, rfl, by omega, by go_num, hown1, by show Hid _; exact HF2, hb1⟩, by simp [intOf]; omega⟩
            | false =>
              have HLs := hide (fun w => rless_any p q w (by omega) hq2)
              go_wp2
              have s0 : wr.drew.cell? ⟨g, 0, none⟩ = some (.string ⟨p.toArray⟩) := t0
              have s1 : wr.drew.cell? ⟨b, o + k * 2, none⟩ = some (.string ⟨q.toArray⟩) := d0
              refine Rg.wp_region_ord (fun w' => w'.cell? ⟨g, 0, none⟩ = some (.string ⟨p.toArray⟩) ∧ w'.cell? ⟨b, o + k * 2, none⟩ = some (.string ⟨q.toArray⟩)) [(0, true), (1, true), (2, true), (3, true), (4, true), (5, true), (6, true), (7, true), (8, true), (9, true), (10, false), (11, true)] (by kernel_rfl) (by kernel_rfl) ?_
              simp only [Rg.pick, List.map_cons, List.map_nil, List.getD_cons_zero, List.getD_cons_succ]
              iterate 3 (refine Rg.ord_quiet (v := ?_) rfl (fun w' hS => ?_) ⟨s0, s1⟩ ?_; rotate_left; (obtain ⟨q0, q1⟩ := hS; go_simp; with_reducible rfl); simp only [Act.put, List.setIfInBounds_toArray, List.set_cons_succ, List.set_cons_zero])
              iterate 7 (refine Rg.ord_guarded (v := ?_) (by rfl) (fun w' hS => ?_) ⟨s0, s1⟩ ?_; rotate_left; (obtain ⟨q0, q1⟩ := hS; go_simp; with_reducible rfl); simp only [Act.put, List.setIfInBounds_toArray, List.set_cons_succ, List.set_cons_zero])
              refine Rg.ord_loud (by rfl) (fun K hK => ?_)
              go_simp
              refine (HLs.out _).mono ?_
              rintro y w3 ⟨rfl, hb3⟩
              refine hK _ _ (fun _ => ⟨agr s0 hb3, agr s1 hb3⟩) ?_
              clear hK K
              have r0 := agr s0 hb3
              have r1 := agr s1 hb3
              have e0 := hide (agr D0.out ((Below.refl _ wr).drew.trans hb3))
              have e1 := hide (agr D1.out ((Below.refl _ wr).drew.trans hb3))
              have f1 := hide (agr t1 ((Below.refl _ wr).drew.trans hb3))
              have Hbd := hide (Hb.out.drew.trans (hb3.mono Hb.out.drew.size))
              have Howd : Hid (OwF w3 w2.heap.size v L) := hide (Hown.out.drew.keep hb3)
              have hL1 := HF.out.1
              have hL2 : L.length + 2 ≤ 1000000000 := by omega
              cases hL : Op.bytesLess p q
              · have HF2 := hide (HF.out.ahead Hd.out hL)
                iterate 1 (refine Rg.ord_quiet (v := ?_) rfl (fun w' hS => ?_) ⟨r0, r1⟩ ?_; rotate_left; (obtain ⟨q0, q1⟩ := hS; go_simp; with_reducible rfl); simp only [Act.put, List.setIfInBounds_toArray, List.set_cons_succ, List.set_cons_zero])
                refine Rg.ord_nil ?_
                have e0 := e0.out
                have e1 := e1.out
                clear Hb Hown d0 d1 t0 t1 D0 D1 s0 s1 r0 r1 hb3 HF hL f1
                go_wp2_with (refine wpList_pushF rfl (.tmp 55) (.tmp 60) rfl w2.heap.size w2 v L ⟨q, z⟩ _ rfl rfl rfl Howd.out (by omega) Hbd.out Hbd.out.size ?_; intro v1 w5 hown1 hb1 _)
                exact ⟨⟨k + 1, _, L ++ [⟨q, z⟩], false, rfl, rfl, by omega, by go_num, hown1, by show Hid _; exact HF2, hb1⟩, by simp [intOf]; omega⟩
              · have HF2 := hide (HF.out.here Hd.out hL)
                iterate 1 (refine Rg.ord_quiet (v := ?_) rfl (fun w' hS => ?_) ⟨r0, r1⟩ ?_; rotate_left; (obtain ⟨q0, q1⟩ := hS; go_simp; with_reducible rfl); simp only [Act.put, List.setIfInBounds_toArray, List.set_cons_succ, List.set_cons_zero])
                refine Rg.ord_nil ?_
                have f0 := r0
                have f1 := f1.out
                clear Hb Hown d0 d1 t0 t1 s0 s1 r0 r1 hb3 HF hL
                go_wp2_with (first | (refine wpList_pushF rfl (.tmp 51) (.tmp 53) rfl w2.heap.size w2 v L ⟨p, x⟩ _ rfl rfl rfl Howd.out (by omega) Hbd.out Hbd.out.size ?_; intro v1 w5 hown1 hb5 _; have e2 := agr C0.out hb5; have e3 := agr C1.out hb5; have Hown1 := hide hown1; have Hb5 := hide hb5; clear hown1 hb5 e0 e1 f0 f1 Howd Hbd D0 D1) | (refine wpList_pushF rfl (.tmp 55) (.tmp 60) rfl w2.heap.size w2 v1 (L ++ [⟨p, x⟩]) ⟨q, z⟩ _ rfl rfl rfl Hown1.out (by rw [List.length_append, List.length_singleton]; omega) Hb5.out Hb5.out.size ?_; intro v3 w6 hown3 hb6 _))
                exact ⟨⟨k + 1, _, (L ++ [⟨p, x⟩]) ++ [⟨q, z⟩], true, rfl, rfl, by omega, by go_num, hown3, by show Hid _; exact HF2, hb6⟩, by simp [intOf]; omega⟩
          · obtain rfl : k = M := by omega
            have hf := HF.out
            rw [HM.out] at hf
            cases dn with
            | true =>
              have hi := hf.full
              rw [hi] at Hput
              have Hw := hide (Hown.out.base Hb2.out.size)
              have Hbw := hide (Hb2.out.trans (Hb.out.mono Hb2.out.size))
              clear hf hi HF
              obtain ⟨A9, c9, rfl, _⟩ := Hown.out.fls
              obtain ⟨l9, hl9⟩ : ∃ y, y = L.length := ⟨_, rfl⟩
              rw [← hl9] at Hw Hown ⊢
              clear hl9
              go_wp2
              go_ret2
              exact ⟨_, by rw [Hput.out]; rfl, by rw [Hput.out]; exact Hw.out, Hbw.out⟩
            | false =>
              have hi := hf.last
              have hL1 := HF.out.1
              rw [hi] at Hput
              clear hf hi HF
              go_wp2_with (refine wpList_pushF rfl (.tmp 64) (.tmp 66) rfl w2.heap.size w2 v L ⟨p, x⟩ _ rfl rfl rfl Hown.out (by omega) Hb.out Hb.out.size ?_; intro v1 w5 hown1 hb1 _)
              have Hw := hide (hown1.base Hb2.out.size)
              have Hbw := hide (Hb2.out.trans (hb1.mono Hb2.out.size))
              clear hb1
              obtain ⟨A9, c9, rfl, _⟩ := hown1.fls
              clear hown1
              obtain ⟨l9, hl9⟩ : ∃ y, y = (L ++ [(⟨p, x⟩ : Fl)]).length := ⟨_, rfl⟩
              rw [← hl9] at Hw ⊢
              clear hl9
              go_wp2
              go_ret2
              exact ⟨_, by rw [Hput.out]; rfl, by rw [Hput.out]; exact Hw.out, Hbw.out⟩
end Go.Proofs.YtabgkfkjnpcbkaaDoor.Tr
