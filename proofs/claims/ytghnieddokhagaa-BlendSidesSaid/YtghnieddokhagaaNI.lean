/-
  The laws of two trees, together: BlendSides, over whatever tells of the example and of the program's own answer.
-/
import Derived.BigQuiet
import Derived.Test.YtghnieddokhagaaNH
import Derived.Test.YtghnieddokhagaaQMF
import Derived.Test.YtghnieddokhagaaQTE
import Derived.Test.YtghnieddokhagaaQEG
namespace Go.Proofs.Ytghnieddokhagaa.Tr
open Go Go.RowKit Kt Lw Li Lx Df Al

theorem trees_sides {o a b : List Fl} (ha : fine a = true) (hb : fine b = true) : (trees mgT o b a).2 = (trees mgT o a b).2 ∧ (trees mgT o b a).1.length = (trees mgT o a b).1.length ∧
    ∀ (i : Nat) (f g : Fl), (trees mgT o a b).1[i]? = some f → (trees mgT o b a).1[i]? = some g → f.path = g.path ∧ (f.path ∈ (trees mgT o a b).2 ∨ f.text = g.text) := by
  obtain ⟨g1, l1, _⟩ := fine_is ha
  obtain ⟨g2, l2, _⟩ := fine_is hb
  rw [trees_is mgT o (show a.length + b.length ≤ 1000 by omega), trees_is mgT o (show b.length + a.length ≤ 1000 by omega), both_sw a b]
  have he := one_sw mgT_sym o a b
  obtain ⟨h1, h2⟩ := outs_sw he (both a b)
  refine ⟨odds_sw he _, h1, fun i f g hf hg => ?_⟩
  obtain ⟨h3, h4, h5⟩ := h2 i f g hf hg
  refine ⟨h3, h5.imp (fun h => ?_) id⟩
  show f.path ∈ odds _ _
  unfold odds
  exact List.mem_filter.2 ⟨h4, h⟩
theorem in_more {p : Bs} {l : Ls} {m : Nat} (hm : m < l.length) : decide (p ∈ l.take (m + 1)) = (decide (p ∈ l.take m) || decide (p = l.getD m [])) := by
  rw [List.getD_eq_getElem?_getD, List.getElem?_eq_getElem hm, List.take_succ_eq_append_getElem hm]
  rw [Bool.eq_iff_iff, Bool.or_eq_true, decide_eq_true_iff, decide_eq_true_iff, decide_eq_true_iff, List.mem_append, List.mem_singleton, Option.getD_some]
set_option maxRecDepth 100000 in
set_option maxHeartbeats 8000000 in
theorem lawSides_any (o a b : List Fl) (Ao Aa Ab : Option Addr) (co ca cb : Nat) (w : World) (ho : Fls w Ao co o) (ha : Fls w Aa ca a) (hb : Fls w Ab cb b)
    (hwk : ∀ wz, Below w.heap.size w wz → Calls Try.prog 7 #[] wz fun y w' => y = .returned (.bool true) ∧ Below wz.heap.size wz w')
    (hbl : ∀ (x y z : List Fl) (A1 A2 A3 : Option Addr) (c1 c2 c3 : Nat) wz, Below w.heap.size w wz → Fls wz A1 c1 x → Fls wz A2 c2 y → Fls wz A3 c3 z → fine x = true → fine y = true → fine z = true → Calls Try.prog 9 #[.slice A1 x.length c1, .slice A2 y.length c2, .slice A3 z.length c3] wz fun e w' =>
      ∃ v u, e = .returned (.tuple #[v, u]) ∧ OwF w' wz.heap.size v (trees mgT x y z).1 ∧ OwT w' wz.heap.size tS u (trees mgT x y z).2 ∧ Below wz.heap.size wz w') :
    Calls Try.prog 6 #[.slice Ao o.length co, .slice Aa a.length ca, .slice Ab b.length cb] w fun y w' => y = .returned (.bool true) ∧ Below w.heap.size w w' := by
  have HW := hide hwk
  have HX := hide (fun (wz : World) (h : Fls wz Ao co o) => good_any o Ao co wz h)
  have HY := hide (fun (wz : World) (h : Fls wz Aa ca a) => good_any a Aa ca wz h)
  have HZ := hide (fun (wz : World) (h : Fls wz Ab cb b) => good_any b Ab cb wz h)
  have H1 := hide (fun (wz : World) (hz : Below w.heap.size w wz) (h1 : Fls wz Ao co o) (h2 : Fls wz Aa ca a) (h3 : Fls wz Ab cb b) (fo : fine o = true) (fa : fine a = true) (fb : fine b = true) => hbl o a b Ao Aa Ab co ca cb wz hz h1 h2 h3 fo fa fb)
  have H2 := hide (fun (wz : World) (hz : Below w.heap.size w wz) (h1 : Fls wz Ao co o) (h2 : Fls wz Aa ca a) (h3 : Fls wz Ab cb b) (fo : fine o = true) (fa : fine a = true) (fb : fine b = true) => hbl o b a Ao Ab Aa co cb ca wz hz h1 h3 h2 fo fb fa)
  have HS := hide (fun (fa : fine a = true) (fb : fine b = true) => trees_sides (o := o) fa fb)
  have HL := hide (trees_len o a b)
  have HN := hide (show fine a = true → fine b = true → a.length + b.length ≤ 1000000 from fun fa fb => by have := (fine_is fa).2.1; have := (fine_is fb).2.1; omega)
  obtain ⟨ko, hko⟩ : ∃ ko, ko = o.length := ⟨_, rfl⟩
  obtain ⟨ka, hka⟩ : ∃ ka, ka = a.length := ⟨_, rfl⟩
  obtain ⟨kb, hkb⟩ : ∃ kb, kb = b.length := ⟨_, rfl⟩
  rw [← hko] at HX H1 H2 ⊢
  rw [← hka] at HY H1 H2 HL HN ⊢
  rw [← hkb] at HZ H1 H2 HL HN ⊢
  clear hko hka hkb hwk hbl
  generalize trees mgT o a b = T at *
  generalize trees mgT o b a = T' at *
  obtain ⟨X, l⟩ := T
  obtain ⟨Y, l'⟩ := T'
  generalize fine o = fo at *
  generalize fine a = fa at *
  generalize fine b = fb at *
  have B_0 := hide (Below.refl w.heap.size w)
  have F_0 := hide (ho)
  have G_0 := hide (ha)
  have H_0 := hide (hb)
  clear ho ha hb
  go_enter Try.func6, Try.ntmps6
  go_wp2_with fail
  refine (HW.out w B_0.out).mono ?_
  rintro y w1 ⟨rfl, hb1⟩
  have B_1 := hide (B_0.out.trans (hb1.mono B_0.out.size))
  have F_1 := hide (F_0.out.keep hb1)
  have G_1 := hide (G_0.out.keep hb1)
  have H_1 := hide (H_0.out.keep hb1)
  clear hb1 B_0 F_0 G_0 H_0 HW
  go_wp2_with fail
  refine (HX.out w1 F_1.out).mono ?_
  rintro y w2 ⟨rfl, hb2⟩
  have B_2 := hide (B_1.out.trans (hb2.mono B_1.out.size))
  have F_2 := hide (F_1.out.keep hb2)
  have G_2 := hide (G_1.out.keep hb2)
  have H_2 := hide (H_1.out.keep hb2)
  clear hb2 B_1 F_1 G_1 H_1 HX
  go_wp2_with fail
  refine (HY.out w2 G_2.out).mono ?_
  rintro y w3 ⟨rfl, hb3⟩
  have B_3 := hide (B_2.out.trans (hb3.mono B_2.out.size))
  have F_3 := hide (F_2.out.keep hb3)
  have G_3 := hide (G_2.out.keep hb3)
  have H_3 := hide (H_2.out.keep hb3)
  clear hb3 B_2 F_2 G_2 H_2 HY
  go_wp2_with fail
  refine (HZ.out w3 H_3.out).mono ?_
  rintro y w4 ⟨rfl, hb4⟩
  have B_4 := hide (B_3.out.trans (hb4.mono B_3.out.size))
  have F_4 := hide (F_3.out.keep hb4)
  have G_4 := hide (G_3.out.keep hb4)
  have H_4 := hide (H_3.out.keep hb4)
  clear hb4 B_3 F_3 G_3 H_3 HZ
  cases fo with
  | false =>
    clear H1 H2 HS HL HN
    go_wp2
    go_ret
    exact ⟨rfl, B_4.out⟩
  | true =>
    cases fa with
    | false =>
      clear H1 H2 HS HL HN
      go_wp2
      go_ret
      exact ⟨rfl, B_4.out⟩
    | true =>
      cases fb with
      | false =>
        clear H1 H2 HS HL HN
        go_wp2
        go_ret
        exact ⟨rfl, B_4.out⟩
      | true =>
        obtain ⟨hs1, hs2, hs3⟩ := HS.out (by simp) (by simp)
        have hl2 : l.length ≤ 1000000 := Nat.le_trans HL.out.2 (HN.out (by simp) (by simp))
        have hl1 : X.length ≤ 1000 := HL.out.1
        subst hs1
        have Hs3 := hide hs3
        have Hl2 := hide hl2
        obtain ⟨N, hN⟩ : ∃ N, N = X.length := ⟨_, rfl⟩
        rw [← hN] at hs2 hl1
        have HNx := hide hN
        have HNy := hide hs2.symm
        clear HS HL HN hs2 hs3 hl2 hN
        go_wp2_with fail
        refine (H1.out w4 B_4.out F_4.out G_4.out H_4.out (by simp) (by simp) (by simp)).mono ?_
        rintro y w5 ⟨v5, u5, rfl, hf5, ht5, hb5⟩
        obtain ⟨A5, c5, rfl, hF5⟩ := hf5.fls
        obtain ⟨D5, d5, rfl, hT5⟩ := ht5.vs
        have hV5 := hT5.bound
        have B_5 := hide (B_4.out.trans (hb5.mono B_4.out.size))
        have F_5 := hide (F_4.out.keep hb5)
        have G_5 := hide (G_4.out.keep hb5)
        have H_5 := hide (H_4.out.keep hb5)
        have X_5 := hide (hF5)
        have V_5 := hide (hV5)
        have U_5 := hide (ht5)
        clear hb5 B_4 F_4 G_4 H_4 hf5 ht5 H1 hF5 hT5 hV5
        go_wp2_with fail
        refine (H2.out w5 B_5.out F_5.out G_5.out H_5.out (by simp) (by simp) (by simp)).mono ?_
        rintro y w6 ⟨v6, u6, rfl, hf6, ht6, hb6⟩
        obtain ⟨A6, c6, rfl, hF6⟩ := hf6.fls
        have B_6 := hide (B_5.out.trans (hb6.mono B_5.out.size))
        have X_6 := hide (X_5.out.keep hb6)
        have V_6 := hide (vs_keep V_5.out hb6)
        have U_6 := hide (U_5.out.kept hb6)
        have Y_6 := hide (hF6)
        have Q_6 := hide (ht6)
        clear hb6 B_5 F_5 G_5 H_5 X_5 V_5 U_5 hf6 ht6 hF6 H2
        rw [show X.length = N from HNx.out.symm, show Y.length = N from HNy.out.symm]
        go_wp2_with fail
        refine (texts_own U_6.out Q_6.out Hl2.out).mono ?_
        rintro y w7 ⟨rfl, hb7⟩
        have B_7 := hide (B_6.out.trans (hb7.mono B_6.out.size))
        have X_7 := hide (X_6.out.keep hb7)
        have V_7 := hide (vs_keep V_6.out hb7)
        have Y_7 := hide (Y_6.out.keep hb7)
        clear hb7 B_6 X_6 V_6 U_6 Y_6 Q_6
        have e2 : decide (l' = l') = true := decide_eq_true rfl
        rw [e2]
        clear e2
        obtain ⟨M, hM⟩ : ∃ M, M = l'.length := ⟨_, rfl⟩
        rw [← hM] at Hl2 ⊢
        have HM := hide hM
        have hM9 := Hl2.out
        clear hM Hl2
        go_wp2
        go_loopw [15] (fun i wr => ∃ k : Nat, k ≤ N ∧ i = .int .i64 k ∧ Hid (Below w7.heap.size w7 wr)) (fun i _ => N - (intOf i).toNat)
        case atStart => exact ⟨0, Nat.zero_le _, rfl, hide (Below.refl _ _)⟩
        case round =>
          obtain ⟨k, hk, rfl, Hbe⟩ := hrel
          by_cases hlt : k < N
          · obtain ⟨b1, o1, f, rfl, _, hf, _, c0, c1⟩ := X_7.out.at (w' := wr) Hbe.out (k := k) (by have := HNx.out; omega)
            obtain ⟨b2, o2, g, rfl, _, hg, _, e0, e1⟩ := Y_7.out.at (w' := wr) Hbe.out (k := k) (by have := HNy.out; omega)
            obtain ⟨h1, h2⟩ := Hs3.out k f g hf hg
            obtain ⟨p, x⟩ := f
            obtain ⟨q, y⟩ := g
            obtain rfl : p = q := h1
            simp only at c0 c1 e0 e1 h2
            have H2 := hide h2
            have C0 := hide c0
            have C1 := hide c1
            have E0 := hide e0
            have E1 := hide e1
            have HVl := hide (vs_keep V_7.out Hbe.out)
            obtain ⟨w1, hw1⟩ : ∃ z, z = wr := ⟨_, rfl⟩
            subst hw1
            clear hf hg h2 c0 c1 e0 e1
            go_wp2
            go_loopw [16, 17] (fun d j wr => ∃ (m : Nat) (e : Bool), d = .bool e ∧ j = .int .i64 m ∧ m ≤ M ∧ Hid (e = decide (p ∈ l'.take m)) ∧ Hid (Below w1.heap.size w1 wr)) (fun _ j _ => M - (intOf j).toNat)
            case atStart => exact ⟨0, false, rfl, rfl, Nat.zero_le _, hide (by simp), hide (Below.refl _ _)⟩
            case round =>
              obtain ⟨m, e, rfl, rfl, hm, He, Hb2⟩ := hrel
              by_cases hml : m < M
              · obtain ⟨b3, o3, rfl, z0⟩ := vs_at HVl.out (k := m) (by have := HM.out; omega)
                have hin := in_more (p := p) (l := l') (m := m) (by have := HM.out; omega)
                rw [← He.out] at hin
                obtain ⟨r, hr⟩ : ∃ r, r = l'.getD m [] := ⟨_, rfl⟩
                rw [← hr] at z0 hin
                have z1 := agr z0 Hb2.out
                have c1 := agr C0.out Hb2.out
                clear z0 hr
                cases e with
                | true =>
                  have Hin := hide hin
                  clear hin
                  go_wp2
                  refine Rg.wp_region_ord (fun w' => w' = wr.drew) [(0, true), (1, true), (2, true), (3, true), (4, true), (5, true), (6, true), (7, true), (8, true), (9, true), (10, true), (11, true), (12, true), (13, true)] (by kernel_rfl) (by kernel_rfl) ?_
                  simp only [Rg.pick, List.map_cons, List.map_nil, List.getD_cons_zero, List.getD_cons_succ]
                  iterate 2 (refine Rg.ord_quiet (v := ?_) rfl (fun w' hS => ?_) rfl ?_; rotate_left; (subst hS; go_simp; with_reducible rfl); simp only [Act.put, List.setIfInBounds_toArray, List.set_cons_succ, List.set_cons_zero])
                  iterate 10 (refine Rg.ord_passed (by rfl) rfl ?_; simp only [Act.put, List.setIfInBounds_toArray, List.set_cons_succ, List.set_cons_zero])
                  iterate 2 (refine Rg.ord_quiet (v := ?_) rfl (fun w' hS => ?_) rfl ?_; rotate_left; (subst hS; go_simp; with_reducible rfl); simp only [Act.put, List.setIfInBounds_toArray, List.set_cons_succ, List.set_cons_zero])
                  refine Rg.ord_nil ?_
                  have Hb9 := hide Hb2.out.drew
                  clear Hb2 z1 c1
                  generalize wr.drew = wd at *
                  go_wp2
                  exact ⟨⟨m + 1, true, rfl, by go_num, by omega, hide (by rw [Hin.out, Bool.true_or]), Hb9⟩, by simp [intOf]; omega⟩
                | false =>
                  rw [Bool.false_or] at hin
                  by_cases hrp : r = p
                  · subst hrp
                    have hrr : (r == r) = true := beq_self_eq_true r
                    have Hin := hide (hin.trans (decide_eq_true rfl))
                    clear hin
                    go_wp2
                    have s0 : wr.drew.cell? ⟨b3, o3 + m, none⟩ = some (.string ⟨r.toArray⟩) := z1
                    have s1 : wr.drew.cell? ⟨b1, o1 + k * 2, none⟩ = some (.string ⟨r.toArray⟩) := c1
                    refine Rg.wp_region_ord (fun w' => w' = wr.drew) [(0, true), (1, true), (2, true), (3, true), (4, true), (5, true), (6, true), (7, true), (8, true), (9, true), (10, true), (11, true), (12, true), (13, true)] (by kernel_rfl) (by kernel_rfl) ?_
                    simp only [Rg.pick, List.map_cons, List.map_nil, List.getD_cons_zero, List.getD_cons_succ]
                    iterate 2 (refine Rg.ord_quiet (v := ?_) rfl (fun w' hS => ?_) rfl ?_; rotate_left; (subst hS; go_simp; with_reducible rfl); simp only [Act.put, List.setIfInBounds_toArray, List.set_cons_succ, List.set_cons_zero])
                    iterate 10 (refine Rg.ord_guarded (v := ?_) (by rfl) (fun w' hS => ?_) rfl ?_; rotate_left; (subst hS; go_simp; with_reducible rfl); simp only [Act.put, List.setIfInBounds_toArray, List.set_cons_succ, List.set_cons_zero])
                    iterate 2 (refine Rg.ord_quiet (v := ?_) rfl (fun w' hS => ?_) rfl ?_; rotate_left; (subst hS; go_simp; with_reducible rfl); simp only [Act.put, List.setIfInBounds_toArray, List.set_cons_succ, List.set_cons_zero])
                    refine Rg.ord_nil ?_
                    have Hb9 := hide Hb2.out.drew
                    clear Hb2 z1 c1 s0 s1
                    generalize wr.drew = wd at *
                    go_wp2
                    exact ⟨⟨m + 1, true, rfl, by go_num, by omega, hide Hin.out.symm, Hb9⟩, by simp [intOf]; omega⟩
                  · have hrr := eqn_no hrp
                    have Hin := hide (hin.trans (decide_eq_false fun h => hrp h.symm))
                    clear hin hrp
                    go_wp2
                    have s0 : wr.drew.cell? ⟨b3, o3 + m, none⟩ = some (.string ⟨r.toArray⟩) := z1
                    have s1 : wr.drew.cell? ⟨b1, o1 + k * 2, none⟩ = some (.string ⟨p.toArray⟩) := c1
                    refine Rg.wp_region_ord (fun w' => w' = wr.drew) [(0, true), (1, true), (2, true), (3, true), (4, true), (5, true), (6, true), (7, true), (8, true), (9, true), (10, true), (11, true), (12, true), (13, true)] (by kernel_rfl) (by kernel_rfl) ?_
                    simp only [Rg.pick, List.map_cons, List.map_nil, List.getD_cons_zero, List.getD_cons_succ]
                    iterate 2 (refine Rg.ord_quiet (v := ?_) rfl (fun w' hS => ?_) rfl ?_; rotate_left; (subst hS; go_simp; with_reducible rfl); simp only [Act.put, List.setIfInBounds_toArray, List.set_cons_succ, List.set_cons_zero])
                    iterate 10 (refine Rg.ord_guarded (v := ?_) (by rfl) (fun w' hS => ?_) rfl ?_; rotate_left; (subst hS; go_simp; with_reducible rfl); simp only [Act.put, List.setIfInBounds_toArray, List.set_cons_succ, List.set_cons_zero])
                    iterate 2 (refine Rg.ord_quiet (v := ?_) rfl (fun w' hS => ?_) rfl ?_; rotate_left; (subst hS; go_simp; with_reducible rfl); simp only [Act.put, List.setIfInBounds_toArray, List.set_cons_succ, List.set_cons_zero])
                    refine Rg.ord_nil ?_
                    have Hb9 := hide Hb2.out.drew
                    clear Hb2 z1 c1 s0 s1
                    generalize wr.drew = wd at *
                    go_wp2
                    exact ⟨⟨m + 1, false, rfl, by go_num, by omega, hide Hin.out.symm, Hb9⟩, by simp [intOf]; omega⟩
              · obtain rfl : m = M := by omega
                have c0 := agr C0.out Hb2.out
                have c1 := agr C1.out Hb2.out
                have e0 := agr E0.out Hb2.out
                have e1 := agr E1.out Hb2.out
                have he := He.out
                rw [HM.out, List.take_length] at he
                have hpp : (p == p) = true := beq_self_eq_true p
                have hpn : (p != p) = false := by unfold bne; rw [hpp]; rfl
                have Hb4 := hide (Hbe.out.trans (Hb2.out.mono Hbe.out.size))
                cases e with
                | true =>
                  clear He he
                  go_wp2
                  have s0 : wr.drew.cell? ⟨b1, o1 + k * 2, none⟩ = some (.string ⟨p.toArray⟩) := c0
                  have s1 : wr.drew.cell? ⟨b2, o2 + k * 2, none⟩ = some (.string ⟨p.toArray⟩) := e0
                  have s2 : wr.drew.cell? ⟨b1, o1 + k * 2 + 1, none⟩ = some (.string ⟨x.toArray⟩) := c1
                  have s3 : wr.drew.cell? ⟨b2, o2 + k * 2 + 1, none⟩ = some (.string ⟨y.toArray⟩) := e1
                  refine Rg.wp_region_ord (fun w' => w' = wr.drew) [(0, true), (1, true), (2, true), (3, true), (4, true), (5, true), (6, true), (7, true), (8, true), (9, true), (10, true), (11, true), (12, true), (13, true), (14, true), (15, true), (16, true), (17, true), (18, true), (19, true), (20, true), (21, true), (22, true), (23, true), (24, true), (25, true), (26, true), (27, true)] (by kernel_rfl) (by kernel_rfl) ?_
                  simp only [Rg.pick, List.map_cons, List.map_nil, List.getD_cons_zero, List.getD_cons_succ]
                  iterate 12 (refine Rg.ord_quiet (v := ?_) rfl (fun w' hS => ?_) rfl ?_; rotate_left; (subst hS; go_simp; with_reducible rfl); simp only [Act.put, List.setIfInBounds_toArray, List.set_cons_succ, List.set_cons_zero])
                  iterate 3 (refine Rg.ord_guarded (v := ?_) (by rfl) (fun w' hS => ?_) rfl ?_; rotate_left; (subst hS; go_simp; with_reducible rfl); simp only [Act.put, List.setIfInBounds_toArray, List.set_cons_succ, List.set_cons_zero])
                  iterate 11 (refine Rg.ord_passed (by rfl) rfl ?_; simp only [Act.put, List.setIfInBounds_toArray, List.set_cons_succ, List.set_cons_zero])
                  iterate 1 (refine Rg.ord_guarded (v := ?_) (by rfl) (fun w' hS => ?_) rfl ?_; rotate_left; (subst hS; go_simp; with_reducible rfl); simp only [Act.put, List.setIfInBounds_toArray, List.set_cons_succ, List.set_cons_zero])
                  iterate 1 (refine Rg.ord_quiet (v := ?_) rfl (fun w' hS => ?_) rfl ?_; rotate_left; (subst hS; go_simp; with_reducible rfl); simp only [Act.put, List.setIfInBounds_toArray, List.set_cons_succ, List.set_cons_zero])
                  refine Rg.ord_nil ?_
                  have Hb9 := hide Hb4.out.drew
                  clear Hb4 Hb2 c0 c1 e0 e1 s0 s1 s2 s3
                  generalize wr.drew = wd at *
                  go_wp2
                  exact ⟨⟨k + 1, by omega, by go_num, Hb9⟩, by simp [intOf]; omega⟩
                | false =>
                  obtain rfl : x = y := H2.out.resolve_left (of_decide_eq_false he.symm)
                  have hxx : (x == x) = true := beq_self_eq_true x
                  have hxn : (x != x) = false := by unfold bne; rw [hxx]; rfl
                  clear He he
                  go_wp2
                  have s0 : wr.drew.cell? ⟨b1, o1 + k * 2, none⟩ = some (.string ⟨p.toArray⟩) := c0
                  have s1 : wr.drew.cell? ⟨b2, o2 + k * 2, none⟩ = some (.string ⟨p.toArray⟩) := e0
                  have s2 : wr.drew.cell? ⟨b1, o1 + k * 2 + 1, none⟩ = some (.string ⟨x.toArray⟩) := c1
                  have s3 : wr.drew.cell? ⟨b2, o2 + k * 2 + 1, none⟩ = some (.string ⟨x.toArray⟩) := e1
                  refine Rg.wp_region_ord (fun w' => w' = wr.drew) [(0, true), (1, true), (2, true), (3, true), (4, true), (5, true), (6, true), (7, true), (8, true), (9, true), (10, true), (11, true), (12, true), (13, true), (14, true), (15, true), (16, true), (17, true), (18, true), (19, true), (20, true), (21, true), (22, true), (23, true), (24, true), (25, true), (26, true), (27, true)] (by kernel_rfl) (by kernel_rfl) ?_
                  simp only [Rg.pick, List.map_cons, List.map_nil, List.getD_cons_zero, List.getD_cons_succ]
                  iterate 12 (refine Rg.ord_quiet (v := ?_) rfl (fun w' hS => ?_) rfl ?_; rotate_left; (subst hS; go_simp; with_reducible rfl); simp only [Act.put, List.setIfInBounds_toArray, List.set_cons_succ, List.set_cons_zero])
                  iterate 3 (refine Rg.ord_guarded (v := ?_) (by rfl) (fun w' hS => ?_) rfl ?_; rotate_left; (subst hS; go_simp; with_reducible rfl); simp only [Act.put, List.setIfInBounds_toArray, List.set_cons_succ, List.set_cons_zero])
                  iterate 11 (refine Rg.ord_guarded (v := ?_) (by rfl) (fun w' hS => ?_) rfl ?_; rotate_left; (subst hS; go_simp; with_reducible rfl); simp only [Act.put, List.setIfInBounds_toArray, List.set_cons_succ, List.set_cons_zero])
                  iterate 1 (refine Rg.ord_guarded (v := ?_) (by rfl) (fun w' hS => ?_) rfl ?_; rotate_left; (subst hS; go_simp; with_reducible rfl); simp only [Act.put, List.setIfInBounds_toArray, List.set_cons_succ, List.set_cons_zero])
                  iterate 1 (refine Rg.ord_quiet (v := ?_) rfl (fun w' hS => ?_) rfl ?_; rotate_left; (subst hS; go_simp; with_reducible rfl); simp only [Act.put, List.setIfInBounds_toArray, List.set_cons_succ, List.set_cons_zero])
                  refine Rg.ord_nil ?_
                  have Hb9 := hide Hb4.out.drew
                  clear Hb4 Hb2 c0 c1 e0 e1 s0 s1 s2 s3
                  generalize wr.drew = wd at *
                  go_wp2
                  exact ⟨⟨k + 1, by omega, by go_num, Hb9⟩, by simp [intOf]; omega⟩
          · obtain rfl : k = N := by omega
            go_wp2
            go_ret
            exact ⟨rfl, B_7.out.trans (Hbe.out.mono B_7.out.size)⟩
end Go.Proofs.Ytghnieddokhagaa.Tr
