/-
  The reference's Apply of hunks.
-/
import Derived.Test.YtfmmececocilhaaBT
import Derived.Test.YtfmmececocilhaaHZ
namespace Go.Proofs.Ytfmmececocilhaa.Ap
open Go Go.RowKit Kt Lw Li Df Hu

theorem okF_signs : ∀ (l : Ls) (p : Bool), okF p l = true → ∀ x ∈ l, sg x = 32 ∨ sg x = 45 ∨ sg x = 43
  | [], _, _ => fun x hx => by cases hx
  | y :: l, p, h => fun x hx => by
    obtain ⟨⟨h1, _⟩, h3⟩ := (okF_cons p y l).1 h
    rcases List.mem_cons.1 hx with rfl | hx
    · exact h1
    · exact okF_signs l _ h3 x hx
theorem take_more {a : Ls} {z y : Nat} (hz : z ≤ y) (hy : y < a.length) : (a.drop z).take (y + 1 - z) = (a.drop z).take (y - z) ++ [a.getD y []] := by
  rw [show y + 1 - z = y - z + 1 by omega, List.take_add_one, List.getElem?_drop, show z + (y - z) = y by omega, List.getElem?_eq_getElem hy, List.getD_eq_getElem?_getD, List.getElem?_eq_getElem hy]; rfl
theorem getD_some {a : Ls} {y : Nat} (hy : y < a.length) : a[y]? = some (a.getD y []) := by
  rw [List.getD_eq_getElem?_getD, List.getElem?_eq_getElem hy]; rfl
set_option maxRecDepth 100000 in
set_option maxHeartbeats 4000000 in
theorem refApply7_any (a : Ls) (L : List Hk) (A A2 : Option Addr) (c c2 : Nat) (P : Nat → Prop) (w : World) (hs : Vs w P A c (texts a)) (hk : Hks w A2 c2 L) (hn : L.length ≤ 500) (hb : ∀ h ∈ L, Sm h) (ha : a.length ≤ 10000) :
    Calls Try.prog 13 #[.slice A a.length c, .slice A2 L.length c2] w fun y w' => ∃ v, y = .returned (.tuple #[v, .int .i64 ((appl a L).2 : Int)]) ∧ OwT w' w.heap.size tS v (appl a L).1 ∧ Below w.heap.size w w' := by
  have HR := hide (refRight7_any L A2 c2 w hk (by omega) hb)
  have Hk := hide hk
  have Ha := hide (fun w' (hb' : Below w.heap.size w w') (z : Nat) (hz : z < a.length) => (Lw.Vs.bound hs).text hb' (k := z) hz)
  have Hsm := hide hb
  obtain ⟨N, hN⟩ : ∃ N, N = L.length := ⟨_, rfl⟩
  rw [← hN] at hn HR ⊢
  have HN := hide hN
  clear hs hk hb hN
  cases hok : okL 0 0 L with
  | false =>
    have Hap := hide (show appl a L = ([], 3) by unfold appl; rw [if_neg (by rw [hok]; simp)])
    rw [hok] at HR
    clear hok
    generalize a.length = M at *
    go_enter Try.func13, Try.ntmps13
    go_wp2_with fail
    refine HR.out.mono ?_
    rintro y w1 ⟨rfl, hb1⟩
    have Hb1 := hide hb1
    clear hb1 HR
    go_wp2
    go_ret2
    exact ⟨_, by rw [Hap.out]; rfl, by rw [Hap.out]; exact OwT.nil _ _ _, Hb1.out⟩
  | true =>
  have Happ := hide (show appl a L = match doH 0 a [] L with | some x => (x, 0) | none => ([], 6) by unfold appl; rw [if_pos hok]; rfl)
  have Hok := hide hok
  rw [hok] at HR
  clear hok
  obtain ⟨M, hM⟩ : ∃ M, M = a.length := ⟨_, rfl⟩
  rw [← hM] at ha ⊢
  have HM := hide hM
  clear hM
  obtain ⟨D, hD⟩ : ∃ D, D = doH 0 a [] L := ⟨_, rfl⟩
  rw [← hD] at Happ
  have HD := hide hD
  clear hD
  go_enter Try.func13, Try.ntmps13
  go_wp2_with fail
  refine HR.out.mono ?_
  rintro y w1 ⟨rfl, hb1⟩
  have Hb1 := hide hb1
  clear hb1 HR
  go_wp2
  go_loopw [7, 8, 9] (fun o zt i wr => ∃ (k z : Nat) (m : Int) (out : Ls) (v : Value), v = o ∧ k ≤ N ∧ zt = .int .i64 z ∧ i = .int .i64 k ∧ z ≤ M ∧ out.length ≤ 200000 * k ∧ Hid (okL z m (L.drop k) = true) ∧ Hid (D = doH z (a.drop z) out (L.drop k)) ∧ Hid (OwT wr w.heap.size tS v out) ∧ Hid (Below w.heap.size w wr)) (fun _ _ i _ => N - (intOf i).toNat)
  case atStart => exact ⟨0, 0, 0, [], _, rfl, Nat.zero_le _, rfl, rfl, Nat.zero_le _, Nat.le_refl _, hide Hok.out, hide HD.out, hide (OwT.nil _ _ _), hide Hb1.out⟩
  case round =>
    obtain ⟨k, z, m, out, v, rfl, hk, rfl, rfl, hzM, hol, Hokk, HDk, Hown, Hb⟩ := hrel
    obtain ⟨Av, nv, cv, rfl⟩ := owt_form Hown.out
    by_cases hlt : k < N
    · obtain ⟨b, o, h, A', c', rfl, hke, ⟨c0, _, _, _, c4⟩, hv⟩ := Hk.out.at (Below.refl _ w) (k := k) (by have := HN.out; omega)
      have hsm := Hsm.out h (List.mem_of_getElem? hke)
      have hokk := Hokk.out
      have hD := HDk.out
      rw [drop_cons hke] at hokk hD
      obtain ⟨⟨hr, _, hze⟩, hok'⟩ := okL_cons.1 hokk
      obtain ⟨k1, k2, k3, _⟩ := right_facts hr
      obtain ⟨t, ht⟩ := Int.eq_ofNat_of_zero_le k3
      have hzt : z ≤ t := by omega
      rw [doH_step a out z t h _ ht hzt (by rw [← HM.out]; exact hzM)] at hD
      have Hsg := hide (okF_signs _ _ ((hright_iff h).1 hr).1)
      have Hnh := hide (show ((t + (oldL h.lines).length : Nat) : Int) = h.a + h.an by omega)
      have Hlen := hide (show ∀ r' out', doL (a.drop t) (out ++ (a.drop z).take (t - z)) h.lines = some (r', out') → t ≤ M → M - r'.length = t + (oldL h.lines).length ∧ t + (oldL h.lines).length ≤ M from fun r' out' he htM => by
        obtain ⟨d1, d2⟩ := doL_some _ _ _ _ _ he
        have d3 := congrArg List.length d1
        have := HM.out
        rw [List.length_drop, List.length_append] at d3
        omega)
      have Hc := hide (fun w' (hb' : Below w.heap.size w w') => (⟨cell_keep hb' c0, cell_keep hb' c4⟩ : w'.cell? ⟨b, o + k * 5, none⟩ = some (.int .i64 h.a) ∧ w'.cell? ⟨b, o + k * 5 + 4, none⟩ = some (.slice A' h.lines.length c')))
      have Hln := hide (fun w' (hb' : Below w.heap.size w w') (j : Nat) (hj : j < h.lines.length) => (Lw.Vs.bound hv).text hb' (k := j) hj)
      have Hok2 := hide hok'
      have HD2 := hide hD
      obtain ⟨nh, hnh⟩ : ∃ n, n = h.lines.length := ⟨_, rfl⟩
      have hnl : nh ≤ 100000 := by rw [hnh]; exact hsm.2.2.2.2
      have Hnl := hide hnh
      rw [ht] at Hc
      rw [← hnh] at Hc
      have d0 := (Hc.out _ Hb.out).1
      clear hokk hD hr hze hok' k1 k2 k3 ht hke hsm hv c0 c4 hnh HDk Hokk
      by_cases hta : t ≤ M
      · have HD3 := hide (HD2.out.trans (by rw [if_pos (show t ≤ a.length by rw [← HM.out]; exact hta)]))
        clear HD2
        have hdt : decide (M < t) = false := decide_eq_false (by omega)
        go_wp2
        go_loopw [7, 8] (fun o zt wr => ∃ (y : Nat) (out' : Ls) (v' : Value), v' = o ∧ z ≤ y ∧ y ≤ t ∧ zt = .int .i64 y ∧ out'.length ≤ 200000 * k + y ∧ Hid (out' = out ++ (a.drop z).take (y - z)) ∧ Hid (OwT wr w.heap.size tS v' out') ∧ Hid (Below w.heap.size w wr)) (fun _ zt _ => t - (intOf zt).toNat)
        case atStart => exact ⟨z, out, _, rfl, Nat.le_refl _, hzt, rfl, by omega, hide (by rw [Nat.sub_self, List.take_zero, List.append_nil]), Hown, Hb⟩
        case round =>
          obtain ⟨y, out1, v1, rfl, hzy, hyt, rfl, hol1, Hout, Hown1, Hb1⟩ := hrel
          obtain ⟨Av1, nv1, cv1, rfl⟩ := owt_form Hown1.out
          have d0 := (Hc.out _ Hb1.out).1
          by_cases hly : y < t
          · have dy : decide ((y : Int) < (t : Int)) = true := decide_eq_true (by omega)
            have hyM : y < M := by omega
            obtain ⟨ba, oa, hAa, ck⟩ := Ha.out _ Hb1.out y (by rw [← HM.out]; exact hyM)
            subst hAa
            have Hout2 := hide (show out1 ++ [a.getD y []] = out ++ (a.drop z).take (y + 1 - z) by rw [take_more hzy (by rw [← HM.out]; exact hyM), ← List.append_assoc, ← Hout.out])
            obtain ⟨x, hx⟩ : ∃ x, x = a.getD y [] := ⟨_, rfl⟩
            rw [← hx] at ck Hout2
            clear hx Hout
            go_wp2_with (refine wpList_pushT rfl (.tmp 37) (.tmp 42) rfl w.heap.size w _ out1 x _ rfl rfl rfl Hown1.out (by omega) Hb1.out Hb1.out.size ?_; intro v6 w6 hown6 hb6 _ _)
            exact ⟨⟨y + 1, out1 ++ [x], v6, rfl, by omega, by omega, by go_num, by rw [List.length_append, List.length_singleton]; omega, hide Hout2.out, hide hown6, hide hb6⟩, by simp [intOf]; omega⟩
          · obtain rfl : y = t := by omega
            have HD4 := HD3.out
            have Hlen4 := Hlen.out
            rw [← Hout.out] at HD4 Hlen4
            have HD5 := hide HD4
            have Hlen5 := hide Hlen4
            clear HD4 Hlen4 HD3 Hlen Hout
            have dy : decide ((y : Int) < (y : Int)) = false := decide_eq_false (by omega)
            obtain ⟨R, hR⟩ : ∃ R, R = doL (a.drop y) out1 h.lines := ⟨_, rfl⟩
            rw [← hR] at HD5 Hlen5
            have HR := hide hR
            clear hR
            go_wp2
            go_loopw [7, 8, 10] (fun o zt jt wr => ∃ (j z' : Nat) (out' : Ls) (v' : Value), v' = o ∧ j ≤ nh ∧ zt = .int .i64 z' ∧ jt = .int .i64 j ∧ z' ≤ M ∧ out'.length ≤ 200000 * k + 10000 + j ∧ Hid (R = doL (a.drop z') out' (h.lines.drop j)) ∧ Hid (OwT wr w.heap.size tS v' out') ∧ Hid (Below w.heap.size w wr)) (fun _ _ jt _ => nh - (intOf jt).toNat)
            case atStart => exact ⟨0, y, out1, _, rfl, Nat.zero_le _, rfl, rfl, hta, by omega, hide HR.out, Hown1, Hb1⟩
            case round =>
              obtain ⟨j, z', out2, v2, rfl, hj, rfl, rfl, hzM2, hol2, HRj, Hown2, Hb2⟩ := hrel
              obtain ⟨Av2, nv2, cv2, rfl⟩ := owt_form Hown2.out
              have d4 := (Hc.out _ Hb2.out).2
              by_cases hlj : j < nh
              · have hlj' : j < h.lines.length := by rw [← Hnl.out]; exact hlj
                obtain ⟨bl, ol, hA, ck⟩ := Hln.out _ Hb2.out j hlj'
                subst hA
                have HRx := hide (HRj.out.trans (by rw [lines_at hlj', doL_step, drop_head]))
                have hsx := Hsg.out _ (gmem hlj')
                obtain ⟨x, hx⟩ : ∃ x, x = h.lines.getD j [] := ⟨_, rfl⟩
                rw [← hx] at ck HRx hsx
                have hxne : x ≠ [] := by rintro rfl; revert hsx; decide
                have hsz := Hu.size_of x
                have hx1 : 1 ≤ x.length := List.length_pos_iff.2 hxne
                have hg := Hu.get_at x 0 (by rw [hsz]; exact hx1)
                rw [sg_get] at hg
                have hcut := cut_tail x.tail (sg x)
                have hxs : sg x :: x.tail = x := by
                  cases x with
                  | nil => exact absurd rfl hxne
                  | cons b t => rfl
                rw [hxs] at hcut
                obtain ⟨s, hs⟩ : ∃ s, s = sg x := ⟨_, rfl⟩
                rw [← hs] at HRx hg hsx
                obtain ⟨u, hu⟩ : ∃ u, u = x.tail := ⟨_, rfl⟩
                rw [← hu] at HRx hcut
                clear hx hs hu hxs hxne hlj' d0 HRj
                by_cases h43 : s = 43
                · subst h43
                  have HR' := hide (HRx.out.trans (if_pos rfl))
                  clear HRx hsx
                  go_wp2_with (refine wpList_pushT rfl (.tmp 67) (.tmp 70) rfl w.heap.size w _ out2 u _ rfl rfl rfl Hown2.out (by omega) Hb2.out Hb2.out.size ?_; intro v6 w6 hown6 hb6 _ _)
                  exact ⟨⟨j + 1, z', out2 ++ [u], v6, rfl, by omega, rfl, by go_num, hzM2, by rw [List.length_append, List.length_singleton]; omega, hide HR'.out, hide hown6, hide hb6⟩, by simp [intOf]; omega⟩
                · have e43 : (((s.toNat : Int)) == 43) = false := by
                    rw [beq_eq_false_iff_ne]
                    intro e
                    exact h43 (UInt8.toNat_inj.1 (by simp; omega))
                  have HRx2 := hide (HRx.out.trans (if_neg h43))
                  clear HRx
                  by_cases hzl : z' < M
                  · have dz : decide ((M : Int) ≤ (z' : Int)) = false := decide_eq_false (by omega)
                    obtain ⟨ba, oa, hAa, ca⟩ := Ha.out _ Hb2.out z' (by rw [← HM.out]; exact hzl)
                    subst hAa
                    have hgz := getD_some (a := a) (y := z') (by rw [← HM.out]; exact hzl)
                    obtain ⟨p, hp⟩ : ∃ p, p = a.getD z' [] := ⟨_, rfl⟩
                    rw [← hp] at ca hgz
                    rw [hgz] at HRx2
                    clear hp hgz
                    by_cases hpu : p = u
                    · subst hpu
                      have e2 : (p != p) = false := by rw [txt_ne]; simp
                      have HRx3 := hide (HRx2.out.trans (if_pos rfl))
                      rw [List.tail_drop] at HRx3
                      clear HRx2
                      by_cases h32 : s = 32
                      · subst h32
                        have HR' := hide (HRx3.out.trans (by rw [if_neg (by decide)]))
                        clear HRx3 hsx e43 h43
                        go_wp2_with fail
                        go_quiet (fail)
                        obtain ⟨w5, hw5⟩ : ∃ w5, w5 = wr.drewN nq := ⟨_, rfl⟩
                        have Hown5 := hide (show OwT w5 w.heap.size tS (.slice Av2 nv2 cv2) out2 by rw [hw5]; exact Hown2.out.kept (below_drewN (Below.refl _ _) _))
                        have Hb5 := hide (show Below w.heap.size w w5 by rw [hw5]; exact below_drewN Hb2.out _)
                        have ca5 : w5.cell? ⟨ba, oa + z', none⟩ = some (.string ⟨p.toArray⟩) := by rw [hw5]; exact cell_keep (below_drewN (Below.refl _ _) _) ca
                        rw [← hw5]
                        clear hw5 ca ck d4 Hown2 Hb2
                        go_wp2_with (refine wpList_pushT rfl (.tmp 86) (.tmp 91) rfl w.heap.size w _ out2 p _ rfl rfl rfl Hown5.out (by omega) Hb5.out Hb5.out.size ?_; intro v6 w6 hown6 hb6 _ _)
                        exact ⟨⟨j + 1, z' + 1, out2 ++ [p], v6, rfl, by omega, by go_num, by go_num, by omega, by rw [List.length_append, List.length_singleton]; omega, hide HR'.out, hide hown6, hide hb6⟩, by simp [intOf]; omega⟩
                      · have e32 : (((s.toNat : Int)) == 32) = false := by
                          rw [beq_eq_false_iff_ne]
                          intro e
                          exact h32 (UInt8.toNat_inj.1 (by simp; omega))
                        have h45 : s = 45 := by rcases hsx with h | h | h <;> first | exact h | exact absurd h h32 | exact absurd h h43
                        have HR' := hide (HRx3.out.trans (by rw [if_pos h45]))
                        clear HRx3 hsx h45 h43 h32
                        go_wp2_with fail
                        go_quiet (fail)
                        go_wp2
                        exact ⟨⟨j + 1, z' + 1, out2, _, rfl, by omega, by go_num, by go_num, by omega, by omega, hide HR'.out, hide (Hown2.out.kept (below_drewN (Below.refl _ _) _)), hide (below_drewN Hb2.out _)⟩, by simp [intOf]; omega⟩
                    · have e2 : (p != u) = true := by rw [txt_ne, decide_eq_true_iff]; exact hpu
                      have e3 : (p == u) = false := by rw [beq_eq_false_iff_ne]; exact hpu
                      have HF := hide (show appl a L = ([], 6) by
                        have h1 := HRx2.out.trans (if_neg (by simpa using hpu))
                        rw [Happ.out, HD5.out, h1])
                      clear HRx2 hsx
                      go_wp2_with fail
                      go_quiet (fail)
                      go_wp2
                      go_ret2
                      exact ⟨_, by rw [HF.out]; rfl, by rw [HF.out]; exact OwT.nil _ _ _, below_drewN Hb2.out _⟩
                  · obtain rfl : z' = M := by omega
                    have dz : decide ((z' : Int) ≤ (z' : Int)) = true := decide_eq_true (by omega)
                    have HF := hide (show appl a L = ([], 6) by
                      have h0 : a[z']? = none := by rw [List.getElem?_eq_none_iff, ← HM.out]; exact Nat.le_refl _
                      have h1 := HRx2.out.trans (if_neg (by rw [h0]; simp))
                      rw [Happ.out, HD5.out, h1])
                    clear HRx2 hsx
                    go_wp2
                    go_ret2
                    exact ⟨_, by rw [HF.out]; rfl, by rw [HF.out]; exact OwT.nil _ _ _, Hb2.out⟩
              · obtain rfl : j = nh := by omega
                have hRs : R = some (a.drop z', out2) := by rw [HRj.out, Hnl.out, List.drop_length]; rfl
                obtain ⟨l1, l2⟩ := Hlen5.out _ _ hRs hta
                rw [List.length_drop, ← HM.out] at l1
                have hz2 : z' = y + (oldL h.lines).length := by omega
                have HD6 := hide (show D = doH z' (a.drop z') out2 (L.drop (k + 1)) by rw [HD5.out, hRs, hz2])
                have Hok6 := hide (show okL (z' : Int) (m + (h.bn - h.an)) (L.drop (k + 1)) = true by rw [hz2, Hnh.out]; exact Hok2.out)
                clear hRs l1 l2 hz2 HD5 Hlen5 Hok2 HRj HR d0
                go_wp2
                exact ⟨⟨k + 1, z', _, out2, _, rfl, by omega, rfl, by go_num, hzM2, by omega, Hok6, HD6, Hown2, Hb2⟩, by simp [intOf]; omega⟩
      · have HF := hide (show appl a L = ([], 6) by rw [Happ.out, HD2.out, if_neg (by rw [← HM.out]; exact hta)])
        have hdt : decide (M < t) = true := decide_eq_true (by omega)
        go_wp2
        go_ret2
        exact ⟨_, by rw [HF.out]; rfl, by rw [HF.out]; exact OwT.nil _ _ _, Hb.out⟩
    · obtain rfl : k = N := by omega
      have HDe := HDk.out
      rw [HN.out, List.drop_length] at HDe
      have HF := hide (show appl a L = (out ++ a.drop z, 0) by rw [Happ.out, HDe]; rfl)
      clear HDe HDk Hokk
      go_wp2
      go_loopw [7, 8] (fun o zt wr => ∃ (y : Nat) (out' : Ls) (v' : Value), v' = o ∧ z ≤ y ∧ y ≤ M ∧ zt = .int .i64 y ∧ out'.length ≤ 200000 * k + y ∧ Hid (out' = out ++ (a.drop z).take (y - z)) ∧ Hid (OwT wr w.heap.size tS v' out') ∧ Hid (Below w.heap.size w wr)) (fun _ zt _ => M - (intOf zt).toNat)
      case atStart => exact ⟨z, out, _, rfl, Nat.le_refl _, hzM, rfl, by omega, hide (by rw [Nat.sub_self, List.take_zero, List.append_nil]), Hown, Hb⟩
      case round =>
        obtain ⟨y, out1, v1, rfl, hzy, hyt, rfl, hol1, Hout, Hown1, Hb1⟩ := hrel
        obtain ⟨Av1, nv1, cv1, rfl⟩ := owt_form Hown1.out
        by_cases hly : y < M
        · obtain ⟨ba, oa, hAa, ck⟩ := Ha.out _ Hb1.out y (by rw [← HM.out]; exact hly)
          subst hAa
          have Hout2 := hide (show out1 ++ [a.getD y []] = out ++ (a.drop z).take (y + 1 - z) by rw [take_more hzy (by rw [← HM.out]; exact hly), ← List.append_assoc, ← Hout.out])
          obtain ⟨x, hx⟩ : ∃ x, x = a.getD y [] := ⟨_, rfl⟩
          rw [← hx] at ck Hout2
          clear hx Hout
          go_wp2_with (refine wpList_pushT rfl (.tmp 99) (.tmp 104) rfl w.heap.size w _ out1 x _ rfl rfl rfl Hown1.out (by omega) Hb1.out Hb1.out.size ?_; intro v6 w6 hown6 hb6 _ _)
          exact ⟨⟨y + 1, out1 ++ [x], v6, rfl, by omega, by omega, by go_num, by rw [List.length_append, List.length_singleton]; omega, hide Hout2.out, hide hown6, hide hb6⟩, by simp [intOf]; omega⟩
        · obtain rfl : y = M := by omega
          have HX := hide (show out1 = out ++ a.drop z by rw [Hout.out, List.take_of_length_le (by rw [List.length_drop, ← HM.out]; exact Nat.le_refl _)])
          clear Hout
          go_wp2
          go_ret2
          exact ⟨_, by rw [HF.out]; rfl, by rw [HF.out, ← HX.out]; exact Hown1.out, Hb1.out⟩
end Go.Proofs.Ytfmmececocilhaa.Ap
