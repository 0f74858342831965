/-
  The reference's Play.
-/
import Derived.Test.YtcilenppjpnaoaaFC
import Derived.Test.YtcilenppjpnaoaaEQ
import Derived.Test.YtcilenppjpnaoaaEV
namespace Go.Proofs.Ytcilenppjpnaoaa.Df
open Go Go.RowKit Kt Lw Li

set_option maxHeartbeats 4000000 in
set_option maxRecDepth 100000 in
theorem refPlay_yes (a : Ls) (L : List Ed) (A A' : Option Addr) (c c' : Nat) (P : Nat → Prop) (w : World) (hs : Vs w P A c (texts a)) (hs' : Es w A' c' L) (hn : a.length ≤ 1000) (hl : L.length ≤ 1000)
    (hp : (play a 0 L).length ≤ 1000000) (hr : right a.length (-1) L = true) :
    Calls Try.prog 22 #[.slice A a.length c, .slice A' L.length c'] w fun y w' => ∃ v, y = .returned (.tuple #[v, .bool true]) ∧ OwT w' w.heap.size tS v (play a 0 L) ∧ Below w.heap.size w w' := by
  have Hs := hide hs.bound
  have HR1 := hide (fun w1 (hb : Below w.heap.size w w1) => refRight_any a.length L A' c' w1 (hs'.keep hb) (by omega) (by omega) (by omega))
  have Hs' := hide hs'
  have Hsp := hide (Sp.first hr)
  obtain ⟨N, hN⟩ : ∃ N, N = L.length := ⟨_, rfl⟩
  rw [← hN] at hl HR1 ⊢
  have HN := hide hN
  have Hp := hide hp
  obtain ⟨n, hna⟩ : ∃ n, n = a.length := ⟨_, rfl⟩
  rw [← hna] at hn HR1 ⊢
  rw [← hna] at hr
  have Hr := hide hr
  have HA := hide hna
  clear hs hs' hN hp hr hna
  go_enter Try.func22, Try.ntmps22
  go_wp2_with fail
  refine (HR1.out _ (Below.refl _ _)).mono ?_
  rintro y w1 ⟨rfl, hb1⟩
  rw [Hr.out]
  have Hb1 := hide hb1
  clear hb1
  go_wp2
  go_loopw [7, 8, 9] (fun v nv vi wr => ∃ (i k nx : Nat) (last : Int) (pre : Ls) (v0 : Value), v0 = v ∧ vi = .int .i64 i ∧ nv = .int .i64 nx ∧ i ≤ n + 1 ∧ Sp a L i k nx last pre ∧ OwT wr w.heap.size tS v0 pre ∧ Below w.heap.size w wr) (fun _ _ vi _ => n + 1 - (intOf vi).toNat)
  case atStart => exact ⟨0, 0, 0, -1, [], _, rfl, rfl, rfl, by omega, Hsp.out, OwT.nil _ _ _, Hb1.out⟩
  case round =>
    obtain ⟨i, ci, nx, last, pre, v, rfl, rfl, rfl, hi, hsp, hown, hb⟩ := hrel
    have Hb := hide hb
    have Hown := hide hown
    have Hsp := hide hsp
    clear hb hown hsp
    by_cases hlt : i ≤ n
    · have hnx : nx ≤ n := by have := Hsp.out.nle; have := HA.out; omega
      by_cases hhit : ∃ e, L[ci]? = some e ∧ e.pos = i
      · obtain ⟨e, hec, hep⟩ := hhit
        obtain ⟨d, hed, hid, hsp2⟩ := Hsp.out.hit hec hep
        have Hsp2 := hide hsp2
        have Hec := hide hec
        have Hpl := hide (show (pre ++ e.ins).length ≤ 1000000 by
          have h1 := hsp2.small
          rw [List.length_append] at h1
          have := Hp.out
          omega)
        have Hed := hide hed
        have Hep := hide hep
        have hid2 : i + d ≤ n := by have := HA.out; omega
        clear hec hep hed hid hsp2
        go_wp2
        go_loopw [7, 8, 10] (fun v nv vk wr => ∃ (k nx' : Nat) (pre' : Ls) (v0 : Value), v0 = v ∧ vk = .int .i64 k ∧ nv = .int .i64 nx' ∧ k ≤ N ∧ ((k ≤ ci ∧ pre' = pre ∧ nx' = nx) ∨ (ci < k ∧ pre' = pre ++ e.ins ∧ nx' = i + d)) ∧ OwT wr w.heap.size tS v0 pre' ∧ Below w.heap.size w wr) (fun _ _ vk _ => N - (intOf vk).toNat)
        case atStart => exact ⟨0, nx, pre, _, rfl, rfl, rfl, Nat.zero_le _, .inl ⟨Nat.zero_le _, rfl, rfl⟩, Hown.out, Hb.out⟩
        case round =>
          obtain ⟨k, nx', pre', v', rfl, rfl, rfl, hk, hst, hown, hb⟩ := hrel
          have Hb2 := hide hb
          have Hown2 := hide hown
          have Hst := hide hst
          clear hb hown hst
          by_cases hkn : k < N
          · obtain ⟨b, o, e', Ae, ce, hA0, hke, ⟨c0, c1, c2⟩, hv⟩ := Hs'.out.at Hb2.out (k := k) (by have := HN.out; omega)
            subst hA0
            by_cases hkc : k = ci
            · have hee : e' = e := by
                rw [hkc, Hec.out] at hke
                injection hke with hke
                exact hke.symm
              subst hee
              obtain ⟨hpre, hnx'⟩ : pre' = pre ∧ nx' = nx := by
                rcases Hst.out with ⟨_, h1, h2⟩ | ⟨h1, _⟩
                · exact ⟨h1, h2⟩
                · omega
              subst hpre hnx'
              have Hv := hide hv
              have Hkc := hide hkc
              obtain ⟨I, hI⟩ : ∃ I, I = e'.ins := ⟨_, rfl⟩
              rw [← hI] at Hpl Hv c2
              have HI := hide hI
              rw [Hep.out] at c0
              rw [Hed.out] at c1
              clear hke hv hkc hI Hst
              go_wp2_with (refine wpList_catT rfl (.tmp 36) (.tmp 41) 22 rfl Try.underlying22 infoText w.heap.size w _ pre' I _ Ae _ rfl rfl Hown2.out (Lw.Vs.below Hv.out Hb2.out) (by have := Hpl.out; rw [List.length_append] at this; omega) Hb2.out Hb2.out.size ?_; intro v3 w3 hown3 hb3 _; obtain ⟨b', o', e'', Ae', ce', hA0, hke2, ⟨f0, f1, f2⟩, _⟩ := Hs'.out.at hb3 (k := k) (by have := HN.out; omega); rw [Hkc.out, Hec.out] at hke2; injection hke2 with hke2; subst hke2; injection hA0 with hA0; injection hA0 with hA1 hA2; subst hA1 hA2; rw [Hed.out] at f1; have Hown3 := hide hown3; have Hb3 := hide hb3; clear hown3 hb3 c0 c1 c2 f0 f2)
              exact ⟨⟨k + 1, i + d, pre' ++ I, _, rfl, by go_num, by go_num, by omega, .inr ⟨by have := Hkc.out; omega, by rw [HI.out], rfl⟩, Hown3.out, Hb3.out⟩, by simp [intOf]; omega⟩
            · have dq : (e'.pos == (i : Int)) = false := by rw [beq_eq_false_iff_ne]; exact Hsp.out.other hke hkc
              have Hst2 := hide (show (k + 1 ≤ ci ∧ pre' = pre ∧ nx' = nx) ∨ (ci < k + 1 ∧ pre' = pre ++ e.ins ∧ nx' = i + d) by
                rcases Hst.out with ⟨h0, h1, h2⟩ | ⟨h0, h1, h2⟩
                · exact .inl ⟨by omega, h1, h2⟩
                · exact .inr ⟨by omega, h1, h2⟩)
              clear hke hv hkc
              go_wp2
              exact ⟨⟨k + 1, nx', pre', _, rfl, by go_num, rfl, by omega, Hst2.out, Hown2.out, Hb2.out⟩, by simp [intOf]; omega⟩
          · obtain rfl : N = k := by omega
            have hcN : ci < N := by have := (List.getElem?_eq_some_iff.1 Hec.out).1; have := HN.out; omega
            obtain ⟨hpre, hnx'⟩ : pre' = pre ++ e.ins ∧ nx' = i + d := by
              rcases Hst.out with ⟨h1, _⟩ | ⟨_, h1, h2⟩
              · omega
              · exact ⟨h1, h2⟩
            obtain ⟨pr, hpr⟩ : ∃ pr, pr = pre ++ e.ins := ⟨_, rfl⟩
            obtain ⟨nn, hnn⟩ : ∃ nn, nn = i + d := ⟨_, rfl⟩
            rw [← hpr] at hpre Hsp2 Hpl
            rw [← hnn] at hnx' Hsp2
            obtain rfl := hpre
            obtain rfl := hnx'
            have hnn2 : nx' ≤ n := by omega
            clear Hst hpr hnn
            by_cases hn1 : nx' ≤ i
            · have dn : decide (nx' ≤ i) = true := decide_eq_true hn1
              by_cases hn2 : i < n
              · have di : decide (i < n) = true := decide_eq_true hn2
                obtain ⟨ba, oa, hAa, ca⟩ := Hs.out.text Hb2.out (k := i) (by have := HA.out; omega)
                subst hAa
                have Hst3 := hide (show stays a i (nx') = [a.getD i []] from if_pos ⟨hn1, by have := HA.out; omega⟩)
                rw [Hst3.out] at Hsp2
                obtain ⟨X, hX⟩ : ∃ X, X = a.getD i [] := ⟨_, rfl⟩
                rw [← hX] at ca Hsp2
                clear hX Hst3 hn1
                go_wp2_with (refine wpList_pushT rfl (.tmp 59) (.tmp 64) rfl w.heap.size w _ (pre') X _ rfl rfl rfl Hown2.out (by have := Hpl.out; omega) Hb2.out Hb2.out.size ?_; intro v4 w4 hown4 hb4 _ _; have Hown4 := hide hown4; have Hb4 := hide hb4; clear hown4 hb4)
                exact ⟨⟨i + 1, ci + 1, nx', _, _, _, rfl, by go_num, rfl, by omega, Hsp2.out, Hown4.out, Hb4.out⟩, by simp [intOf]; omega⟩
              · have di : decide (i < n) = false := decide_eq_false hn2
                have Hst3 := hide (show stays a i (nx') = [] from if_neg (by have := HA.out; omega))
                rw [Hst3.out, List.append_nil] at Hsp2
                clear Hst3 hn1
                go_wp2
                exact ⟨⟨i + 1, ci + 1, nx', _, _, _, rfl, by go_num, rfl, by omega, Hsp2.out, Hown2.out, Hb2.out⟩, by simp [intOf]; omega⟩
            · have dn : decide (nx' ≤ i) = false := decide_eq_false hn1
              have Hst3 := hide (show stays a i (nx') = [] from if_neg (by omega))
              rw [Hst3.out, List.append_nil] at Hsp2
              clear Hst3 hn1
              go_wp2
              exact ⟨⟨i + 1, ci + 1, nx', _, _, _, rfl, by go_num, rfl, by omega, Hsp2.out, Hown2.out, Hb2.out⟩, by simp [intOf]; omega⟩
      · have Hsp2 := hide (Hsp.out.no (by have := HA.out; omega) (fun e h1 h2 => hhit ⟨e, h1, h2⟩))
        have Hno := hide (show ∀ (k : Nat) (e : Ed), L[k]? = some e → e.pos ≠ (i : Int) from fun k e h => by
          by_cases hk : k = ci
          · exact fun h2 => hhit ⟨e, by rw [← hk]; exact h, h2⟩
          · exact Hsp.out.other h hk)
        clear hhit
        go_wp2
        go_loopw [7, 8, 10] (fun v nv vk wr => ∃ (k : Nat) (v0 : Value), v0 = v ∧ vk = .int .i64 k ∧ nv = .int .i64 nx ∧ k ≤ N ∧ OwT wr w.heap.size tS v0 pre ∧ Below w.heap.size w wr) (fun _ _ vk _ => N - (intOf vk).toNat)
        case atStart => exact ⟨0, _, rfl, rfl, rfl, Nat.zero_le _, Hown.out, Hb.out⟩
        case round =>
          obtain ⟨k, v', rfl, rfl, rfl, hk, hown, hb⟩ := hrel
          have Hb2 := hide hb
          have Hown2 := hide hown
          clear hb hown
          by_cases hkn : k < N
          · obtain ⟨b, o, e', Ae, ce, hA0, hke, ⟨c0, c1, c2⟩, hv⟩ := Hs'.out.at Hb2.out (k := k) (by have := HN.out; omega)
            subst hA0
            have dq : (e'.pos == (i : Int)) = false := by rw [beq_eq_false_iff_ne]; exact Hno.out k e' hke
            clear hke hv
            go_wp2
            exact ⟨⟨k + 1, _, rfl, by go_num, rfl, by omega, Hown2.out, Hb2.out⟩, by simp [intOf]; omega⟩
          · obtain rfl : N = k := by omega
            have Hpl := hide (show pre.length ≤ 1000000 by
              have h1 := Hsp.out.small
              have := Hp.out
              omega)
            by_cases hn1 : nx ≤ i
            · have dn : decide (nx ≤ i) = true := decide_eq_true hn1
              by_cases hn2 : i < n
              · have di : decide (i < n) = true := decide_eq_true hn2
                obtain ⟨ba, oa, hAa, ca⟩ := Hs.out.text Hb2.out (k := i) (by have := HA.out; omega)
                subst hAa
                have Hst3 := hide (show stays a i (nx) = [a.getD i []] from if_pos ⟨hn1, by have := HA.out; omega⟩)
                rw [Hst3.out] at Hsp2
                obtain ⟨X, hX⟩ : ∃ X, X = a.getD i [] := ⟨_, rfl⟩
                rw [← hX] at ca Hsp2
                clear hX Hst3 hn1
                go_wp2_with (refine wpList_pushT rfl (.tmp 59) (.tmp 64) rfl w.heap.size w _ (pre) X _ rfl rfl rfl Hown2.out (by have := Hpl.out; omega) Hb2.out Hb2.out.size ?_; intro v4 w4 hown4 hb4 _ _; have Hown4 := hide hown4; have Hb4 := hide hb4; clear hown4 hb4)
                exact ⟨⟨i + 1, ci, nx, _, _, _, rfl, by go_num, rfl, by omega, Hsp2.out, Hown4.out, Hb4.out⟩, by simp [intOf]; omega⟩
              · have di : decide (i < n) = false := decide_eq_false hn2
                have Hst3 := hide (show stays a i (nx) = [] from if_neg (by have := HA.out; omega))
                rw [Hst3.out, List.append_nil] at Hsp2
                clear Hst3 hn1
                go_wp2
                exact ⟨⟨i + 1, ci, nx, _, _, _, rfl, by go_num, rfl, by omega, Hsp2.out, Hown2.out, Hb2.out⟩, by simp [intOf]; omega⟩
            · have dn : decide (nx ≤ i) = false := decide_eq_false hn1
              have Hst3 := hide (show stays a i (nx) = [] from if_neg (by omega))
              rw [Hst3.out, List.append_nil] at Hsp2
              clear Hst3 hn1
              go_wp2
              exact ⟨⟨i + 1, ci, nx, _, _, _, rfl, by go_num, rfl, by omega, Hsp2.out, Hown2.out, Hb2.out⟩, by simp [intOf]; omega⟩
    · obtain rfl : i = n + 1 := by omega
      have Hfin := hide (Hsp.out.done (by have := HA.out; omega))
      go_wp2
      go_ret2
      exact ⟨_, rfl, by rw [← Hfin.out]; exact Hown.out, Hb.out⟩
end Go.Proofs.Ytcilenppjpnaoaa.Df
