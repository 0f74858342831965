/-
  The statement HunkFewer, walked.
-/
import Derived.Test.YtodicgopmcdjpaaHV
namespace Go.Proofs.Ytodicgopmcdjpaa.Hu
open Go Go.RowKit Kt Lw Li Df

set_option maxHeartbeats 600000 in
set_option maxRecDepth 100000 in
theorem fewer_any (a b : Ls) (s t : Nat) (A A' : Option Addr) (c c' : Nat) (P P' : Nat → Prop) (w : World) (hs : Vs w P A c (texts a)) (hs' : Vs w P' A' c' (texts b)) (hsn : s < 256) (htn : t < 256) (hxa : ∀ x ∈ a, x.length ≤ 140737488351232) (hxb : ∀ x ∈ b, x.length ≤ 140737488351232) :
    Calls Try.prog 8 #[.slice A a.length c, .slice A' b.length c', .int .u8 (s : Int), .int .u8 (t : Int)] w fun y w' => y = .returned (.bool true) ∧ Below w.heap.size w w' := by
  have Ha := hide hs.bound
  have Hx := hide hs'.bound
  clear hs hs'
  by_cases ha : a.length ≤ 40
  · have da : decide (40 < (a.length : Int)) = false := by simp; omega
    by_cases hb : b.length ≤ 40
    · have db : decide (40 < (b.length : Int)) = false := by simp; omega
      obtain ⟨r, hr⟩ : ∃ r, r = s % 51 := ⟨_, rfl⟩
      obtain ⟨r2, hr2⟩ : ∃ r2, r2 = t % 51 := ⟨_, rfl⟩
      obtain ⟨r3, hr3⟩ : ∃ r3, r3 = max r r2 := ⟨_, rfl⟩
      have hr1 : r ≤ 1000 := by omega
      have hr31 : r3 ≤ 1000 := by omega
      have hrr : r ≤ r3 := by omega
      have hmod : (s : Int) % 51 = (r : Int) := by omega
      have hmod2 : (t : Int) % 51 = (r2 : Int) := by omega
      have hmx1 : (if (r : Int) < r2 then (r2 : Int) else (r : Int)) = (r3 : Int) := by split <;> omega
      have hmx2 : (if (r2 : Int) < r then (r : Int) else (r2 : Int)) = (r3 : Int) := by split <;> omega
      have hmx3 : (if r < r2 then (r2 : Int) else (r : Int)) = (r3 : Int) := by split <;> omega
      have hmx4 : (if r2 < r then (r : Int) else (r2 : Int)) = (r3 : Int) := by split <;> omega
      obtain ⟨hfi, hfl, hfh⟩ := hs_facts a b r ha hb hxa hxb
      obtain ⟨_, hfl2, hfh2⟩ := hs_facts a b r3 ha hb hxa hxb
      have Hsm := hide (D_small a b (by omega) (by omega))
      have hDr := D_right a b
      obtain ⟨_, hfe, _, _⟩ := mk_start a r (D a b) hDr
      obtain ⟨_, hfe2, _, _⟩ := mk_start a r3 (D a b) hDr
      have hfew := mk_fewer a r r3 hrr (D a b)
      have hno := mk_none a r 0 (D a b)
      have hno2 := mk_none a r3 0 (D a b)
      have HD := hide (fun w1 (h1 : Vs w1 (fun b => b < w1.heap.size) A c (texts a)) (h2 : Vs w1 (fun b => b < w1.heap.size) A' c' (texts b)) => diff_any a b A A' c c' _ _ w1 h1 h2 (by omega) (by omega))
      have HM := hide (fun Al cl w1 (h1 : Vs w1 (fun b => b < w1.heap.size) A c (texts a)) (h2 : Es w1 Al cl (D a b)) => make_yes a r (D a b) A Al c cl _ w1 h1 h2 (by omega) (by have := Hsm.out; omega) hr1 (by have := Hsm.out; omega) hDr (fun x hx => Nat.le_trans (hxa x hx) (by omega)) hfi)
      have HN := hide (fun Al cl w1 (h1 : Vs w1 (fun b => b < w1.heap.size) A c (texts a)) (h2 : Es w1 Al cl (D a b)) => make_yes a r3 (D a b) A Al c cl _ w1 h1 h2 (by omega) (by have := Hsm.out; omega) hr31 (by have := Hsm.out; omega) hDr (fun x hx => Nat.le_trans (hxa x hx) (by omega)) hfi)
      have hsp := size_nn (D a b)
      generalize D a b = L at *
      obtain ⟨HL, hHL⟩ : ∃ HL, HL = mkHs a r 0 L := ⟨_, rfl⟩
      obtain ⟨HL2, hHL2⟩ : ∃ HL, HL = mkHs a r3 0 L := ⟨_, rfl⟩
      rw [← hHL] at hfl hfh hfe hfew hno HM
      rw [← hHL2] at hfl2 hfh2 hfe2 hfew hno2 HN
      obtain ⟨Z, hZ⟩ : ∃ Z, Z = size L := ⟨_, rfl⟩
      have hZ1 : 0 ≤ Z ∧ Z ≤ 200 := by have := Hsm.out; omega
      have Hfe := hide (show size (HL.flatMap hedits) = Z by rw [hfe, hZ])
      have Hfe2 := hide (show size (HL2.flatMap hedits) = Z by rw [hfe2, hZ])
      obtain ⟨m, hm⟩ : ∃ m, m = a.length := ⟨_, rfl⟩
      obtain ⟨n, hn⟩ : ∃ n, n = b.length := ⟨_, rfl⟩
      rw [← hm] at ha da HD HM HN ⊢
      rw [← hn] at hb db HD ⊢
      have HSl := hide (fun Al cl w1 (h2 : Es w1 Al cl L) => size_any L Al cl w1 h2 (by have := Hsm.out; omega) (by omega))
      rw [← hZ] at HSl
      obtain ⟨nl, hnl⟩ : ∃ nl, nl = L.length := ⟨_, rfl⟩
      obtain ⟨M, hM⟩ : ∃ M, M = HL.length := ⟨_, rfl⟩
      obtain ⟨M2, hM2⟩ : ∃ M, M = HL2.length := ⟨_, rfl⟩
      rw [← hM] at hfl hfew hno
      rw [← hM2] at hfl2 hfew hno2
      rw [← hnl] at hno hno2 HM HN HSl
      have hb1 : (((M : Int) == 0) == ((nl : Int) == 0)) = true := by
        rw [beq_iff_eq, Bool.eq_iff_iff, beq_iff_eq, beq_iff_eq]; omega
      have hb2 : (((M2 : Int) == 0) == ((nl : Int) == 0)) = true := by
        rw [beq_iff_eq, Bool.eq_iff_iff, beq_iff_eq, beq_iff_eq]; omega
      have hlew : decide ((M2 : Int) ≤ (M : Int)) = true := decide_eq_true (by omega)
      have hlew2 : decide (M2 ≤ M) = true := decide_eq_true (by omega)
      have hb3 : ((M == 0) == (nl == 0)) = true := by
        rw [beq_iff_eq, Bool.eq_iff_iff, beq_iff_eq, beq_iff_eq]; omega
      have hb4 : ((M2 == 0) == (nl == 0)) = true := by
        rw [beq_iff_eq, Bool.eq_iff_iff, beq_iff_eq, beq_iff_eq]; omega
      have HBB := hide (And.intro hb1 (And.intro hb2 (And.intro hlew (And.intro hlew2 (And.intro hb3 hb4)))))
      have Hfh := hide hfh
      have Hfh2 := hide hfh2
      have HMl := hide hM
      have HMl2 := hide hM2
      have Hnl := hide hnl
      clear hm hn hr hr2 hr3 hHL hHL2 hDr hfi hfh hfh2 hfe hfe2 hxa hxb hno hno2 hb1 hb2 hb3 hb4 hlew hlew2 hfew hM hM2 hnl hsp hrr hZ
      go_enter Try.func8, Try.ntmps8
      go_wp2_with fail
      refine (awake_any w).mono ?_
      rintro y w1 ⟨rfl, hb1⟩
      have Ha1 := hide (vs_keep Ha.out hb1)
      have Hx1 := hide (vs_keep Hx.out hb1)
      have Hb1 := hide hb1
      clear hb1
      go_wp2_with fail
      refine (HD.out w1 Ha1.out Hx1.out).mono ?_
      rintro y w2 ⟨v, rfl, hv, hb2⟩
      obtain ⟨Al, cl, rfl, he⟩ := OwE.es hv
      have Ha2 := hide (vs_keep Ha1.out hb2)
      have He2 := hide he
      have Hb2 := hide (Hb1.out.trans (hb2.mono Hb1.out.size))
      have HM2 := hide (HM.out Al cl w2 Ha2.out he)
      rw [← Hnl.out]
      clear hb2 hv he
      go_wp2_with fail
      refine HM2.out.mono ?_
      rintro y w3 ⟨v, rfl, hv, hb3⟩
      obtain ⟨Ah, ch, rfl, hh⟩ := OwH.hks hv
      have Ha3 := hide (vs_keep Ha2.out hb3)
      have He3 := hide (He2.out.keep hb3)
      have Hh3 := hide hh
      have Hb3 := hide (Hb2.out.trans (hb3.mono Hb2.out.size))
      have HN3 := hide (HN.out Al cl w3 Ha3.out He3.out)
      rw [← HMl.out]
      clear hb3 hv hh HM2 HM HD
      go_wp2_with fail
      refine HN3.out.mono ?_
      rintro y w4 ⟨v, rfl, hv, hb4⟩
      obtain ⟨Ai, ci, rfl, hh⟩ := OwH.hks hv
      have He4 := hide (He3.out.keep hb4)
      have Hh4 := hide (Hh3.out.keep hb4)
      have Hi4 := hide hh
      have Hb4 := hide (Hb3.out.trans (hb4.mono Hb3.out.size))
      rw [← HMl2.out]
      clear hb4 hv hh HN3 HN
      go_wp2
      go_loopw [17, 18] (fun z i wr => ∃ (k : Nat) (q : Int), k ≤ M ∧ i = .int .i64 k ∧ z = .int .i64 q ∧ (0 ≤ q ∧ q ≤ 1000) ∧ q + size ((HL.drop k).flatMap hedits) = Z ∧ Below w4.heap.size w4 wr) (fun _ i _ => M - (intOf i).toNat)
      case atStart => exact ⟨0, 0, Nat.zero_le _, rfl, rfl, by omega, by rw [List.drop_zero, Hfe.out]; omega, Below.refl _ _⟩
      case round =>
        obtain ⟨k, z, hk, rfl, rfl, ⟨hz0, hz1⟩, hpre, hb⟩ := hrel
        have Hb := hide hb
        clear hb
        by_cases hlt : k < M
        · obtain ⟨bb, o, h, A2, c2, rfl, hke, ⟨c0, c1, c2', c3, c4⟩, hvs⟩ := Hh4.out.at Hb.out (k := k) (by have := HMl.out; omega)
          have hhm := List.mem_of_getElem? hke
          obtain ⟨hr, hln, hza, hzb, hxl⟩ := Hfh.out h hhm
          rw [drop_oneH hke, List.flatMap_cons, size_append] at hpre
          have hs1 := size_nn (hedits h)
          have hs2 := size_nn ((HL.drop (k + 1)).flatMap hedits)
          have hel := edits_few h hr
          have HEd := hide (fun w1 (hb1 : Below w4.heap.size w4 w1) => hedits_any h A2 c2 _ w1 (Lw.Vs.below hvs hb1) (by omega) hr (by omega))
          have HSz := hide (fun Ae ce w1 (he : Es w1 Ae ce (hedits h)) => size_any (hedits h) Ae ce w1 he (by omega) (by omega))
          obtain ⟨q, hq⟩ : ∃ q, q = size (hedits h) := ⟨_, rfl⟩
          rw [← hq] at HSz hpre hs1
          have Hpre := hide (show (z + q) + size ((HL.drop (k + 1)).flatMap hedits) = Z ∧ 0 ≤ z + q ∧ z + q ≤ 1000 by omega)
          have hzq : -1000 ≤ z ∧ z ≤ 1000 ∧ -1000 ≤ q ∧ q ≤ 1000 := by omega
          obtain ⟨za, hzae⟩ : ∃ z, z = h.a := ⟨_, rfl⟩
          obtain ⟨zan, hzan⟩ : ∃ z, z = h.an := ⟨_, rfl⟩
          obtain ⟨zb, hzbe⟩ : ∃ z, z = h.b := ⟨_, rfl⟩
          obtain ⟨zbn, hzbn⟩ : ∃ z, z = h.bn := ⟨_, rfl⟩
          obtain ⟨nh, hnh⟩ : ∃ z, z = h.lines.length := ⟨_, rfl⟩
          obtain ⟨ne, hne⟩ : ∃ z, z = (hedits h).length := ⟨_, rfl⟩
          rw [← hzae, ← hzan, ← hzbe, ← hzbn, ← hnh] at HEd
          rw [← hne] at HSz
          rw [← hzae] at c0
          rw [← hzan] at c1
          rw [← hzbe] at c2'
          rw [← hzbn] at c3
          rw [← hnh] at c4
          have Hne := hide hne
          clear hke hhm hr hxl hpre hvs hzae hzan hzbe hzbn hnh hln hzb hza hs1 hs2 hel hq hne hz0 hz1
          go_wp2_with fail
          refine (HEd.out wr Hb.out).mono ?_
          rintro y w6 ⟨u, rfl, hu, hb6⟩
          obtain ⟨Ae, ce, rfl, hee⟩ := OwE.es hu
          rw [← Hne.out]
          have Hb6 := hide (Hb.out.trans (hb6.mono Hb.out.size))
          have HSz2 := hide (HSz.out Ae ce w6 hee)
          clear hb6 hu c0 c1 c2' c3 c4 hee
          go_wp2_with fail
          refine HSz2.out.mono ?_
          rintro y w7 ⟨rfl, hb7⟩
          have hb8 := Hb6.out.trans (hb7.mono Hb6.out.size)
          clear hb7
          go_wp2
          exact ⟨⟨k + 1, z + q, by omega, by go_num, rfl, Hpre.out.2, Hpre.out.1, hb8⟩, by simp [intOf]; omega⟩
        · obtain rfl : k = M := by omega
          rw [HMl.out, List.drop_length] at hpre
          obtain rfl : z = Z := by simp [size] at hpre; omega
          have He5 := hide (He4.out.keep Hb.out)
          have Hi5 := hide (Hi4.out.keep Hb.out)
          have Hb5 := hide (Hb4.out.trans (Hb.out.mono Hb4.out.size))
          clear hpre Hb hz0 hz1
          obtain ⟨wq, rfl⟩ : ∃ wq, wq = wr := ⟨_, rfl⟩
          go_wp2
          go_loopw [19, 20] (fun z' i wr' => ∃ (k' : Nat) (q : Int), k' ≤ M2 ∧ i = .int .i64 k' ∧ z' = .int .i64 q ∧ (0 ≤ q ∧ q ≤ 1000) ∧ q + size ((HL2.drop k').flatMap hedits) = z ∧ Below wq.heap.size wq wr') (fun _ i _ => M2 - (intOf i).toNat)
          case atStart => exact ⟨0, 0, Nat.zero_le _, rfl, rfl, by omega, by rw [List.drop_zero, Hfe2.out]; omega, Below.refl _ _⟩
          case round =>
            obtain ⟨k', z', hk, rfl, rfl, ⟨hz0, hz1⟩, hpre, hb⟩ := hrel
            have Hb := hide hb
            clear hb
            by_cases hlt : k' < M2
            · obtain ⟨bb, o, h, A2, c2, rfl, hke, ⟨c0, c1, c2', c3, c4⟩, hvs⟩ := Hi5.out.at Hb.out (k := k') (by have := HMl2.out; omega)
              have hhm := List.mem_of_getElem? hke
              obtain ⟨hr, hln, hza, hzb, hxl⟩ := Hfh2.out h hhm
              rw [drop_oneH hke, List.flatMap_cons, size_append] at hpre
              have hs1 := size_nn (hedits h)
              have hs2 := size_nn ((HL2.drop (k' + 1)).flatMap hedits)
              have hel := edits_few h hr
              have HEd := hide (fun w1 (hb1 : Below wq.heap.size wq w1) => hedits_any h A2 c2 _ w1 (Lw.Vs.below hvs hb1) (by omega) hr (by omega))
              have HSz := hide (fun Ae ce w1 (he : Es w1 Ae ce (hedits h)) => size_any (hedits h) Ae ce w1 he (by omega) (by omega))
              obtain ⟨q, hq⟩ : ∃ q, q = size (hedits h) := ⟨_, rfl⟩
              rw [← hq] at HSz hpre hs1
              have Hpre := hide (show (z' + q) + size ((HL2.drop (k' + 1)).flatMap hedits) = z ∧ 0 ≤ z' + q ∧ z' + q ≤ 1000 by omega)
              have hzq : -1000 ≤ z' ∧ z' ≤ 1000 ∧ -1000 ≤ q ∧ q ≤ 1000 := by omega
              obtain ⟨za, hzae⟩ : ∃ z, z = h.a := ⟨_, rfl⟩
              obtain ⟨zan, hzan⟩ : ∃ z, z = h.an := ⟨_, rfl⟩
              obtain ⟨zb, hzbe⟩ : ∃ z, z = h.b := ⟨_, rfl⟩
              obtain ⟨zbn, hzbn⟩ : ∃ z, z = h.bn := ⟨_, rfl⟩
              obtain ⟨nh, hnh⟩ : ∃ z, z = h.lines.length := ⟨_, rfl⟩
              obtain ⟨ne, hne⟩ : ∃ z, z = (hedits h).length := ⟨_, rfl⟩
              rw [← hzae, ← hzan, ← hzbe, ← hzbn, ← hnh] at HEd
              rw [← hne] at HSz
              rw [← hzae] at c0
              rw [← hzan] at c1
              rw [← hzbe] at c2'
              rw [← hzbn] at c3
              rw [← hnh] at c4
              have Hne := hide hne
              clear hke hhm hr hxl hpre hvs hzae hzan hzbe hzbn hnh hln hzb hza hs1 hs2 hel hq hne hz0 hz1
              go_wp2_with fail
              refine (HEd.out wr Hb.out).mono ?_
              rintro y w6 ⟨u, rfl, hu, hb6⟩
              obtain ⟨Ae, ce, rfl, hee⟩ := OwE.es hu
              rw [← Hne.out]
              have Hb6 := hide (Hb.out.trans (hb6.mono Hb.out.size))
              have HSz2 := hide (HSz.out Ae ce w6 hee)
              clear hb6 hu c0 c1 c2' c3 c4 hee
              go_wp2_with fail
              refine HSz2.out.mono ?_
              rintro y w7 ⟨rfl, hb7⟩
              have hb8 := Hb6.out.trans (hb7.mono Hb6.out.size)
              clear hb7
              go_wp2
              exact ⟨⟨k' + 1, z' + q, by omega, by go_num, rfl, Hpre.out.2, Hpre.out.1, hb8⟩, by simp [intOf]; omega⟩
            · obtain rfl : k' = M2 := by omega
              rw [HMl2.out, List.drop_length] at hpre
              obtain rfl : z' = z := by simp [size] at hpre; omega
              have HSl2 := hide (HSl.out Al cl wr (He5.out.keep Hb.out))
              have Hb6 := hide (Hb5.out.trans (Hb.out.mono Hb5.out.size))
              obtain ⟨x1, x2, x3, x4, x5, x6⟩ := HBB.out
              clear hpre Hb hz0 hz1
              go_wp2_with fail
              refine HSl2.out.mono ?_
              rintro y w8 ⟨rfl, hb8⟩
              have hb9 := Hb6.out.trans (hb8.mono Hb6.out.size)
              clear hb8
              go_wp2
              go_ret
              exact ⟨rfl, hb9⟩
    · have db : decide (40 < (b.length : Int)) = true := by simp; omega
      obtain ⟨n, hn⟩ : ∃ n, n = b.length := ⟨_, rfl⟩
      rw [← hn] at db ⊢
      obtain ⟨m, hm⟩ : ∃ m, m = a.length := ⟨_, rfl⟩
      rw [← hm] at da ⊢
      clear hn hm ha hb
      go_enter Try.func8, Try.ntmps8
      go_wp2_with fail
      refine (awake_any w).mono ?_
      rintro y w1 ⟨rfl, hb1⟩
      go_wp2
      go_ret
      exact ⟨rfl, hb1⟩
  · have da : decide (40 < (a.length : Int)) = true := by simp; omega
    obtain ⟨m, hm⟩ : ∃ m, m = a.length := ⟨_, rfl⟩
    rw [← hm] at da ⊢
    clear hm ha
    go_enter Try.func8, Try.ntmps8
    go_wp2_with fail
    refine (awake_any w).mono ?_
    rintro y w1 ⟨rfl, hb1⟩
    go_wp2
    go_ret
    exact ⟨rfl, hb1⟩
end Go.Proofs.Ytodicgopmcdjpaa.Hu
