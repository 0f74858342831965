/-
  The statement HunkBack, walked.
-/
import Derived.Test.YtodicgopmcdjpaaHT
import Derived.Test.YtodicgopmcdjpaaHR
namespace Go.Proofs.Ytodicgopmcdjpaa.Hu
open Go Go.RowKit Kt Lw Li Df

theorem drop_oneH {ps : List Hk} {k : Nat} {p : Hk} (h : ps[k]? = some p) : ps.drop k = p :: ps.drop (k + 1) := by
  have h1 := (List.getElem?_eq_some_iff.1 h).1
  rw [List.drop_eq_getElem_cons h1]
  rw [List.getElem?_eq_getElem h1] at h
  injection h with h
  rw [h]
set_option maxHeartbeats 2000000 in
set_option maxRecDepth 100000 in
theorem back_any (a b : Ls) (s : Nat) (A A' : Option Addr) (c c' : Nat) (P P' : Nat → Prop) (w : World) (hs : Vs w P A c (texts a)) (hs' : Vs w P' A' c' (texts b)) (hsn : s < 256) (hxa : ∀ x ∈ a, x.length ≤ 140737488351232) (hxb : ∀ x ∈ b, x.length ≤ 140737488351232) :
    Calls Try.prog 7 #[.slice A a.length c, .slice A' b.length c', .int .u8 (s : Int)] w fun y w' => y = .returned (.bool true) ∧ Below w.heap.size w w' := by
  have Ha := hide hs.bound
  have Hx := hide hs'.bound
  clear hs hs'
  by_cases ha : a.length ≤ 40
  · have da : decide (40 < (a.length : Int)) = false := by simp; omega
    by_cases hb : b.length ≤ 40
    · have db : decide (40 < (b.length : Int)) = false := by simp; omega
      obtain ⟨r, hr⟩ : ∃ r, r = s % 51 := ⟨_, rfl⟩
      have hr1 : r ≤ 1000 := by omega
      have hmod : (s : Int) % 51 = (r : Int) := by omega
      obtain ⟨hfi, hfl, hfh⟩ := hs_facts a b r ha hb hxa hxb
      have Hsm := hide (D_small a b (by omega) (by omega))
      have hDr := D_right a b
      obtain ⟨hplay, hright2, hsize2⟩ := back_facts a b
      obtain ⟨_, _, hft, _⟩ := mk_start a r (D a b) hDr
      have HD := hide (fun w1 (h1 : Vs w1 (fun b => b < w1.heap.size) A c (texts a)) (h2 : Vs w1 (fun b => b < w1.heap.size) A' c' (texts b)) => diff_any a b A A' c c' _ _ w1 h1 h2 (by omega) (by omega))
      have HM := hide (fun Al cl w1 (h1 : Vs w1 (fun b => b < w1.heap.size) A c (texts a)) (h2 : Es w1 Al cl (D a b)) => make_yes a r (D a b) A Al c cl _ w1 h1 h2 (by omega) (by have := Hsm.out; omega) hr1 (by have := Hsm.out; omega) hDr (fun x hx => Nat.le_trans (hxa x hx) (by omega)) hfi)
      have hDp := D_play a b
      have HTn := hide (fun Al cl w1 (h1 : Vs w1 (fun b => b < w1.heap.size) A c (texts a)) (h2 : Es w1 Al cl (D a b)) => turn_yes a (D a b) A Al c cl _ w1 h1 h2 (by omega) (by have := Hsm.out; omega) (by rw [hDp]; omega) hDr)
      have hTs : size (turn a 0 (D a b)) ≤ 200 ∧ (turn a 0 (D a b)).length ≤ 200 := by
        have := Hsm.out
        rw [turn_len]
        omega
      have HTs := hide hTs
      have HPl := hide (fun Am cm w1 (h1 : Vs w1 (fun b => b < w1.heap.size) A' c' (texts b)) (h2 : Es w1 Am cm (turn a 0 (D a b))) => play_yes b (turn a 0 (D a b)) A' Am c' cm _ w1 h1 h2 (by omega) (by omega) (by rw [hplay]; omega) hright2)
      rw [hplay] at HPl
      have HI := hide (ins_size' (turn a 0 (D a b)))
      generalize D a b = L at *
      obtain ⟨TU, hTU⟩ : ∃ TU, TU = turn a 0 L := ⟨_, rfl⟩
      obtain ⟨HL, hHL⟩ : ∃ HL, HL = mkHs a r 0 L := ⟨_, rfl⟩
      rw [← hHL] at hfl hfh hft HM
      rw [← hTU] at hft HTn HPl HI HTs hTs
      have HTx := hide (fun Av cv w1 (h1 : Vs w1 (fun b => b < w1.heap.size) Av cv (texts a)) (h2 : Vs w1 (fun b => b < w1.heap.size) A c (texts a)) => texts_any a a Av A cv c _ _ w1 h1 h2 (by omega))
      rw [show decide (a = a) = true from decide_eq_true rfl] at HTx
      obtain ⟨nt, hnt⟩ : ∃ nt, nt = TU.length := ⟨_, rfl⟩
      obtain ⟨m, hm⟩ : ∃ m, m = a.length := ⟨_, rfl⟩
      obtain ⟨n, hn⟩ : ∃ n, n = b.length := ⟨_, rfl⟩
      rw [← hm] at ha da HD HM HTn HTx ⊢
      rw [← hn] at hb db HD HPl ⊢
      rw [← hnt] at HPl
      have Hfh := hide hfh
      have Hft := hide hft
      have Hfl := hide hfl
      have Hm := hide hm
      have Hnt := hide hnt
      clear hm hn hr hHL hDr hfi hfh hft hxa hxb hfl hplay hright2 hsize2 hTs hTU hDp hnt
      go_enter Try.func7, Try.ntmps7
      go_wp2_with fail
      refine (awake_any w).mono ?_
      rintro y w1 ⟨rfl, hb1⟩
      have Ha1 := hide (vs_keep Ha.out hb1)
      have Hx1 := hide (vs_keep Hx.out hb1)
      have Hb1 := hide hb1
      clear hb1
      go_wp2_with fail
      refine (HD.out w1 Ha1.out Hx1.out).mono ?_
      rintro y w2 ⟨v, rfl, hv, hb2⟩
      obtain ⟨Al, cl, rfl, he⟩ := OwE.es hv
      have Ha2 := hide (vs_keep Ha1.out hb2)
      have Hx2 := hide (vs_keep Hx1.out hb2)
      have He2 := hide he
      have Hb2 := hide (Hb1.out.trans (hb2.mono Hb1.out.size))
      have HM2 := hide (HM.out Al cl w2 Ha2.out he)
      obtain ⟨nl, hnl⟩ : ∃ nl, nl = L.length := ⟨_, rfl⟩
      rw [← hnl] at HM2 ⊢
      have Hnl := hide hnl
      clear hb2 hv he hnl
      go_wp2_with fail
      refine HM2.out.mono ?_
      rintro y w3 ⟨v, rfl, hv, hb3⟩
      obtain ⟨Ah, ch, rfl, hh⟩ := OwH.hks hv
      have He3 := hide (He2.out.keep hb3)
      have Ha3 := hide (vs_keep Ha2.out hb3)
      have Hx3 := hide (vs_keep Hx2.out hb3)
      have Hh3 := hide hh
      have Hb3 := hide (Hb2.out.trans (hb3.mono Hb2.out.size))
      obtain ⟨M, hM⟩ : ∃ M, M = HL.length := ⟨_, rfl⟩
      rw [← hM] at Hfl ⊢
      have HMl := hide hM
      have hM200 : M ≤ 200 := Hfl.out
      clear hb3 hv hh hM HM2 HM HD
      go_wp2
      go_loopw [11, 12] (fun v i wr => ∃ (k : Nat) (T : List Ed) (v0 : Value), v0 = v ∧ k ≤ M ∧ i = .int .i64 k ∧ T ++ (HL.drop k).flatMap (fun h => hedits (hturn h)) = TU ∧ OwE wr w3.heap.size v0 T ∧ Below w3.heap.size w3 wr) (fun _ i _ => M - (intOf i).toNat)
      case atStart => exact ⟨0, [], _, rfl, Nat.zero_le _, rfl, Hft.out, OwE.nil _ _, Below.refl _ _⟩
      case round =>
        obtain ⟨k, T, v, rfl, hk, rfl, hpre, hown, hb⟩ := hrel
        have Hb := hide hb
        have Hown := hide hown
        clear hb hown
        by_cases hlt : k < M
        · obtain ⟨bb, o, h, A2, c2, rfl, hke, ⟨c0, c1, c2', c3, c4⟩, hvs⟩ := Hh3.out.at Hb.out (k := k) (by have := HMl.out; omega)
          have hhm := List.mem_of_getElem? hke
          obtain ⟨hr, hln, hza, hzb, hxl⟩ := Hfh.out h hhm
          rw [drop_oneH hke] at hpre
          have Hpre := hide (show (T ++ hedits (hturn h)) ++ (HL.drop (k + 1)).flatMap (fun h => hedits (hturn h)) = TU by rw [← hpre, List.flatMap_cons, List.append_assoc])
          have hTl : T.length + (hedits (hturn h)).length ≤ 400 := by
            have h1 := congrArg List.length Hpre.out
            rw [List.length_append, List.length_append] at h1
            have := HTs.out
            omega
          have HTl := hide hTl
          obtain ⟨ps, _, _, _, _, hrT, _, _⟩ := hparts hr
          have hTn := turn_lines h hr
          have HTu := hide (fun w1 (hb1 : Below w3.heap.size w3 w1) => hturn_any h A2 c2 _ w1 (Lw.Vs.below hvs hb1) (by omega) hr (fun x hx => Nat.le_trans (hxl x hx) (by omega)))
          have HEd := hide (fun At ct w1 (hv : Vs w1 (fun b => b < w1.heap.size) At ct (texts (hturn h).lines)) => hedits_any (hturn h) At ct _ w1 hv (by omega) hrT (by simp only [hturn]; omega))
          have e0 : (hturn h).a = h.b := rfl
          have e1 : (hturn h).an = h.bn := rfl
          have e2 : (hturn h).b = h.a := rfl
          have e3 : (hturn h).bn = h.an := rfl
          obtain ⟨za, hzae⟩ : ∃ z, z = h.a := ⟨_, rfl⟩
          obtain ⟨zan, hzan⟩ : ∃ z, z = h.an := ⟨_, rfl⟩
          obtain ⟨zb, hzbe⟩ : ∃ z, z = h.b := ⟨_, rfl⟩
          obtain ⟨zbn, hzbn⟩ : ∃ z, z = h.bn := ⟨_, rfl⟩
          obtain ⟨nh, hnh⟩ : ∃ z, z = h.lines.length := ⟨_, rfl⟩
          obtain ⟨TLn, hTLn⟩ : ∃ z, z = (hturn h).lines := ⟨_, rfl⟩
          rw [e0, e1, e2, e3] at HTu HEd
          rw [← hTLn] at HTu HEd
          rw [← hzae, ← hzan, ← hzbe, ← hzbn, ← hnh] at HTu
          rw [← hzae, ← hzan, ← hzbe, ← hzbn, hTLn, hTn, ← hnh, ← hTLn] at HEd
          have HtL := hide (show TLn.length = nh by rw [hTLn, hTn, hnh])
          rw [← hzae] at c0
          rw [← hzan] at c1
          rw [← hzbe] at c2'
          rw [← hzbn] at c3
          rw [← hnh] at c4
          clear hke hhm hr hxl hpre hTl hvs hzae hzan hzbe hzbn hnh hln hzb hza hrT hTn hTLn e0 e1 e2 e3
          go_wp2_with fail
          refine (HTu.out wr Hb.out).mono ?_
          rintro y w4 ⟨v4, rfl, hv4, hb4⟩
          obtain ⟨At, ct, rfl, hvt⟩ := OwT.vs hv4
          rw [HtL.out]
          have Hown4 := hide (Hown.out.keep hb4)
          have Hb4 := hide (Hb.out.trans (hb4.mono Hb.out.size))
          have Hvt := hide (Lw.Vs.bound hvt)
          clear hb4 hv4 hvt c0 c1 c2' c3 c4
          go_wp2_with fail
          refine (HEd.out At ct w4 Hvt.out).mono ?_
          rintro y w6 ⟨u, rfl, hu, hb6⟩
          have Hown6 := hide (Hown4.out.keep hb6)
          have Hb6 := hide (Hb4.out.trans (hb6.mono Hb4.out.size))
          have Hu6 := hide (hu.base (show w3.heap.size ≤ w4.heap.size from Hb4.out.size))
          clear hb6 hu
          go_wp2_with (refine wpList_catE rfl (.tmp 45) (.tmp 51) rfl w3.heap.size w3 v u T (hedits (hturn h)) rfl rfl Hown6.out Hu6.out (by have := HTl.out; omega) Hb6.out Hb6.out.size ?_; intro v7 w7 hown7 hb7 _)
          exact ⟨⟨k + 1, _, _, rfl, by omega, by go_num, Hpre.out, hown7, hb7⟩, by simp [intOf]; omega⟩
        · obtain rfl : k = M := by omega
          rw [HMl.out, List.drop_length] at hpre
          have hTL : T = TU := by rw [← hpre]; simp
          subst hTL
          obtain ⟨Am, cm, rfl, hem⟩ := OwE.es Hown.out
          rw [← Hnt.out]
          have Hx4 := hide (vs_keep Hx3.out (hb := Hb.out))
          have Ha4 := hide (vs_keep Ha3.out (hb := Hb.out))
          have He4 := hide (He3.out.keep Hb.out)
          have Hem := hide hem
          have Hb4 := hide (Hb3.out.trans (Hb.out.mono Hb3.out.size))
          clear hpre hem
          go_wp2_with fail
          refine (HPl.out Am cm wr Hx4.out Hem.out).mono ?_
          rintro y w5 ⟨v5, rfl, hv5, hb5⟩
          obtain ⟨Ap, cp, rfl, hvp⟩ := OwT.vs hv5
          rw [← Hm.out]
          have Ha5 := hide (vs_keep Ha4.out hb5)
          have He5 := hide (He4.out.keep hb5)
          have Hem5 := hide (Hem.out.keep hb5)
          have Hvp := hide (Lw.Vs.bound hvp)
          have Hb5 := hide (Hb4.out.trans (hb5.mono Hb4.out.size))
          clear hb5 hv5 hvp
          go_wp2_with fail
          refine (HTx.out Ap cp w5 Hvp.out Ha5.out).mono ?_
          rintro y w6 ⟨rfl, hb6⟩
          have Ha6 := hide (vs_keep Ha5.out hb6)
          have He6 := hide (He5.out.keep hb6)
          have Hem6 := hide (Hem5.out.keep hb6)
          have Hb6 := hide (Hb5.out.trans (hb6.mono Hb5.out.size))
          have HTn6 := hide (HTn.out Al cl w6 Ha6.out He6.out)
          rw [← Hnl.out] at HTn6
          clear hb6
          go_wp2_with fail
          refine HTn6.out.mono ?_
          rintro y w7 ⟨v7, rfl, hv7, hb7⟩
          obtain ⟨At, ct, rfl, het⟩ := OwE.es hv7
          rw [← Hnt.out]
          have Hem7 := hide (Hem6.out.keep hb7)
          have Hb7 := hide (Hb6.out.trans (hb7.mono Hb6.out.size))
          have HSm := hide (same_any T Am At cm ct w7 Hem7.out het (by have := HTs.out; omega) (fun e he => by have := HI.out e he; have := HTs.out; omega))
          rw [← Hnt.out] at HSm
          clear hb7 hv7 het
          go_wp2_with fail
          refine HSm.out.mono ?_
          rintro y w8 ⟨rfl, hb8⟩
          have hb9 := Hb7.out.trans (hb8.mono Hb7.out.size)
          clear hb8
          go_wp2
          go_ret
          exact ⟨rfl, hb9⟩
    · have db : decide (40 < (b.length : Int)) = true := by simp; omega
      obtain ⟨n, hn⟩ : ∃ n, n = b.length := ⟨_, rfl⟩
      rw [← hn] at db ⊢
      obtain ⟨m, hm⟩ : ∃ m, m = a.length := ⟨_, rfl⟩
      rw [← hm] at da ⊢
      clear hn hm ha hb
      go_enter Try.func7, Try.ntmps7
      go_wp2_with fail
      refine (awake_any w).mono ?_
      rintro y w1 ⟨rfl, hb1⟩
      go_wp2
      go_ret
      exact ⟨rfl, hb1⟩
  · have da : decide (40 < (a.length : Int)) = true := by simp; omega
    obtain ⟨m, hm⟩ : ∃ m, m = a.length := ⟨_, rfl⟩
    rw [← hm] at da ⊢
    clear hm ha
    go_enter Try.func7, Try.ntmps7
    go_wp2_with fail
    refine (awake_any w).mono ?_
    rintro y w1 ⟨rfl, hb1⟩
    go_wp2
    go_ret
    exact ⟨rfl, hb1⟩
end Go.Proofs.Ytodicgopmcdjpaa.Hu
