/-
  The statement HunkTells, walked.
-/
import Derived.Test.YtodicgopmcdjpaaHT

namespace Go.Proofs.Ytodicgopmcdjpaa.Hu
open Go Go.RowKit Kt Lw Li Df

set_option maxHeartbeats 2000000 in
set_option maxRecDepth 100000 in
theorem tells_any (a b : Ls) (s : Nat) (A A' : Option Addr) (c c' : Nat) (P P' : Nat → Prop) (w : World) (hs : Vs w P A c (texts a)) (hs' : Vs w P' A' c' (texts b)) (hsn : s < 65536) (hxa : ∀ x ∈ a, x.length ≤ 140737488351232) (hxb : ∀ x ∈ b, x.length ≤ 140737488351232) :
    Calls Try.prog 5 #[.slice A a.length c, .slice A' b.length c', .int .u16 (s : Int)] w fun y w' => y = .returned (.bool true) ∧ Below w.heap.size w w' := by
  have Ha := hide hs.bound
  have Hx := hide hs'.bound
  clear hs hs'
  by_cases ha : a.length ≤ 40
  · have da : decide (40 < (a.length : Int)) = false := by simp; omega
    by_cases hb : b.length ≤ 40
    · have db : decide (40 < (b.length : Int)) = false := by simp; omega
      obtain ⟨r, hr⟩ : ∃ r, r = s % 1001 := ⟨_, rfl⟩
      have hr1 : r ≤ 1000 := by omega
      have hmod : (s : Int) % 1001 = (r : Int) := by omega
      obtain ⟨hfi, hfl, hfh⟩ := hs_facts a b r ha hb hxa hxb
      have Hsm := hide (D_small a b (by omega) (by omega))
      have hDr := D_right a b
      obtain ⟨_, hfe, _, hrise⟩ := mk_start a r (D a b) hDr
      have HD := hide (fun w1 (h1 : Vs w1 (fun b => b < w1.heap.size) A c (texts a)) (h2 : Vs w1 (fun b => b < w1.heap.size) A' c' (texts b)) => diff_any a b A A' c c' _ _ w1 h1 h2 (by omega) (by omega))
      have HI := hide (ins_size' (D a b))
      have HM := hide (fun Al cl w1 (h1 : Vs w1 (fun b => b < w1.heap.size) A c (texts a)) (h2 : Es w1 Al cl (D a b)) => make_yes a r (D a b) A Al c cl _ w1 h1 h2 (by omega) (by have := Hsm.out; omega) hr1 (by have := Hsm.out; omega) hDr (fun x hx => Nat.le_trans (hxa x hx) (by omega)) hfi)
      generalize D a b = L at *
      obtain ⟨HL, hHL⟩ : ∃ HL, HL = mkHs a r 0 L := ⟨_, rfl⟩
      rw [← hHL] at hfl hfh hfe hrise HM
      obtain ⟨m, hm⟩ : ∃ m, m = a.length := ⟨_, rfl⟩
      obtain ⟨n, hn⟩ : ∃ n, n = b.length := ⟨_, rfl⟩
      rw [← hm] at ha da HD HM hrise ⊢
      rw [← hn] at hb db HD ⊢
      have Hfh := hide hfh
      have Hfe := hide hfe
      have Hrise := hide hrise
      have Hfl := hide hfl
      clear hm hn hr hHL hDr hfi hfh hfe hrise hxa hxb hfl
      go_enter Try.func5, Try.ntmps5
      go_wp2_with fail
      refine (awake_any w).mono ?_
      rintro y w1 ⟨rfl, hb1⟩
      have Ha1 := hide (vs_keep Ha.out hb1)
      have Hx1 := hide (vs_keep Hx.out hb1)
      have Hb1 := hide hb1
      clear hb1
      go_wp2_with fail
      refine (HD.out w1 Ha1.out Hx1.out).mono ?_
      rintro y w2 ⟨v, rfl, hv, hb2⟩
      obtain ⟨Al, cl, rfl, he⟩ := OwE.es hv
      have Ha2 := hide (vs_keep Ha1.out hb2)
      have He2 := hide he
      have Hb2 := hide (Hb1.out.trans (hb2.mono Hb1.out.size))
      have HM2 := hide (HM.out Al cl w2 Ha2.out he)
      obtain ⟨nl, hnl⟩ : ∃ nl, nl = L.length := ⟨_, rfl⟩
      rw [← hnl] at HM2 ⊢
      have Hnl := hide hnl
      clear hb2 hv he hnl
      go_wp2_with fail
      refine HM2.out.mono ?_
      rintro y w3 ⟨v, rfl, hv, hb3⟩
      obtain ⟨Ah, ch, rfl, hh⟩ := OwH.hks hv
      have He3 := hide (He2.out.keep hb3)
      have Hh3 := hide hh
      have Hb3 := hide (Hb2.out.trans (hb3.mono Hb2.out.size))
      obtain ⟨M, hM⟩ : ∃ M, M = HL.length := ⟨_, rfl⟩
      rw [← hM] at Hfl ⊢
      have HMl := hide hM
      have hM200 : M ≤ 200 := Hfl.out
      clear hb3 hv hh hM HM2 HM HD
      go_wp2
      go_loopw [11, 12, 13] (fun v z i wr => ∃ (k : Nat) (T : List Ed) (e : Int) (v0 : Value), v0 = v ∧ k ≤ M ∧ i = .int .i64 k ∧ z = .int .i64 e ∧ (0 ≤ e ∧ e ≤ 2000) ∧ T ++ (HL.drop k).flatMap hedits = L ∧ rise m (decide (0 < k)) e (HL.drop k) ∧ OwE wr w3.heap.size v0 T ∧ Below w3.heap.size w3 wr) (fun _ _ i _ => M - (intOf i).toNat)
      case atStart => exact ⟨0, [], 0, _, rfl, Nat.zero_le _, rfl, rfl, by omega, Hfe.out, Hrise.out, OwE.nil _ _, Below.refl _ _⟩
      case round =>
        obtain ⟨k, T, e, v, rfl, hk, rfl, rfl, he, hpre, hri, hown, hb⟩ := hrel
        have Hb := hide hb
        have Hown := hide hown
        clear hb hown
        by_cases hlt : k < M
        · obtain ⟨bb, o, h, A2, c2, rfl, hke, ⟨c0, c1, c2', c3, c4⟩, hvs⟩ := Hh3.out.at Hb.out (k := k) (by have := HMl.out; omega)
          have hhm := List.mem_of_getElem? hke
          obtain ⟨hr, hln, hza, hzb, hxl⟩ := Hfh.out h hhm
          have hdk : HL.drop k = h :: HL.drop (k + 1) := by
            have h1 := (List.getElem?_eq_some_iff.1 hke).1
            rw [List.drop_eq_getElem_cons h1]
            rw [List.getElem?_eq_getElem h1] at hke
            injection hke with hke
            rw [hke]
          rw [hdk] at hri hpre
          obtain ⟨hri1, hri2, hri3⟩ := hri
          have Hri3 := hide (show rise m (decide (0 < k + 1)) (h.a + h.an) (HL.drop (k + 1)) by rw [decide_eq_true (Nat.succ_pos k)]; exact hri3)
          have Hpre := hide (show (T ++ hedits h) ++ (HL.drop (k + 1)).flatMap hedits = L by rw [← hpre, List.flatMap_cons, List.append_assoc])
          have hTl : T.length + (hedits h).length ≤ 400 := by
            have h1 := congrArg List.length Hpre.out
            rw [List.length_append, List.length_append] at h1
            have := Hsm.out
            omega
          have han : 0 ≤ h.an ∧ h.an ≤ 1000 := by
            have h1 := ((hright_iff h).1 hr).2.2.2.1
            have := many_le 45 h.lines
            omega
          have HRt := hide (fun w1 (hb1 : Below w3.heap.size w3 w1) => hright_any h.a h.an h.b h.bn h.lines A2 c2 _ w1 (Lw.Vs.below hvs hb1) (by omega))
          rw [show hright ⟨h.a, h.an, h.b, h.bn, h.lines⟩ = true from hr] at HRt
          have HEd := hide (fun w1 (hb1 : Below w3.heap.size w3 w1) => hedits_any h A2 c2 _ w1 (Lw.Vs.below hvs hb1) (by omega) hr (by omega))
          have Hand := hide han
          have HTl := hide hTl
          obtain ⟨za, hzae⟩ : ∃ z, z = h.a := ⟨_, rfl⟩
          obtain ⟨zan, hzan⟩ : ∃ z, z = h.an := ⟨_, rfl⟩
          obtain ⟨zb, hzbe⟩ : ∃ z, z = h.b := ⟨_, rfl⟩
          obtain ⟨zbn, hzbn⟩ : ∃ z, z = h.bn := ⟨_, rfl⟩
          obtain ⟨nh, hnh⟩ : ∃ z, z = h.lines.length := ⟨_, rfl⟩
          rw [← hzae, ← hzan, ← hzbe, ← hzbn, ← hnh] at HRt HEd
          rw [← hzae] at c0 hri1 hri2 hza Hri3
          rw [← hzan] at c1 han Hri3
          rw [← hzbe] at c2'
          rw [← hzbn] at c3
          rw [← hnh] at c4
          have dlt : decide (za < e) = false := decide_eq_false (by omega)
          have Hla := hide (fun o' => Hb.out.alloc Hb.out.size o')
          have hkc : decide (0 < k) = false ∨ (decide (0 < k) = true ∧ ((za : Int) == e) = false) := by
            cases hd : decide (0 < k) with
            | false => exact .inl rfl
            | true =>
              refine .inr ⟨rfl, ?_⟩
              rw [beq_eq_false_iff_ne]
              intro he
              exact hri2 hd he.symm
          clear hke hhm hr hxl hdk hri1 hri2 hri3 hpre hTl hvs hzae hzan hzbe hzbn hnh hln hzb
          have hw1 : IntKind.i64.wrap (za + zan) = za + zan := IntWalk.i64_in _ (by omega)
          have hbd : Below wr.heap.size wr (wr.alloc (.cells #[.int .i64 za, .int .i64 zan, .int .i64 zb, .int .i64 zbn, .slice A2 nh c2] tH)) := (Below.refl _ wr).alloc (Nat.le_refl _) _
          have hrw : Row (wr.alloc (.cells #[.int .i64 za, .int .i64 zan, .int .i64 zb, .int .i64 zbn, .slice A2 nh c2] tH)) wr.heap.size tH [.int .i64 za, .int .i64 zan, .int .i64 zb, .int .i64 zbn, .slice A2 nh c2] := Row.fresh wr tH _
          have Hown4 := hide (Hown.out.keep hbd)
          have Hb4 := hide (Hb.out.trans (hbd.mono Hb.out.size))
          clear hbd
          go_wp2_with fail
          refine (HRt.out _ Hb4.out).mono ?_
          rintro y w5 ⟨rfl, hb5⟩
          have hr5 := hrw.below hb5 hrw.lt
          have Hown5 := hide (Hown4.out.keep hb5)
          have Hb5 := hide (Hb4.out.trans (hb5.mono Hb4.out.size))
          clear hb5 hrw c0 c1 c2' c3 c4
          have c0 := hr5.cell 0
          have c1 := hr5.cell 1
          have c2' := hr5.cell 2
          have c3 := hr5.cell 3
          have c4 := hr5.cell 4
          simp only [List.getElem?_cons_zero, List.getElem?_cons_succ] at c0 c1 c2' c3 c4
          rcases hkc with hkc | ⟨hkc, hkd⟩
          · go_wp2_with fail
            refine (HEd.out w5 Hb5.out).mono ?_
            rintro y w6 ⟨u, rfl, hu, hb6⟩
            have Hown6 := hide (Hown5.out.keep hb6)
            have Hb6 := hide (Hb5.out.trans (hb6.mono Hb5.out.size))
            have Hu6 := hide (hu.base (show w3.heap.size ≤ w5.heap.size from Hb5.out.size))
            clear hb6 hu c0 c1 c2' c3 c4
            go_wp2_with (refine wpList_catE rfl (.tmp 80) (.tmp 82) rfl w3.heap.size w3 v u T (hedits h) rfl rfl Hown6.out Hu6.out (by have := HTl.out; omega) Hb6.out Hb6.out.size ?_; intro v7 w7 hown7 hb7 _)
            exact ⟨⟨k + 1, _, za + zan, _, rfl, by omega, by go_num, rfl, by omega, Hpre.out, Hri3.out, hown7, hb7⟩, by simp [intOf]; omega⟩
          · go_wp2_with fail
            refine (HEd.out w5 Hb5.out).mono ?_
            rintro y w6 ⟨u, rfl, hu, hb6⟩
            have Hown6 := hide (Hown5.out.keep hb6)
            have Hb6 := hide (Hb5.out.trans (hb6.mono Hb5.out.size))
            have Hu6 := hide (hu.base (show w3.heap.size ≤ w5.heap.size from Hb5.out.size))
            clear hb6 hu c0 c1 c2' c3 c4
            go_wp2_with (refine wpList_catE rfl (.tmp 80) (.tmp 82) rfl w3.heap.size w3 v u T (hedits h) rfl rfl Hown6.out Hu6.out (by have := HTl.out; omega) Hb6.out Hb6.out.size ?_; intro v7 w7 hown7 hb7 _)
            exact ⟨⟨k + 1, _, za + zan, _, rfl, by omega, by go_num, rfl, by omega, Hpre.out, Hri3.out, hown7, hb7⟩, by simp [intOf]; omega⟩
        · obtain rfl : k = M := by omega
          rw [HMl.out, List.drop_length] at hpre hri
          have hTL : T = L := by rw [← hpre]; simp
          have hre : e ≤ m := hri
          subst hTL
          obtain ⟨Am, cm, rfl, hem⟩ := OwE.es Hown.out
          have He4 := hide (He3.out.keep Hb.out)
          have hdm : decide (e ≤ (m : Int)) = true := decide_eq_true hre
          have HSm := hide (same_any T Al Am cl cm wr He4.out hem (by have := Hsm.out; omega) (fun e he => by have := HI.out e he; have := Hsm.out; omega))
          rw [← Hnl.out] at HSm ⊢
          clear hpre hri hem
          go_wp2_with fail
          refine HSm.out.mono ?_
          rintro y w5 ⟨rfl, hb5⟩
          have hb6 := Hb3.out.trans ((Hb.out.trans (hb5.mono Hb.out.size)).mono Hb3.out.size)
          clear hb5
          go_wp2
          go_ret
          exact ⟨rfl, hb6⟩
    · have db : decide (40 < (b.length : Int)) = true := by simp; omega
      obtain ⟨n, hn⟩ : ∃ n, n = b.length := ⟨_, rfl⟩
      rw [← hn] at db ⊢
      obtain ⟨m, hm⟩ : ∃ m, m = a.length := ⟨_, rfl⟩
      rw [← hm] at da ⊢
      clear hn hm ha hb
      go_enter Try.func5, Try.ntmps5
      go_wp2_with fail
      refine (awake_any w).mono ?_
      rintro y w1 ⟨rfl, hb1⟩
      go_wp2
      go_ret
      exact ⟨rfl, hb1⟩
  · have da : decide (40 < (a.length : Int)) = true := by simp; omega
    obtain ⟨m, hm⟩ : ∃ m, m = a.length := ⟨_, rfl⟩
    rw [← hm] at da ⊢
    clear hm ha
    go_enter Try.func5, Try.ntmps5
    go_wp2_with fail
    refine (awake_any w).mono ?_
    rintro y w1 ⟨rfl, hb1⟩
    go_wp2
    go_ret
    exact ⟨rfl, hb1⟩
end Go.Proofs.Ytodicgopmcdjpaa.Hu
