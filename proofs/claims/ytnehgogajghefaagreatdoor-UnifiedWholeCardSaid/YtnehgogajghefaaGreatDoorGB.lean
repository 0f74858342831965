/-
  The statement UnifiedWhole, walked.
-/
import Derived.Test.YtnehgogajghefaaGreatDoorQ8
import Derived.Test.YtnehgogajghefaaGreatDoorQ6
import Derived.Test.YtnehgogajghefaaGreatDoorEL
import Derived.Test.YtnehgogajghefaaGreatDoorHN
import Derived.Test.YtnehgogajghefaaGreatDoorUR
import Derived.Test.YtnehgogajghefaaGreatDoorUV
namespace Go.Proofs.YtnehgogajghefaaGreatDoor.Un
open Go Go.RowKit Kt Lw Li Df Hu

set_option maxRecDepth 100000 in
set_option maxHeartbeats 4000000 in
theorem whole_long (s t : List UInt8) (z : Nat) (w : World) (hE : Env w) (hsl : s.length ≤ 9223372036854775807) (htl : t.length ≤ 9223372036854775807) (hbig : 100 < s.length ∨ 100 < t.length) :
    Calls Tryz.prog 3 #[.string ⟨s.toArray⟩, .string ⟨t.toArray⟩, .int .u8 (z : Int)] w fun y w' => y = .returned (.bool true) ∧ Below w.heap.size w w' := by
  have Haw := hide (awake_any w hE)
  have hsz : (ByteArray.mk s.toArray).size = s.length := rfl
  have hsz2 : (ByteArray.mk t.toArray).size = t.length := rfl
  obtain ⟨n, hn⟩ : ∃ n, n = s.length := ⟨_, rfl⟩
  obtain ⟨m, hm⟩ : ∃ m, m = t.length := ⟨_, rfl⟩
  rw [← hn] at hsz hsl hbig
  rw [← hm] at hsz2 htl hbig
  clear hn hm hE
  by_cases h1 : 100 < n
  · have d1 : decide (100 < (n : Int)) = true := decide_eq_true (by omega)
    clear hbig h1
    go_enter Tryz.func3, Tryz.ntmps3
    go_wp2_with fail
    refine Haw.out.mono ?_
    rintro y w1 ⟨rfl, hb1⟩
    go_wp2
    go_ret
    exact ⟨rfl, hb1⟩
  · have d1 : decide (100 < (n : Int)) = false := decide_eq_false (by omega)
    have d2 : decide (100 < (m : Int)) = true := decide_eq_true (by omega)
    clear hbig h1
    go_enter Tryz.func3, Tryz.ntmps3
    go_wp2_with fail
    refine Haw.out.mono ?_
    rintro y w1 ⟨rfl, hb1⟩
    go_wp2
    go_ret
    exact ⟨rfl, hb1⟩
set_option maxRecDepth 100000 in
set_option maxHeartbeats 8000000 in
theorem lawWhole_any (s t : List UInt8) (z : Nat) (w : World) (hE : Env w) (hsl : s.length ≤ 9223372036854775807) (htl : t.length ≤ 9223372036854775807) (hz : z < 256) :
    Calls Tryz.prog 3 #[.string ⟨s.toArray⟩, .string ⟨t.toArray⟩, .int .u8 (z : Int)] w fun y w' => y = .returned (.bool true) ∧ Below w.heap.size w w' := by
  by_cases hbig : 100 < s.length ∨ 100 < t.length
  · exact whole_long s t z w hE hsl htl hbig
  have hs1 : s.length ≤ 100 := by omega
  have ht1 : t.length ≤ 100 := by omega
  have HE := hide (fun w' (hb : Below w.heap.size w w') => hE.keep hb)
  have Haw := hide (awake_any w hE)
  obtain ⟨r, hr⟩ : ∃ r, r = z % 10 := ⟨_, rfl⟩
  have hr1 : r < 10 := by omega
  have hmod : (z : Int) % 10 = (r : Int) := by omega
  have hmod2 : (z : Int).tmod 10 = (r : Int) := by rw [Int.tmod_eq_emod_of_nonneg (by omega)]; exact hmod
  have HSs := hide (fun w1 => split_any s w1 (by omega))
  have HSt := hide (fun w1 => split_any t w1 (by omega))
  have hla := Nat.le_trans (lns_len_le s) hs1
  have hlb := Nat.le_trans (lns_len_le t) ht1
  obtain ⟨HL, hHL⟩ : ∃ HL, HL = mkHs (lns s) r 0 (D (lns s) (lns t)) := ⟨_, rfl⟩
  obtain ⟨htell, hprt, htxt, hfit, hlen, hedt, hall, hins, hxs⟩ := whole_facts s t hs1 ht1 r HL hHL
  have hsm := D_small (lns s) (lns t) hla hlb
  have hDr := D_right (lns s) (lns t)
  have Hisz := hide (ins_size' (D (lns s) (lns t)))
  have HD := hide (fun A A' c c' w1 (h1 : Vs w1 (fun b => b < w1.heap.size) A c (texts (lns s))) (h2 : Vs w1 (fun b => b < w1.heap.size) A' c' (texts (lns t))) => diff_any (lns s) (lns t) A A' c c' _ _ w1 h1 h2 (by omega) (by omega))
  have HM := hide (fun A c Al cl w1 (h1 : Vs w1 (fun b => b < w1.heap.size) A c (texts (lns s))) (h2 : Es w1 Al cl (D (lns s) (lns t))) => make_yes (lns s) r (D (lns s) (lns t)) A Al c cl _ w1 h1 h2 (by omega) (by omega) (by omega) (by omega) hDr (fun x hx => Nat.le_trans (hxs x hx) (by omega)) hins)
  have HPp := hide (parse_prt htell)
  obtain ⟨L, hL⟩ : ∃ L, L = D (lns s) (lns t) := ⟨_, rfl⟩
  rw [← hL] at HM HD hedt hsm Hisz hHL
  rw [← hHL] at HM
  have Hedt := hide hedt
  have Hall := hide hall
  have Hfit := hide hfit
  have Htxt := hide htxt
  have Hprt := hide hprt
  have Hsm := hide hsm
  obtain ⟨T, hT⟩ : ∃ T, T = prt HL := ⟨_, rfl⟩
  rw [← hT] at Hprt HPp
  have HT := hide hT
  have hsz : (ByteArray.mk s.toArray).size = s.length := rfl
  have hsz2 : (ByteArray.mk t.toArray).size = t.length := rfl
  obtain ⟨na, hna⟩ : ∃ n, n = (lns s).length := ⟨_, rfl⟩
  obtain ⟨nb, hnb⟩ : ∃ n, n = (lns t).length := ⟨_, rfl⟩
  obtain ⟨a, ha⟩ : ∃ a, a = lns s := ⟨_, rfl⟩
  obtain ⟨b, hb⟩ : ∃ b, b = lns t := ⟨_, rfl⟩
  rw [← ha] at HSs HD HM hna
  rw [← hb] at HSt HD hnb
  rw [← hna] at HD HM
  rw [← hnb] at HD
  obtain ⟨n, hn⟩ : ∃ n, n = s.length := ⟨_, rfl⟩
  obtain ⟨m, hm⟩ : ∃ m, m = t.length := ⟨_, rfl⟩
  rw [← hn] at hsz hs1
  rw [← hm] at hsz2 ht1
  have Hna := hide hna
  have Hnb := hide hnb
  have d1 : decide (100 < (n : Int)) = false := decide_eq_false (by omega)
  have d2 : decide (100 < (m : Int)) = false := decide_eq_false (by omega)
  clear hE hr hHL htell hprt htxt hfit hedt hall hins hxs hDr hL hT hn hm hna hnb ha hb hla hlb hsm hbig hsl htl
  go_enter Tryz.func3, Tryz.ntmps3
  go_wp2_with fail
  refine Haw.out.mono ?_
  rintro y w1 ⟨rfl, hb1⟩
  have Hb1 := hide hb1
  clear hb1 Haw
  go_wp2_with fail
  refine (HSs.out w1).mono ?_
  rintro y w2 ⟨v2, rfl, hv2, hb2⟩
  obtain ⟨A2, c2, rfl, hx2⟩ := OwT.vs (show OwT w2 w1.heap.size 9 v2 a from hv2)
  have Hx2 := hide hx2.bound
  have Hb2 := hide (Hb1.out.trans (hb2.mono Hb1.out.size))
  rw [← Hna.out]
  clear hb2 hv2 hx2 HSs Hb1
  go_wp2_with fail
  refine (HSt.out w2).mono ?_
  rintro y w3 ⟨v3, rfl, hv3, hb3⟩
  obtain ⟨A3, c3, rfl, hx3⟩ := OwT.vs (show OwT w3 w2.heap.size 9 v3 b from hv3)
  have Hx3 := hide hx3.bound
  have Ha3 := hide (vs_keep Hx2.out hb3)
  have Hb3 := hide (Hb2.out.trans (hb3.mono Hb2.out.size))
  rw [← Hnb.out]
  clear hb3 hv3 hx3 HSt Hb2 Hx2
  go_wp2_with fail
  refine (HD.out A2 A3 c2 c3 w3 Ha3.out Hx3.out).mono ?_
  rintro y w4 ⟨v4, rfl, hv4, hb4⟩
  obtain ⟨Al, cl, rfl, he⟩ := OwE.es hv4
  have Ha4 := hide (vs_keep Ha3.out hb4)
  have He4 := hide he
  have Hb4 := hide (Hb3.out.trans (hb4.mono Hb3.out.size))
  have HM4 := hide (HM.out A2 c2 Al cl w4 Ha4.out he)
  obtain ⟨nl, hnl⟩ : ∃ nl, nl = L.length := ⟨_, rfl⟩
  rw [← hnl] at HM4 ⊢
  have Hnl := hide hnl
  clear hb4 hv4 he hnl HD HM Hb3 Ha3 Hx3
  go_wp2_with fail
  refine HM4.out.mono ?_
  rintro y w5 ⟨v5, rfl, hv5, hb5⟩
  obtain ⟨Ah, ch, rfl, hh⟩ := OwH.hks hv5
  have He5 := hide (He4.out.keep hb5)
  have Hb5 := hide (Hb4.out.trans (hb5.mono Hb4.out.size))
  have HPr := hide (print_any HL Ah ch w5 hh (HE.out w5 Hb5.out) (by omega) (by have := Htxt.out; omega) Hfit.out)
  rw [← HT.out] at HPr
  obtain ⟨M, hM⟩ : ∃ M, M = HL.length := ⟨_, rfl⟩
  rw [← hM] at HPr hlen ⊢
  have HMl := hide hM
  clear hb5 hv5 hh hM HM4 Hb4 He4
  go_wp2_with fail
  refine HPr.out.mono ?_
  rintro y w6 ⟨rfl, hb6⟩
  have He6 := hide (He5.out.keep hb6)
  have Hb6 := hide (Hb5.out.trans (hb6.mono Hb5.out.size))
  have HPs := hide (parse_any T w6 (HE.out w6 Hb6.out) (by have := Hprt.out; omega))
  rw [HPp.out] at HPs
  clear hb6 HPr Hb5 He5
  go_wp2_with fail
  refine HPs.out.mono ?_
  rintro y w7 ⟨v7, rfl, hv7, hb7⟩
  obtain ⟨A7, c7, rfl, hk7⟩ := OwH.hks hv7
  have Hk7 := hide hk7
  have He7 := hide (He6.out.keep hb7)
  have Hb7 := hide (Hb6.out.trans (hb7.mono Hb6.out.size))
  rw [← HMl.out]
  clear hb7 hv7 hk7 HPs Hb6 He6
  have q1 : ((M : Int) != (M : Int)) = false := bne_self_eq_false _
  go_wp2
  go_loopw [16, 17] (fun v iv wr => ∃ (k : Nat) (E : List Ed) (v0 : Value), v0 = v ∧ k ≤ M ∧ iv = .int .i64 k ∧ Hid (E ++ (HL.drop k).flatMap hedits = L) ∧ Hid (OwE wr w7.heap.size v0 E) ∧ Hid (Below w7.heap.size w7 wr)) (fun _ iv _ => M - (intOf iv).toNat)
  case atStart => exact ⟨0, [], _, rfl, Nat.zero_le _, rfl, Hedt.out, OwE.nil _ _, Below.refl _ _⟩
  case round =>
    obtain ⟨k, E, v, rfl, hk, rfl, Hpre, Hown, Hb⟩ := hrel
    by_cases hlt : k < M
    · obtain ⟨bb, o, h, Ax, cx, rfl, hke, ⟨c0, c1, c2', c3', c4⟩, hvs⟩ := Hk7.out.at Hb.out (k := k) (by have := HMl.out; omega)
      have hhm := List.mem_of_getElem? hke
      obtain ⟨hrt, hln, hza, hxl⟩ := Hall.out h hhm
      have hdk : HL.drop k = h :: HL.drop (k + 1) := by
        have h1 := (List.getElem?_eq_some_iff.1 hke).1
        rw [List.drop_eq_getElem_cons h1]
        rw [List.getElem?_eq_getElem h1] at hke
        injection hke with hke
        rw [hke]
      rw [hdk] at Hpre
      have Hpre2 := hide (show (E ++ hedits h) ++ (HL.drop (k + 1)).flatMap hedits = L by rw [← Hpre.out, List.flatMap_cons, List.append_assoc])
      have HTl := hide (show E.length + (hedits h).length ≤ 400 by
        have h1 := congrArg List.length Hpre2.out
        rw [List.length_append, List.length_append] at h1
        have := Hsm.out
        omega)
      have HEd := hide (fun w1 (hb1 : Below w7.heap.size w7 w1) => hedits_any h Ax cx _ w1 (Lw.Vs.below hvs hb1) (by omega) hrt (by omega))
      obtain ⟨za, hzae⟩ : ∃ z, z = h.a := ⟨_, rfl⟩
      obtain ⟨zan, hzan⟩ : ∃ z, z = h.an := ⟨_, rfl⟩
      obtain ⟨zb, hzbe⟩ : ∃ z, z = h.b := ⟨_, rfl⟩
      obtain ⟨zbn, hzbn⟩ : ∃ z, z = h.bn := ⟨_, rfl⟩
      obtain ⟨nh, hnh⟩ : ∃ z, z = h.lines.length := ⟨_, rfl⟩
      rw [← hzae, ← hzan, ← hzbe, ← hzbn, ← hnh] at HEd
      rw [← hzae] at c0
      rw [← hzan] at c1
      rw [← hzbe] at c2'
      rw [← hzbn] at c3'
      rw [← hnh] at c4
      clear hke hhm hrt hxl hdk hvs hzae hzan hzbe hzbn hnh hln hza Hpre
      go_wp2_with fail
      refine (HEd.out wr Hb.out).mono ?_
      rintro y w8 ⟨u, rfl, hu, hb8⟩
      have Hown8 := hide (Hown.out.keep hb8)
      have Hb8 := hide (Hb.out.trans (hb8.mono Hb.out.size))
      have Hu8 := hide (hu.base (show w7.heap.size ≤ wr.heap.size from Hb.out.size))
      clear hb8 hu c0 c1 c2' c3' c4
      go_wp2_with (refine wpList_catE rfl (.tmp 74) (.tmp 79) rfl w7.heap.size w7 v u E (hedits h) rfl rfl Hown8.out Hu8.out (by have := HTl.out; omega) Hb8.out Hb8.out.size ?_; intro v9 w9 hown9 hb9 _; have Hown9 := hide hown9; have Hb9 := hide hb9; clear hown9 hb9)
      exact ⟨⟨k + 1, _, _, rfl, by omega, by go_num, Hpre2, Hown9, Hb9⟩, by simp [intOf]; omega⟩
    · obtain rfl : k = M := by omega
      have hTL : E = L := by have h := Hpre.out; rw [HMl.out, List.drop_length] at h; simpa using h
      subst hTL
      obtain ⟨Am, cm, rfl, hem⟩ := OwE.es Hown.out
      have He8 := hide (He7.out.keep Hb.out)
      have HSm := hide (same_any E Al Am cl cm wr He8.out hem (by have := Hsm.out; omega) (fun e he => by have := Hisz.out e he; have := Hsm.out; omega))
      rw [← Hnl.out] at HSm ⊢
      have Hb9 := hide (Hb7.out.trans (Hb.out.mono Hb7.out.size))
      clear hem
      go_wp2_with fail
      refine HSm.out.mono ?_
      rintro y w8 ⟨rfl, hb8⟩
      have hb9 := Hb9.out.trans (hb8.mono Hb9.out.size)
      clear hb8
      go_wp2
      go_ret
      exact ⟨rfl, hb9⟩
end Go.Proofs.YtnehgogajghefaaGreatDoor.Un
