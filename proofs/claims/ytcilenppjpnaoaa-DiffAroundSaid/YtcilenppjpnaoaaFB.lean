/-
  The statement DiffAround, walked.
-/
import Derived.Test.YtcilenppjpnaoaaFA
namespace Go.Proofs.Ytcilenppjpnaoaa.Df
open Go Go.RowKit Kt Lw Li

set_option maxHeartbeats 4000000 in
set_option maxRecDepth 100000 in
theorem around_any (a b : Ls) (A A' : Option Addr) (c c' : Nat) (P P' : Nat → Prop) (p q : Nat) (w : World) (hs : Vs w P A c (texts a)) (hs' : Vs w P' A' c' (texts b)) (hp : p < 256) (hq : q < 256)
    (hla : ∀ s ∈ a, s.length ≤ 1000000000000000) (hlb : ∀ s ∈ b, s.length ≤ 1000000000000000) :
    Calls Try.prog 9 #[.slice A a.length c, .slice A' b.length c', .int .u8 (p : Int), .int .u8 (q : Int)] w fun r w' => r = .returned (.bool true) ∧ Below w.heap.size w w' := by
  by_cases ha : a.length ≤ 12
  · have da : decide (12 < (a.length : Int)) = false := by simp; omega
    by_cases hb : b.length ≤ 12
    · have db : decide (12 < (b.length : Int)) = false := by simp; omega
      have Ha := hide hs.bound
      have Hx := hide hs'.bound
      obtain ⟨n, hn⟩ : ∃ n, n = p % 9 := ⟨_, rfl⟩
      obtain ⟨e, he⟩ : ∃ e, e = q % 9 := ⟨_, rfl⟩
      have hn' : (p : Int) % 9 = (n : Int) := by omega
      have he' : (q : Int) % 9 = (e : Int) := by omega
      have hn8 : n ≤ 8 := by omega
      have he8 : e ≤ 8 := by omega
      obtain ⟨oa, hoa⟩ : ∃ oa, oa = [46] ++ a.flatten := ⟨_, rfl⟩
      obtain ⟨z, hz⟩ : ∃ z, z = oa ++ b.flatten := ⟨_, rfl⟩
      have hfa := flat_le _ a hla
      have hfb := flat_le _ b hlb
      have hfa2 : a.flatten.length ≤ 12000000000000000 := Nat.le_trans hfa (Nat.le_trans (Nat.mul_le_mul_right _ ha) (by omega))
      have hfb2 : b.flatten.length ≤ 12000000000000000 := Nat.le_trans hfb (Nat.le_trans (Nat.mul_le_mul_right _ hb) (by omega))
      have HlenA := hide (show ∀ i, i ≤ a.length → ([46] ++ (a.take i).flatten).length ≤ 20000000000000000 by
        intro i hi
        have h1 : a.flatten.length = (a.take i).flatten.length + (a.drop i).flatten.length := by
          rw [← List.length_append, ← List.flatten_append, List.take_append_drop]
        rw [List.length_append, List.length_singleton]; omega)
      have hoal : oa.length ≤ 12000000000000001 := by rw [hoa, List.length_append, List.length_singleton]; omega
      have HlenB := hide (show ∀ i, i ≤ b.length → (oa ++ (b.take i).flatten).length ≤ 40000000000000000 by
        intro i hi
        have h1 : b.flatten.length = (b.take i).flatten.length + (b.drop i).flatten.length := by
          rw [← List.length_append, ← List.flatten_append, List.take_append_drop]
        rw [List.length_append]; omega)
      have hza : z ∉ a := fun h => by
        have := flat_mem a z h
        have h2 := congrArg List.length hz
        rw [hoa, List.length_append, List.length_append, List.length_singleton] at h2
        omega
      have hzb : z ∉ b := fun h => by
        have := flat_mem b z h
        have h2 := congrArg List.length hz
        rw [hoa, List.length_append, List.length_append, List.length_singleton] at h2
        omega
      have HD := hide (D_around a b n e z hza hzb)
      have Hoa := hide hoa
      have Hz := hide hz
      have Hla2 := hide ha
      have Hlb2 := hide hb
      have Hd1 := hide (fun w1 (h1 : Vs w1 (fun b => b < w1.heap.size) A c (texts a)) (h2 : Vs w1 (fun b => b < w1.heap.size) A' c' (texts b)) => diff_any a b A A' c c' _ _ w1 h1 h2 (by omega) (by omega))
      obtain ⟨ma, hma⟩ : ∃ ma, ma = a.length := ⟨_, rfl⟩
      obtain ⟨mb, hmb⟩ : ∃ mb, mb = b.length := ⟨_, rfl⟩
      rw [← hma] at ha da HlenA Hd1 ⊢
      rw [← hmb] at hb db HlenB Hd1 ⊢
      have Hma := hide hma
      have Hmb := hide hmb
      clear hs hs' hla hlb hn he hoa hz hfa hfb hfa2 hfb2 hoal hza hzb hma hmb
      go_enter Try.func9, Try.ntmps9
      go_wp2_with fail
      refine (awake_any w).mono ?_
      rintro y w1 ⟨rfl, hb1⟩
      have Ha1 := hide (vs_keep Ha.out hb1)
      have Hx1 := hide (vs_keep Hx.out hb1)
      have Hb1 := hide hb1
      clear hb1
      go_wp2
      go_loopw [12, 13] (fun vo vi wr => ∃ i : Nat, i ≤ ma ∧ vi = .int .i64 i ∧ vo = .string ⟨([46] ++ (a.take i).flatten).toArray⟩ ∧ Below w1.heap.size w1 wr) (fun _ vi _ => ma - (intOf vi).toNat)
      case atStart => exact ⟨0, Nat.zero_le _, rfl, by simp, Below.refl _ _⟩
      case round =>
        obtain ⟨i, hi, rfl, rfl, hb⟩ := hrel
        have Hb := hide hb
        clear hb
        by_cases hlt : i < ma
        · obtain ⟨b0, o0, HA0, ck⟩ := Ha1.out.text Hb.out (k := i) (by have := Hma.out; omega)
          subst HA0
          have Hf := hide (flat_snoc a i (by have := Hma.out; omega))
          have hlen := HlenA.out i (by omega)
          have hl2 := HlenA.out (i + 1) (by omega)
          rw [Hf.out, ← List.append_assoc, List.length_append] at hl2
          obtain ⟨P, hP⟩ : ∃ P, P = [46] ++ (a.take i).flatten := ⟨_, rfl⟩
          obtain ⟨Q, hQ⟩ : ∃ Q, Q = a.getD i [] := ⟨_, rfl⟩
          rw [← hQ] at ck hl2
          rw [← hP] at hlen hl2 ⊢
          have Hnew := hide (show [46] ++ (a.take (i + 1)).flatten = P ++ Q by rw [Hf.out, hP, hQ, List.append_assoc])
          have ea := app_txt P Q
          clear hP hQ Hf
          go_wp2
          exact ⟨⟨i + 1, by omega, by go_num, by rw [Hnew.out], Hb.out⟩, by simp [intOf]; omega⟩
        · obtain rfl : ma = i := by omega
          have Hfin := hide (show [46] ++ (a.take ma).flatten = oa by rw [Hma.out, List.take_length, Hoa.out])
          rw [Hfin.out]
          have Hb2 := hide (Hb1.out.trans (Hb.out.mono Hb1.out.size))
          obtain ⟨w2, hw2⟩ : ∃ w2, w2 = wr := ⟨_, rfl⟩
          rw [← hw2] at Hb Hb2 ⊢
          have Ha2 := hide (vs_keep Ha1.out Hb.out)
          have Hx2 := hide (vs_keep Hx1.out Hb.out)
          clear hw2 Hb Hfin HlenA
          go_wp2
          go_loopw [12, 14] (fun vo vi wr => ∃ i : Nat, i ≤ mb ∧ vi = .int .i64 i ∧ vo = .string ⟨(oa ++ (b.take i).flatten).toArray⟩ ∧ Below w2.heap.size w2 wr) (fun _ vi _ => mb - (intOf vi).toNat)
          case atStart => exact ⟨0, Nat.zero_le _, rfl, by simp, Below.refl _ _⟩
          case round =>
            obtain ⟨i, hi, rfl, rfl, hb⟩ := hrel
            have Hb := hide hb
            clear hb
            by_cases hlt : i < mb
            · obtain ⟨b0, o0, HA0, ck⟩ := Hx2.out.text Hb.out (k := i) (by have := Hmb.out; omega)
              subst HA0
              have Hf := hide (flat_snoc b i (by have := Hmb.out; omega))
              have hlen := HlenB.out i (by omega)
              have hl2 := HlenB.out (i + 1) (by omega)
              rw [Hf.out, ← List.append_assoc, List.length_append] at hl2
              obtain ⟨P, hP⟩ : ∃ P, P = oa ++ (b.take i).flatten := ⟨_, rfl⟩
              obtain ⟨Q, hQ⟩ : ∃ Q, Q = b.getD i [] := ⟨_, rfl⟩
              rw [← hQ] at ck hl2
              rw [← hP] at hlen hl2 ⊢
              have Hnew := hide (show oa ++ (b.take (i + 1)).flatten = P ++ Q by rw [Hf.out, hP, hQ, List.append_assoc])
              have ea := app_txt P Q
              clear hP hQ Hf
              go_wp2
              exact ⟨⟨i + 1, by omega, by go_num, by rw [Hnew.out], Hb.out⟩, by simp [intOf]; omega⟩
            · obtain rfl : mb = i := by omega
              have Hfin := hide (show oa ++ (b.take mb).flatten = z by rw [Hmb.out, List.take_length, Hz.out])
              rw [Hfin.out]
              have Hb3 := hide (Hb2.out.trans (Hb.out.mono Hb2.out.size))
              obtain ⟨w3, hw3⟩ : ∃ w3, w3 = wr := ⟨_, rfl⟩
              rw [← hw3] at Hb Hb3 ⊢
              have Ha3 := hide (vs_keep Ha2.out Hb.out)
              have Hx3 := hide (vs_keep Hx2.out Hb.out)
              clear hw3 Hb Hfin HlenB
              go_wp2
              go_loopw [10, 15] (fun vf vi wr => ∃ (i : Nat) (u : Value), u = vf ∧ i ≤ n ∧ vi = .int .i64 i ∧ OwT wr w3.heap.size tS u (List.replicate i z) ∧ Below w3.heap.size w3 wr) (fun _ vi _ => n - (intOf vi).toNat)
              case atStart => exact ⟨0, _, rfl, Nat.zero_le _, rfl, OwT.nil _ _ _, Below.refl _ _⟩
              case round =>
                obtain ⟨i, u, rfl, hi, rfl, hown, hb⟩ := hrel
                have Hown := hide hown
                have Hb := hide hb
                clear hown hb
                by_cases hlt : i < n
                · have Hrep := hide (show List.replicate (i + 1) z = List.replicate i z ++ [z] from List.replicate_succ')
                  have Hln := hide (show (List.replicate i z).length + 1 ≤ 1000000000 by rw [List.length_replicate]; omega)
                  obtain ⟨R, hR⟩ : ∃ R, R = List.replicate i z := ⟨_, rfl⟩
                  rw [← hR] at Hown Hrep Hln
                  clear hR
                  go_wp2_with (refine wpList_pushT rfl (.tmp 61) (.tmp 63) rfl w3.heap.size w3 _ R z _ rfl rfl rfl Hown.out Hln.out Hb.out Hb.out.size ?_; intro vn wn hown2 hb2 _ _; have Hown2 := hide hown2; have Hb2' := hide hb2; clear hown2 hb2)
                  exact ⟨⟨i + 1, _, rfl, by omega, by go_num, by rw [Hrep.out]; exact Hown2.out, Hb2'.out⟩, by simp [intOf]; omega⟩
                · obtain rfl : n = i := by omega
                  obtain ⟨w4, hw4⟩ : ∃ w4, w4 = wr := ⟨_, rfl⟩
                  rw [← hw4] at Hb Hown ⊢
                  have Ha4 := hide (vs_keep Ha3.out Hb.out)
                  have Hx4 := hide (vs_keep Hx3.out Hb.out)
                  have Hb4 := hide (Hb3.out.trans (Hb.out.mono Hb3.out.size))
                  obtain ⟨Af, cf, rfl, hvf⟩ := OwT.vs Hown.out
                  have Hf4 := hide (Lw.Vs.bound hvf)
                  clear hw4 hvf Hown Hb
                  rw [List.length_replicate]
                  go_wp2
                  rw [hn']
                  go_loopw [11, 16] (fun vf vi wr => ∃ (i : Nat) (u : Value), u = vf ∧ i ≤ e ∧ vi = .int .i64 i ∧ OwT wr w4.heap.size tS u (List.replicate i z) ∧ Below w4.heap.size w4 wr) (fun _ vi _ => e - (intOf vi).toNat)
                  case atStart => exact ⟨0, _, rfl, Nat.zero_le _, rfl, OwT.nil _ _ _, Below.refl _ _⟩
                  case round =>
                    obtain ⟨i, u, rfl, hi, rfl, hown, hb⟩ := hrel
                    have Hown := hide hown
                    have Hb := hide hb
                    clear hown hb
                    by_cases hlt : i < e
                    · have Hrep := hide (show List.replicate (i + 1) z = List.replicate i z ++ [z] from List.replicate_succ')
                      have Hln := hide (show (List.replicate i z).length + 1 ≤ 1000000000 by rw [List.length_replicate]; omega)
                      obtain ⟨R, hR⟩ : ∃ R, R = List.replicate i z := ⟨_, rfl⟩
                      rw [← hR] at Hown Hrep Hln
                      clear hR
                      go_wp2_with (refine wpList_pushT rfl (.tmp 72) (.tmp 74) rfl w4.heap.size w4 _ R z _ rfl rfl rfl Hown.out Hln.out Hb.out Hb.out.size ?_; intro vn wn hown2 hb2 _ _; have Hown2 := hide hown2; have Hb2' := hide hb2; clear hown2 hb2)
                      exact ⟨⟨i + 1, _, rfl, by omega, by go_num, by rw [Hrep.out]; exact Hown2.out, Hb2'.out⟩, by simp [intOf]; omega⟩
                    · obtain rfl : e = i := by omega
                      obtain ⟨w5, hw5⟩ : ∃ w5, w5 = wr := ⟨_, rfl⟩
                      rw [← hw5] at Hb Hown ⊢
                      have Ha5 := hide (vs_keep Ha4.out Hb.out)
                      have Hx5 := hide (vs_keep Hx4.out Hb.out)
                      have Hf5 := hide (vs_keep Hf4.out Hb.out)
                      have Hb5 := hide (Hb4.out.trans (Hb.out.mono Hb4.out.size))
                      obtain ⟨Ag, cg, rfl, hvg⟩ := OwT.vs Hown.out
                      have Hg5 := hide (Lw.Vs.bound hvg)
                      clear hw5 hvg Hown Hb
                      rw [List.length_replicate]
                      go_wp2_with fail
                      refine (Hd1.out w5 Ha5.out Hx5.out).mono ?_
                      rintro r w6 ⟨vl, rfl, hl, hb6⟩
                      obtain ⟨Al, cl, rfl, he⟩ := OwE.es hl
                      have Ha6 := hide (vs_keep Ha5.out hb6)
                      have Hx6 := hide (vs_keep Hx5.out hb6)
                      have Hf6 := hide (vs_keep Hf5.out hb6)
                      have Hg6 := hide (vs_keep Hg5.out hb6)
                      have He6 := hide he
                      have Hb6 := hide (Hb5.out.trans (hb6.mono Hb5.out.size))
                      clear hl he hb6
                      obtain ⟨F, hF⟩ : ∃ F, F = List.replicate n z := ⟨_, rfl⟩
                      obtain ⟨G, hG⟩ : ∃ G, G = List.replicate e z := ⟨_, rfl⟩
                      have HFl := hide (show F.length = n by rw [hF, List.length_replicate])
                      have HGl := hide (show G.length = e by rw [hG, List.length_replicate])
                      rw [← hF] at Hf6 HD
                      rw [← hG] at Hg6 HD
                      clear hF hG
                      go_wp2_with (first | (refine wpList_catT rfl (.tmp 79) (.tmp 80) 22 rfl Try.underlying22 infoText w6.heap.size w6 _ [] F _ Af cf rfl (by rw [HFl.out]; rfl) (OwT.lit w6 w6.heap.size 9 [] #[] rfl (Nat.le_refl _) (Nat.zero_le _)) (Lw.Vs.below Hf6.out ((Below.refl w6.heap.size w6).alloc (Nat.le_refl _) (.cells #[] 9))) (by have := HFl.out; have := HGl.out; have := Hma.out; have := Hmb.out; simp only [List.length_nil]; omega) ((Below.refl w6.heap.size w6).alloc (Nat.le_refl _) (.cells #[] 9)) ((Below.refl w6.heap.size w6).alloc (Nat.le_refl _) (.cells #[] 9)).size ?_; intro v1 x1 ho1 hb1 _; have Ho1 := hide ho1; have HB1 := hide hb1; clear ho1 hb1) | (refine wpList_catT rfl (.tmp 81) (.tmp 82) 22 rfl Try.underlying22 infoText w6.heap.size w6 _ ([] ++ F) a _ A c rfl (by rw [← Hma.out]; rfl) Ho1.out (Lw.Vs.below Ha6.out HB1.out) (by have := HFl.out; have := HGl.out; have := Hma.out; have := Hmb.out; simp only [List.length_append, List.length_nil]; omega) HB1.out HB1.out.size ?_; intro v2 x2 ho2 hb2 _; have Ho2 := hide ho2; have HB2 := hide hb2; clear ho2 hb2) | (refine wpList_catT rfl (.tmp 83) (.tmp 84) 22 rfl Try.underlying22 infoText w6.heap.size w6 _ ([] ++ F ++ a) G _ Ag cg rfl (by rw [HGl.out]; rfl) Ho2.out (Lw.Vs.below Hg6.out HB2.out) (by have := HFl.out; have := HGl.out; have := Hma.out; have := Hmb.out; simp only [List.length_append, List.length_nil]; omega) HB2.out HB2.out.size ?_; intro v3 x3 ho3 hb3 _; have Ho3 := hide ho3; have HB3 := hide hb3; clear ho3 hb3; have Hf7 := hide (vs_keep Hf6.out HB3.out); have Hx7 := hide (vs_keep Hx6.out HB3.out); have Hg7 := hide (vs_keep Hg6.out HB3.out); have He7 := hide (He6.out.keep HB3.out); have Hb7 := hide (Hb6.out.trans (HB3.out.mono Hb6.out.size)); obtain ⟨A1, c1, rfl, hvp⟩ := OwT.vs Ho3.out; have Hp7 := hide (Lw.Vs.bound hvp); clear hvp) | (refine wpList_catT rfl (.tmp 86) (.tmp 87) 22 rfl Try.underlying22 infoText x3.heap.size x3 _ [] F _ Af cf rfl (by rw [HFl.out]; rfl) (OwT.lit x3 x3.heap.size 9 [] #[] rfl (Nat.le_refl _) (Nat.zero_le _)) (Lw.Vs.below Hf7.out ((Below.refl x3.heap.size x3).alloc (Nat.le_refl _) (.cells #[] 9))) (by have := HFl.out; have := HGl.out; have := Hma.out; have := Hmb.out; simp only [List.length_nil]; omega) ((Below.refl x3.heap.size x3).alloc (Nat.le_refl _) (.cells #[] 9)) ((Below.refl x3.heap.size x3).alloc (Nat.le_refl _) (.cells #[] 9)).size ?_; intro v4 x4 ho4 hb4 _; have Ho4 := hide ho4; have HB4 := hide hb4; clear ho4 hb4) | (refine wpList_catT rfl (.tmp 88) (.tmp 89) 22 rfl Try.underlying22 infoText x3.heap.size x3 _ ([] ++ F) b _ A' c' rfl (by rw [← Hmb.out]; rfl) Ho4.out (Lw.Vs.below Hx7.out HB4.out) (by have := HFl.out; have := HGl.out; have := Hma.out; have := Hmb.out; simp only [List.length_append, List.length_nil]; omega) HB4.out HB4.out.size ?_; intro v5 x5 ho5 hb5 _; have Ho5 := hide ho5; have HB5 := hide hb5; clear ho5 hb5) | (refine wpList_catT rfl (.tmp 90) (.tmp 91) 22 rfl Try.underlying22 infoText x3.heap.size x3 _ ([] ++ F ++ b) G _ Ag cg rfl (by rw [HGl.out]; rfl) Ho5.out (Lw.Vs.below Hg7.out HB5.out) (by have := HFl.out; have := HGl.out; have := Hma.out; have := Hmb.out; simp only [List.length_append, List.length_nil]; omega) HB5.out HB5.out.size ?_; intro v6 x6 ho6 hb6 _; have Ho6 := hide ho6; have HB6 := hide hb6; clear ho6 hb6; have He8 := hide (He7.out.keep HB6.out); have Hp8 := hide (vs_keep Hp7.out HB6.out); have Hb8 := hide (Hb7.out.trans (HB6.out.mono Hb7.out.size)); obtain ⟨A2, c2, rfl, hvp⟩ := OwT.vs Ho6.out; have Hq8 := hide (Lw.Vs.bound hvp); clear hvp) | fail)
                      refine Calls.mono (show Calls Try.prog 14 #[.slice A1 (F.length + (a.length + G.length)) c1, .slice A2 (F.length + (b.length + G.length)) c2] x6 (fun r w' => ∃ v, r = .returned v ∧ OwE w' x6.heap.size v (shift n (D a b)) ∧ Below x6.heap.size x6 w') from by
                        have e1 : [] ++ F ++ a ++ G = F ++ (a ++ G) := by simp
                        have e2 : [] ++ F ++ b ++ G = F ++ (b ++ G) := by simp
                        have h1 := Hp8.out
                        have h2 := Hq8.out
                        rw [e1] at h1
                        rw [e2] at h2
                        have h := diff_any (F ++ (a ++ G)) (F ++ (b ++ G)) A1 A2 c1 c2 _ _ x6 h1 h2 (by rw [List.length_append, List.length_append]; have := HFl.out; have := HGl.out; have := Hma.out; omega) (by rw [List.length_append, List.length_append]; have := HFl.out; have := HGl.out; have := Hmb.out; omega)
                        rw [HD.out, List.length_append, List.length_append, List.length_append, List.length_append] at h
                        exact h) ?_
                      rintro r w9 ⟨vm, rfl, hm, hb9⟩
                      have Hsm := hide (D_small a b (by have := Hma.out; omega) (by have := Hmb.out; omega))
                      have Hps := hide (right_pos _ _ _ (by omega) (D_right a b))
                      have Hsz := hide (size_mem (D a b))
                      rw [← Hma.out] at Hps
                      generalize D a b = L at *
                      obtain ⟨Am, cm, rfl, _⟩ := OwE.es hm
                      rw [shift_len] at hm ⊢
                      have Hm9 := hide hm
                      have Hb9 := hide hb9
                      obtain ⟨N, hN⟩ : ∃ N, N = L.length := ⟨_, rfl⟩
                      rw [← hN] at Hm9 ⊢
                      have HN := hide hN
                      have hN2 : N ≤ 200 := by rw [hN]; exact Hsm.out.2
                      clear hm hb9 hN
                      go_wp2
                      go_loopw [19] (fun vi wr => ∃ i : Nat, i ≤ N ∧ vi = .int .i64 i ∧ OwE wr x6.heap.size (.slice Am N cm) (Mi L n i) ∧ Below x6.heap.size x6 wr) (fun vi _ => N - (intOf vi).toNat)
                      case atStart => exact ⟨0, Nat.zero_le _, rfl, by rw [Mi_first]; exact Hm9.out, Hb9.out⟩
                      case round =>
                        obtain ⟨i, hi, rfl, hown, hb⟩ := hrel
                        have Hb := hide hb
                        clear hb
                        by_cases hlt : i < N
                        · obtain ⟨e1, he1⟩ : ∃ e1, L[i]? = some e1 := ⟨L[i]'(by have := HN.out; omega), List.getElem?_eq_getElem (by have := HN.out; omega)⟩
                          have hml := Mi_len L n i (by have := HN.out; omega)
                          obtain ⟨g, cap, hv, hBg⟩ := OwE.form hown (by rw [hml, ← HN.out]; omega)
                          rw [hml, ← HN.out] at hv
                          injection hv with hv1 _ hv3
                          subst hv1 hv3
                          have hown2 : OwE wr x6.heap.size (.slice (some ⟨g, 0, none⟩) (Mi L n i).length cm) (Mi L n i) := by rw [hml, ← HN.out]; exact hown
                          obtain ⟨⟨c0, f0⟩, hput⟩ := OwE.turned hown2 (Mi_at he1)
                          have hp := Hps.out e1 (List.mem_of_getElem? he1)
                          have hnx := Mi_next (n := n) he1
                          have hput2 := hput (e1.pos + n - n)
                          rw [← hnx, hml, ← HN.out] at hput2
                          rw [Int.add_sub_cancel] at hput2
                          have Hput := hide hput2
                          have HBg := hide hBg
                          have hp0 : 0 ≤ e1.pos := hp.1
                          have hp1 : e1.pos ≤ 12 := by have := hp.2.1; omega
                          simp only at c0
                          clear hown hown2 hput hput2 hnx hml hp he1 hBg
                          go_wp2
                          exact ⟨⟨i + 1, by omega, by go_num, Hput.out, below_put Hb.out HBg.out _⟩, by simp [intOf]; omega⟩
                        · obtain rfl : N = i := by omega
                          rw [HN.out, Mi_last, ← HN.out] at hown
                          obtain ⟨A3, c3, hv, hes⟩ := OwE.es hown
                          rw [← HN.out] at hv
                          injection hv with hv1 _ hv3
                          subst hv1 hv3
                          have Hes := hide hes
                          have He9 := hide (He8.out.keep Hb.out)
                          have Hb10 := hide (Hb8.out.trans (Hb.out.mono Hb8.out.size))
                          clear hown hes
                          go_wp2_with fail
                          rw [HN.out]
                          refine (same_any L Al Am cl cm wr He9.out Hes.out (by have := HN.out; omega) (fun e he => by have := Hsz.out e he; have := Hsm.out.1; omega)).mono ?_
                          rintro r w11 ⟨rfl, hb11⟩
                          have Hb11 := hide (Hb10.out.trans (hb11.mono Hb10.out.size))
                          clear hb11
                          rw [← HN.out]
                          go_wp2
                          go_ret
                          exact ⟨rfl, Hb11.out⟩
    · have db : decide (12 < (b.length : Int)) = true := by simp; omega
      go_enter Try.func9, Try.ntmps9
      go_wp2_with fail
      refine (awake_any w).mono ?_
      rintro y w1 ⟨rfl, hb1⟩
      go_wp2
      go_ret
      exact ⟨rfl, hb1⟩
  · have da : decide (12 < (a.length : Int)) = true := by simp; omega
    go_enter Try.func9, Try.ntmps9
    go_wp2_with fail
    refine (awake_any w).mono ?_
    rintro y w1 ⟨rfl, hb1⟩
    go_wp2
    go_ret
    exact ⟨rfl, hb1⟩
end Go.Proofs.Ytcilenppjpnaoaa.Df
