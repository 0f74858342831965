/-
  hunk.Make.
-/
import Derived.Test.YtnehgogajghefaaGreatDoorHM
namespace Go.Proofs.YtnehgogajghefaaGreatDoor.Hu
open Go Go.RowKit Kt Lw Li Df

theorem size_app_le (L : List Ed) (k : Nat) : size (L.drop k) ≤ size L := by
  have h := size_append (L.take k) (L.drop k)
  rw [List.take_append_drop] at h
  have := size_pos (L.take k)
  omega
theorem right_bd (n : Nat) : ∀ (L : List Ed) (last : Int), right n last L = true → -1 ≤ last → ∀ x ∈ L, (0 ≤ x.pos ∧ x.pos ≤ n) ∧ (0 ≤ x.del ∧ x.del ≤ n)
  | [], _, _, _, x, h => by cases h
  | e :: l, last, hr, hl, x, hx => by
    obtain ⟨p, d, ep, ed, hpd, hlp, hne, hr'⟩ := right_head hr hl
    rcases List.mem_cons.1 hx with rfl | hx
    · rw [ep, ed]; omega
    · exact right_bd n l _ hr' (by omega) x hx
set_option maxHeartbeats 2000000 in
set_option maxRecDepth 100000 in
theorem make_yes (a : Ls) (r : Nat) (L : List Ed) (A A' : Option Addr) (c c' : Nat) (P : Nat → Prop) (w : World) (hs : Vs w P A c (texts a)) (hs' : Es w A' c' L) (hn : a.length ≤ 10000) (hl : L.length ≤ 10000) (hr1 : r ≤ 1000)
    (hsz : size L ≤ 10000) (hr : right a.length (-1) L = true) (hxa : ∀ x ∈ a, x.length ≤ 9223372036854775806) (hxe : ∀ e ∈ L, ∀ x ∈ e.ins, x.length ≤ 9223372036854775806) :
    Calls Tryz.prog 7 #[.slice A a.length c, .slice A' L.length c', .int .i64 r] w fun y w' => ∃ v, y = .returned (.tuple #[v, .int .i64 0]) ∧ OwH w' w.heap.size v (mkHs a r 0 L) ∧ Below w.heap.size w w' := by
  have Hs := hide hs.bound
  have Hs' := hide hs'
  have HRt := hide (fun w1 (hb1 : Below w.heap.size w w1) => right_any a.length L A' c' w1 (hs'.keep hb1) (by omega) (by omega) (by omega))
  rw [hr] at HRt
  have Hr := hide hr
  have Hsz := hide hsz
  have HxA := hide hxa
  have HxE := hide hxe
  have Hn := hide hn
  obtain ⟨n, hna⟩ : ∃ n, n = a.length := ⟨_, rfl⟩
  obtain ⟨N, hN⟩ : ∃ N, N = L.length := ⟨_, rfl⟩
  rw [← hN] at hl HRt ⊢
  rw [← hna] at hn HRt ⊢
  have HN := hide hN
  have HA := hide hna
  clear hs hs' hr hsz hxa hxe hN hna
  go_enter Tryz.func7, Tryz.ntmps7
  go_wp2_with fail
  refine (HRt.out w (Below.refl _ _)).mono ?_
  rintro y w1 ⟨rfl, hb1⟩
  have Hb1 := hide hb1
  clear hb1 HRt
  go_wp2
  go_loopw [8, 9, 10] (fun v m l wr => ∃ (done : List Hk) (todo : List Ed) (k : Nat) (more last : Int) (A2 : Option Addr) (c2 t : Nat) (v0 : Value), v0 = v ∧ l = .slice A2 t c2 ∧ m = .int .i64 more ∧ t = todo.length ∧ todo = L.drop k ∧ done.length + t ≤ N ∧ (-20000 * (done.length : Int) ≤ more ∧ more ≤ 20000 * done.length) ∧ -1 ≤ last ∧ right a.length last todo = true ∧ Es w A2 c2 todo ∧
    done ++ mkHs a r more todo = mkHs a r 0 L ∧ OwH wr w.heap.size v0 done ∧ Below w.heap.size w wr) (fun _ _ l _ => slenH l)
  case atStart => exact ⟨[], L, 0, 0, -1, _, _, _, _, rfl, rfl, rfl, HN.out, rfl, by simp, by simp, by omega, Hr.out, Hs'.out, rfl, OwH.nil _ _, Hb1.out⟩
  case round =>
    obtain ⟨done, todo, k, more, last, A2, c2, t, v, rfl, rfl, rfl, ht, htd, hdn, hmore, hlast, hrt, hes, hpre, hown, hb⟩ := hrel
    have Hb := hide hb
    have Hown := hide hown
    have Hpre := hide hpre
    clear hb hown hpre
    cases todo with
    | nil =>
      obtain rfl : t = 0 := ht
      have Hf := hide (show done = mkHs a r 0 L by rw [← Hpre.out, mkHs_nil, List.append_nil])
      clear hes hrt hmore htd hdn
      go_wp2
      go_ret2
      exact ⟨_, rfl, by rw [← Hf.out]; exact Hown.out, Hb.out⟩
    | cons e l =>
      have hbd := right_bd a.length (e :: l) last hrt hlast
      have hsl := spl_len r l e
      have hse := spl_eq r l e
      obtain ⟨m, hm⟩ : ∃ m, m = (spl r e l).1.length + 1 := ⟨_, rfl⟩
      have htk : (e :: l).take m = e :: (spl r e l).1 := by
        rw [hm, List.take_succ_cons]
        have := List.take_left (l₁ := (spl r e l).1) (l₂ := (spl r e l).2)
        rw [hse] at this
        rw [this]
      have hdr : (e :: l).drop m = (spl r e l).2 := by
        rw [hm, List.drop_succ_cons]
        have := List.drop_left (l₁ := (spl r e l).1) (l₂ := (spl r e l).2)
        rwa [hse] at this
      obtain ⟨b, o, rfl, _⟩ := hes.2 (by simp)
      have hcap := hes.1
      rw [← ht] at hcap
      have hmt : m ≤ t := by rw [ht, hm, List.length_cons]; omega
      have hm1 : 1 ≤ m := by omega
      have hmem : ∀ x ∈ e :: l, x ∈ L := fun x hx => by rw [htd] at hx; exact List.mem_of_mem_drop hx
      have hszt : size (e :: l) ≤ 10000 := by have := size_app_le L k; rw [← htd] at this; have := Hsz.out; omega
      have hsplit : (e :: (spl r e l).1) ++ (spl r e l).2 = e :: l := by rw [List.cons_append, hse]
      obtain ⟨rg, rt, _, _⟩ := right_app a.length (e :: (spl r e l).1) (spl r e l).2 last (by rw [hsplit]; exact hrt) hlast
      have hszg : size (e :: (spl r e l).1) ≤ 10000 := by
        have := size_append (e :: (spl r e l).1) (spl r e l).2
        rw [hsplit] at this
        have := size_pos (spl r e l).2
        omega
      have hesg := es_take hes m
      rw [htk] at hesg
      have hesd := es_drop hes m (by rw [← ht]; exact hmt)
      rw [hdr] at hesd
      have hgl : (e :: (spl r e l).1).length = m := by rw [hm]; rfl
      have hdl : (spl r e l).2.length = t - m := by rw [ht, List.length_cons]; omega
      have Htog := hide (fun w1 (hb1 : Below w.heap.size w w1) => together_any r e l (some ⟨b, o, none⟩) c2 w1 (hes.keep hb1) (by rw [← ht]; omega) hr1 (fun x hx => by have := hbd x hx; have := Hn.out; omega))
      rw [← ht, ← hm] at Htog
      have hrun0 := fun w => run_cutE0 w b o t c2 m (by omega)
      have hrun1 := fun w => run_cutE1 w b o t c2 m hmt hcap
      obtain ⟨A3, hA3⟩ : ∃ A3, (if c2 = m then some (⟨b, o, none⟩ : Addr) else some ⟨b, o + m * 3, none⟩) = A3 := ⟨_, rfl⟩
      obtain ⟨c3, hc3⟩ : ∃ c3, c2 - m = c3 := ⟨_, rfl⟩
      obtain ⟨t3, ht3⟩ : ∃ t3, t - m = t3 := ⟨_, rfl⟩
      rw [hA3, hc3] at hesd
      rw [ht3] at hdl
      simp only [hA3, hc3, ht3] at hrun1
      obtain ⟨z, hz⟩ : ∃ z, z = from_ r e := ⟨_, rfl⟩
      obtain ⟨pp, hpp⟩ : ∃ pp, pp = pts a r z (e :: (spl r e l).1) := ⟨_, rfl⟩
      have Hone := hide (fun w1 (hb1 : Below w.heap.size w w1) => one_any a r e (spl r e l).1 last A (some ⟨b, o, none⟩) c c2 _ w1 (Lw.Vs.below Hs.out hb1) (hesg.keep hb1) Hn.out (by rw [hgl]; omega) hr1 hszg rg hlast HxA.out (fun x hx => HxE.out x (hmem x (by
        rw [← hsplit]; exact List.mem_append_left _ hx))) z hz)
      rw [hgl, ← HA.out, ← hpp] at Hone
      have hzb : (z : Int) ≤ 10000 := by
        have := hbd e (List.mem_cons_self ..)
        have := Hn.out
        rw [hz]; unfold from_; omega
      obtain ⟨m1, hm1e⟩ : ∃ m1, m1 = many 45 (lay pp) := ⟨_, rfl⟩
      obtain ⟨m2, hm2e⟩ : ∃ m2, m2 = many 43 (lay pp) := ⟨_, rfl⟩
      have hmb : m1 ≤ 20000 ∧ m2 ≤ 20000 := by
        obtain ⟨p, d, ep, ed, hpd, hlp, hne, hr'⟩ := right_head rg hlast
        have hzl := from_le r e p ep
        have h1 := pts_len a r (e :: (spl r e l).1) z last rg hlast (by omega)
        have h2 := pts_old a r (e :: (spl r e l).1) z last rg hlast (.inr fun e' t' h => by
          injection h with h1 _
          rw [← h1, ep]; omega) (by omega)
        rw [← hpp] at h1 h2
        have h3 := many_le 45 (lay pp)
        have h4 := many_le 43 (lay pp)
        have := Hn.out
        omega
      rw [← hm1e, ← hm2e] at Hone
      have Hpre2 := hide (show (done ++ [⟨z, m1, z + more, m2, lay pp⟩]) ++ mkHs a r (more + ((m2 : Int) - m1)) (spl r e l).2 = mkHs a r 0 L by
        rw [← Hpre.out, mkHs_cons]
        simp only [oneH]
        rw [← hz, ← hpp, ← hm1e, ← hm2e, List.append_assoc]
        rfl)
      have Hdrop := hide (show (spl r e l).2 = L.drop (k + m) by rw [← hdr, htd, List.drop_drop])
      obtain ⟨T2, hT2⟩ : ∃ T2, T2 = (spl r e l).2 := ⟨_, rfl⟩
      rw [← hT2] at hesd hdl rt Hpre2 Hdrop
      have Hesd := hide hesd
      have Hdl := hide hdl
      have Hrt := hide rt
      have Hlf := hide (show -1 ≤ lastF last (e :: (spl r e l).1) from by
        have := (right_app a.length (e :: (spl r e l).1) [] last (by rw [List.append_nil]; exact rg) hlast).2.2.1
        omega)
      obtain ⟨lf, hlf⟩ : ∃ lf, lf = lastF last (e :: (spl r e l).1) := ⟨_, rfl⟩
      rw [← hlf] at Hlf Hrt
      have Hdn := hide (show done.length + t ≤ N ∧ t3 + m = t from ⟨hdn, by omega⟩)
      have Hmore := hide hmore
      have hmore2 : -200000000 ≤ more ∧ more ≤ 200000000 := by omega
      have Hdn2 := hide (show done.length ≤ 10000 by omega)
      clear hbd hsl hse hm htk hdr hes hmem hszt hsplit rg rt hszg hesg hesd hgl hdl hA3 hc3 ht3 hz hpp hm1e hm2e hT2 hlf ht htd hdn hrt hlast hmore Hpre
      have hw1 : IntKind.i64.wrap ((z : Int) + more) = (z : Int) + more := IntWalk.i64_in _ (by omega)
      have hw2 : IntKind.i64.wrap ((m2 : Int) - m1) = (m2 : Int) - m1 := IntWalk.i64_in _ (by omega)
      have hw3 : IntKind.i64.wrap (more + ((m2 : Int) - m1)) = more + ((m2 : Int) - m1) := IntWalk.i64_in _ (by omega)
      go_wp2_with fail
      refine (Htog.out wr Hb.out).mono ?_
      rintro y w2 ⟨rfl, hb2⟩
      have Hb2 := hide (Hb.out.trans (hb2.mono Hb.out.size))
      have Hown2 := hide (Hown.out.keep hb2)
      clear hb2
      go_wp2_with fail
      refine (Hone.out w2 Hb2.out).mono ?_
      rintro y w3 ⟨v1, rfl, hv1, hb3⟩
      obtain ⟨Av, nv, cv, rfl⟩ := owt_form hv1
      have Hb3 := hide (Hb2.out.trans (hb3.mono Hb2.out.size))
      have Hown3 := hide (Hown2.out.keep hb3)
      have Hv1 := hide (owt_base hv1 Hb2.out.size)
      clear hb3 hv1
      obtain ⟨wd, hwd⟩ : ∃ wd, wd = w3.alloc (.cells #[.int .i64 (z : Int), .int .i64 (m1 : Int), .int .i64 ((z : Int) + more), .int .i64 (m2 : Int), .slice Av nv cv] tH) := ⟨_, rfl⟩
      have hbd : Below w3.heap.size w3 wd := by rw [hwd]; exact (Below.refl _ w3).alloc (Nat.le_refl _) _
      have Hbd := hide (Hb3.out.trans (hbd.mono Hb3.out.size))
      have Hownd := hide (Hown3.out.keep hbd)
      have Hvd := hide (Hv1.out.kept hbd)
      have Hsz2 := hide (show w3.heap.size + 1 = wd.heap.size by rw [hwd]; simp)
      have HWd := hide hwd
      clear hbd hwd
      go_wp2_with (rw [← HWd.out]; refine wpList_pushH rfl (.tmp 51) (.tmp 53) rfl w.heap.size w v (.slice Av nv cv) done ⟨z, m1, z + more, m2, lay pp⟩ _ rfl (by rw [← Hsz2.out]; rfl) rfl Hownd.out Hvd.out (by have := Hdn2.out; omega) Hbd.out Hbd.out.size ?_; intro v4 w4 hown4 hb4 _)
      have hd := Hdn.out
      have hm := Hmore.out
      exact ⟨⟨_, T2, k + m, _, lf, A3, c3, t3, _, rfl, rfl, rfl, Hdl.out.symm, Hdrop.out, by rw [List.length_append, List.length_singleton]; omega, by rw [List.length_append, List.length_singleton]; push_cast; omega, Hlf.out, Hrt.out, Hesd.out, Hpre2.out, hown4, hb4⟩, by simp only [slenH]; omega⟩

set_option maxHeartbeats 1000000 in
set_option maxRecDepth 100000 in
theorem make_no (m : Nat) (r : Int) (L : List Ed) (A A' : Option Addr) (c c' : Nat) (w : World) (hs' : Es w A' c' L) (hn : m ≤ 1000000) (hl : L.length ≤ 1000000) (hr : ¬ (0 ≤ r ∧ r ≤ 1000 ∧ right m (-1) L = true)) :
    Calls Tryz.prog 7 #[.slice A m c, .slice A' L.length c', .int .i64 r] w fun y w' => y = .returned (.tuple #[.slice none 0 0, .int .i64 1]) ∧ Below w.heap.size w w' := by
  have HRt := hide (right_any m L A' c' w hs' hl (by omega) (by omega))
  obtain ⟨N, hN⟩ : ∃ N, N = L.length := ⟨_, rfl⟩
  rw [← hN] at hl HRt ⊢
  clear hs' hN
  by_cases h1 : r < 0
  · have d1 : decide (r < 0) = true := decide_eq_true h1
    clear HRt hr h1
    go_enter Tryz.func7, Tryz.ntmps7
    go_wp2
    go_ret2
    exact ⟨rfl, Below.refl _ _⟩
  have d1 : decide (r < 0) = false := decide_eq_false h1
  by_cases h2 : 1000 < r
  · have d2 : decide (1000 < r) = true := decide_eq_true h2
    clear HRt hr h1 h2
    go_enter Tryz.func7, Tryz.ntmps7
    go_wp2
    go_ret2
    exact ⟨rfl, Below.refl _ _⟩
  have d2 : decide (1000 < r) = false := decide_eq_false h2
  have hrf : right m (-1) L = false := by
    cases h : right m (-1) L with
    | false => rfl
    | true => exact absurd ⟨by omega, by omega, h⟩ hr
  rw [hrf] at HRt
  clear hr h1 h2 hrf
  go_enter Tryz.func7, Tryz.ntmps7
  go_wp2_with fail
  refine HRt.out.mono ?_
  rintro y w1 ⟨rfl, hb1⟩
  go_wp2
  go_ret2
  exact ⟨rfl, hb1⟩
end Go.Proofs.YtnehgogajghefaaGreatDoor.Hu
