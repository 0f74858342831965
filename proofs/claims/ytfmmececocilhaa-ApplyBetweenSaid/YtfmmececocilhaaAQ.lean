/-
  The statement ApplyBetween, walked.
-/
import Derived.Test.YtfmmececocilhaaBJ
import Derived.Test.YtfmmececocilhaaID
import Derived.Test.YtfmmececocilhaaFH
namespace Go.Proofs.Ytfmmececocilhaa.Ap
open Go Go.RowKit Kt Lw Li Df Hu

def dels : List Ed → Int
  | [] => 0
  | e :: l => e.del + dels l
def inss : List Ed → Int
  | [] => 0
  | e :: l => e.ins.length + inss l
theorem size_parts (n : Nat) : ∀ (l : List Ed) (last : Int), right n last l = true → -1 ≤ last → size l = dels l + inss l
  | [], _, _, _ => rfl
  | e :: l, last, hr, hl => by
    obtain ⟨p, d, ep, ed, hpd, hlp, _, hr'⟩ := right_head hr hl
    rw [size, dels, inss, size_parts n l _ hr' (by omega), ed]
    omega
theorem dels_le (n : Nat) : ∀ (l : List Ed) (last : Int), right n last l = true → -1 ≤ last → last ≤ n → dels l + l.length + last ≤ n
  | [], last, _, _, h => by rw [dels, List.length_nil]; omega
  | e :: l, last, hr, hl, _ => by
    obtain ⟨p, d, ep, ed, hpd, hlp, _, hr'⟩ := right_head hr hl
    have ih := dels_le n l _ hr' (by omega) (by omega)
    rw [dels, List.length_cons, ed]
    omega
theorem play_len (a : Ls) : ∀ (l : List Ed) (z : Nat) (last : Int), right a.length last l = true → -1 ≤ last → (z : Int) ≤ last + 1 → z ≤ a.length → ((play a z l).length : Int) + dels l = a.length - z + inss l
  | [], z, last, _, _, _, hz => by rw [play, dels, inss, List.length_drop]; omega
  | e :: l, z, last, hr, hl, hzl, hz => by
    obtain ⟨p, d, ep, ed, hpd, hlp, _, hr'⟩ := right_head hr hl
    have ih := play_len a l (p + d) _ hr' (by omega) (by omega) hpd
    rw [play, ep, ed, dels, inss]
    simp only [Int.toNat_natCast]
    rw [List.length_append, List.length_append, List.length_take, List.length_drop, ed]
    omega
theorem edits_few (a b : Ls) (ha : a.length ≤ 24) (hb : b.length ≤ 24) : (D a b).length ≤ 20 := by
  have hr := D_right a b
  have h1 := dels_le a.length (D a b) (-1) hr (by omega) (by omega)
  have h2 := play_len a (D a b) 0 (-1) hr (by omega) (by omega) (Nat.zero_le _)
  rw [D_play] at h2
  have h3 := right_len _ _ _ (by omega) hr
  have h4 := size_parts _ (D a b) _ hr (by omega)
  omega
set_option maxRecDepth 100000 in
set_option maxHeartbeats 2000000 in
theorem between_long (n k : Nat) (r : Int) (A A' : Option Addr) (c c' : Nat) (w : World) (h : 24 < n ∨ 24 < k) :
    Calls Try.prog 4 #[.slice A n c, .slice A' k c', .int .i64 r] w fun y w' => y = .returned (.bool true) ∧ Below w.heap.size w w' := by
  have Haw := hide (awake_any w)
  by_cases h1 : 24 < n
  · have d1 : decide ((24 : Int) < (n : Int)) = true := decide_eq_true (by omega)
    clear h
    go_enter Try.func4, Try.ntmps4
    go_wp2_with fail
    refine Haw.out.mono ?_
    rintro y w1 ⟨rfl, hb1⟩
    go_wp2
    go_ret
    exact ⟨rfl, hb1⟩
  · have d1 : decide ((24 : Int) < (n : Int)) = false := decide_eq_false (by omega)
    have d2 : decide ((24 : Int) < (k : Int)) = true := decide_eq_true (by omega)
    clear h
    go_enter Try.func4, Try.ntmps4
    go_wp2_with fail
    refine Haw.out.mono ?_
    rintro y w1 ⟨rfl, hb1⟩
    go_wp2
    go_ret
    exact ⟨rfl, hb1⟩
set_option maxRecDepth 100000 in
set_option maxHeartbeats 2000000 in
theorem lawBetween_any (a b : Ls) (r : Int) (A A' : Option Addr) (c c' : Nat) (P P' : Nat → Prop) (w : World) (hs : Vs w P A c (texts a)) (hs' : Vs w P' A' c' (texts b)) (_hri : -9223372036854775808 ≤ r ∧ r ≤ 9223372036854775807)
    (hxa : ∀ x ∈ a, x.length ≤ 140737488351232) (hxb : ∀ x ∈ b, x.length ≤ 140737488351232) :
    Calls Try.prog 4 #[.slice A a.length c, .slice A' b.length c', .int .i64 r] w fun y w' => y = .returned (.bool true) ∧ Below w.heap.size w w' := by
  by_cases hlen : 24 < a.length ∨ 24 < b.length
  · exact between_long a.length b.length r A A' c c' w hlen
  have ha : a.length ≤ 24 := by omega
  have hb : b.length ≤ 24 := by omega
  have hfew := edits_few a b ha hb
  have hsm := D_small a b (by omega) (by omega)
  have Haw := hide (awake_any w)
  have HD := hide (fun w1 (hb1 : Below w.heap.size w w1) => refDiff_any a b A A' c c' _ _ w1 (Lw.Vs.below hs.bound hb1) (Lw.Vs.below hs'.bound hb1) (by omega) (by omega))
  by_cases hr : 0 ≤ r ∧ r ≤ 1000
  · obtain ⟨q, rfl⟩ := Int.eq_ofNat_of_zero_le hr.1
    obtain ⟨f1, f2, f3⟩ := bt_facts a b q (by omega) (by omega) hxa hxb
    obtain ⟨hfi, _, _⟩ := hs_facts a b q (by omega) (by omega) hxa hxb
    have HBt := hide (fun w1 (hb1 : Below w.heap.size w w1) => between_yes a b q A A' c c' _ _ w1 (Lw.Vs.below hs.bound hb1) (Lw.Vs.below hs'.bound hb1) (by omega) (by omega) (by omega) hxa hxb)
    have HM := hide (fun Al cl w1 (hb1 : Below w.heap.size w w1) (h2 : Es w1 Al cl (D a b)) => refMake_yes a q (D a b) A Al c cl _ w1 (Lw.Vs.below hs.bound hb1) h2 ha hfew (by omega) (by omega) (D_right a b) (fun x hx => Nat.le_trans (hxa x hx) (by omega)) hfi)
    obtain ⟨HL, hHL⟩ : ∃ HL, HL = mkHs a q 0 (D a b) := ⟨_, rfl⟩
    rw [← hHL] at f1 f2 HBt HM
    have HSm := hide (fun (w1 : World) (Al Am : Option Addr) (cl cm : Nat) (hk : Hks w1 Al cl HL) (hk2 : Hks w1 Am cm HL) => hsame_any HL Al Am cl cm w1 hk hk2 (by omega) (fun h hh => by have := (f2 h hh).2.1; omega))
    generalize D a b = DL at *
    obtain ⟨n, hn⟩ : ∃ n, n = a.length := ⟨_, rfl⟩
    obtain ⟨k, hk⟩ : ∃ k, k = b.length := ⟨_, rfl⟩
    obtain ⟨m, hm⟩ : ∃ m, m = HL.length := ⟨_, rfl⟩
    obtain ⟨p, hp⟩ : ∃ p, p = DL.length := ⟨_, rfl⟩
    rw [← hn] at HD HBt HM ha ⊢
    rw [← hk] at HD HBt hb ⊢
    rw [← hm] at HSm
    rw [← hp] at HM
    have Hm := hide hm
    have Hp := hide hp
    have d1 : decide ((24 : Int) < (n : Int)) = false := decide_eq_false (by omega)
    have d2 : decide ((24 : Int) < (k : Int)) = false := decide_eq_false (by omega)
    clear hs hs' hxa hxb hlen ha hb hfew hsm hr f1 f2 f3 hfi hHL hn hk hm hp
    go_enter Try.func4, Try.ntmps4
    go_wp2_with fail
    refine Haw.out.mono ?_
    rintro y w1 ⟨rfl, hb1⟩
    have Hb1 := hide hb1
    clear hb1 Haw
    go_wp2_with fail
    refine (HBt.out w1 Hb1.out).mono ?_
    rintro y w2 ⟨v2, rfl, hv2, hb2⟩
    obtain ⟨Al, cl, rfl, hk2⟩ := hv2.hks
    have Hb2 := hide (Hb1.out.trans (hb2.mono Hb1.out.size))
    have Hk2 := hide hk2
    simp only [← Hm.out]
    clear hv2 hb2 hk2 HBt Hb1
    go_wp2_with fail
    refine (HD.out w2 Hb2.out).mono ?_
    rintro y w3 ⟨v3, rfl, hv3, hb3⟩
    obtain ⟨Ae, ce, rfl, he⟩ := OwE.es hv3
    have Hb3 := hide (Hb2.out.trans (hb3.mono Hb2.out.size))
    have Hk3 := hide (Hk2.out.keep hb3)
    have HM3 := hide (HM.out Ae ce w3 Hb3.out he)
    simp only [← Hp.out]
    clear hv3 hb3 he HD HM Hb2 Hk2
    go_wp2_with fail
    refine HM3.out.mono ?_
    rintro y w4 ⟨v4, rfl, hv4, hb4⟩
    obtain ⟨A4, c4, rfl, hk4⟩ := hv4.hks
    have Hb4 := hide (Hb3.out.trans (hb4.mono Hb3.out.size))
    have HS4 := hide (HSm.out w4 Al A4 cl c4 (Hk3.out.keep hb4) hk4)
    simp only [← Hm.out]
    clear hv4 hb4 hk4 HM3 Hb3 Hk3 HSm
    go_wp2_with fail
    refine HS4.out.mono ?_
    rintro y w5 ⟨rfl, hb5⟩
    have Hb5 := hide (Hb4.out.trans (hb5.mono Hb4.out.size))
    clear hb5 HS4 Hb4
    go_wp2
    go_ret
    exact ⟨rfl, Hb5.out⟩
  · have HBt := hide (fun w1 (hb1 : Below w.heap.size w w1) => between_no a b r A A' c c' _ _ w1 (Lw.Vs.below hs.bound hb1) (Lw.Vs.below hs'.bound hb1) (by omega) (by omega) hr)
    have HM := hide (fun Al cl w1 (h2 : Es w1 Al cl (D a b)) => refMake_no a.length r (D a b) A Al c cl w1 h2 (by omega) (by omega) (fun h => hr ⟨h.1, h.2.1⟩))
    have HSm := hide (fun (w1 : World) => hsame_any [] none none 0 0 w1 (Hks.nil _ _ _) (Hks.nil _ _ _) (by simp) (fun h hh => by cases hh))
    generalize D a b = DL at *
    obtain ⟨n, hn⟩ : ∃ n, n = a.length := ⟨_, rfl⟩
    obtain ⟨k, hk⟩ : ∃ k, k = b.length := ⟨_, rfl⟩
    obtain ⟨p, hp⟩ : ∃ p, p = DL.length := ⟨_, rfl⟩
    rw [← hn] at HD HBt HM ha ⊢
    rw [← hk] at HD HBt hb ⊢
    rw [← hp] at HM
    have Hp := hide hp
    have d1 : decide ((24 : Int) < (n : Int)) = false := decide_eq_false (by omega)
    have d2 : decide ((24 : Int) < (k : Int)) = false := decide_eq_false (by omega)
    clear hs hs' hxa hxb hlen ha hb hfew hsm hr hn hk hp
    go_enter Try.func4, Try.ntmps4
    go_wp2_with fail
    refine Haw.out.mono ?_
    rintro y w1 ⟨rfl, hb1⟩
    have Hb1 := hide hb1
    clear hb1 Haw
    go_wp2_with fail
    refine (HBt.out w1 Hb1.out).mono ?_
    rintro y w2 ⟨rfl, hb2⟩
    have Hb2 := hide (Hb1.out.trans (hb2.mono Hb1.out.size))
    clear hb2 HBt Hb1
    go_wp2_with fail
    refine (HD.out w2 Hb2.out).mono ?_
    rintro y w3 ⟨v3, rfl, hv3, hb3⟩
    obtain ⟨Ae, ce, rfl, he⟩ := OwE.es hv3
    have Hb3 := hide (Hb2.out.trans (hb3.mono Hb2.out.size))
    have HM3 := hide (HM.out Ae ce w3 he)
    simp only [← Hp.out]
    clear hv3 hb3 he HD HM Hb2
    go_wp2_with fail
    refine HM3.out.mono ?_
    rintro y w4 ⟨rfl, hb4⟩
    have Hb4 := hide (Hb3.out.trans (hb4.mono Hb3.out.size))
    clear hb4 HM3 Hb3
    go_wp2_with fail
    refine (HSm.out w4).mono ?_
    rintro y w5 ⟨rfl, hb5⟩
    have Hb5 := hide (Hb4.out.trans (hb5.mono Hb4.out.size))
    clear hb5 Hb4
    go_wp2
    go_ret
    exact ⟨rfl, Hb5.out⟩
end Go.Proofs.Ytfmmececocilhaa.Ap
