/-
  The statement HunkMakes, walked, from what the reference's Make does with right edits.
-/
import Derived.Test.YtiegkfjipcgheaaHN
import Derived.Test.YtiegkfjipcgheaaHP
import Derived.Test.YtiegkfjipcgheaaHS
import Derived.Test.YtiegkfjipcgheaaEQ
import Derived.Test.YtiegkfjipcgheaaIF
import Derived.Test.YtiegkfjipcgheaaIE
namespace Go.Proofs.Ytiegkfjipcgheaa.Hu
open Go Go.RowKit Kt Lw Li Df

theorem few_size (n : Nat) : ∀ (g : List Ed) (last : Int), right n last g = true → -1 ≤ last → last ≤ n → (∀ e ∈ g, e.ins.length ≤ 20) → size g ≤ n - last + 20 * g.length
  | [], last, _, _, hn, _ => by rw [size]; simp; omega
  | e :: g, last, hr, hl, _, hi => by
    obtain ⟨p, d, ep, ed, hpd, hlp, hne, hr'⟩ := right_head hr hl
    have h1 := few_size n g _ hr' (by omega) (by omega) (fun e he => hi e (List.mem_cons_of_mem _ he))
    have h2 := hi e List.mem_cons_self
    rw [size, ed, List.length_cons]
    omega
set_option maxHeartbeats 1000000 in
set_option maxRecDepth 100000 in
theorem refMake_no (m : Nat) (r : Int) (L : List Ed) (A A' : Option Addr) (c c' : Nat) (w : World) (hs' : Es w A' c' L) (hn : m ≤ 1000000) (hl : L.length ≤ 1000000) (hr : ¬ (0 ≤ r ∧ r ≤ 1000 ∧ right m (-1) L = true)) :
    Calls Try.prog 17 #[.slice A m c, .slice A' L.length c', .int .i64 r] w fun y w' => y = .returned (.tuple #[.slice none 0 0, .int .i64 1]) ∧ Below w.heap.size w w' := by
  have HRt := hide (Df.refRight_any m L A' c' w hs' hl (by omega) (by omega))
  obtain ⟨N, hN⟩ : ∃ N, N = L.length := ⟨_, rfl⟩
  rw [← hN] at hl HRt ⊢
  clear hs' hN
  cases hrf : right m (-1) L with
  | false =>
    rw [hrf] at HRt
    clear hr hrf
    go_enter Try.func17, Try.ntmps17
    go_wp2_with fail
    refine HRt.out.mono ?_
    rintro y w1 ⟨rfl, hb1⟩
    go_wp2
    go_ret2
    exact ⟨rfl, hb1⟩
  | true =>
    rw [hrf] at HRt
    by_cases h1 : r < 0
    · have d1 : decide (r < 0) = true := decide_eq_true h1
      clear hr h1 hrf
      go_enter Try.func17, Try.ntmps17
      go_wp2_with fail
      refine HRt.out.mono ?_
      rintro y w1 ⟨rfl, hb1⟩
      go_wp2
      go_ret2
      exact ⟨rfl, hb1⟩
    have d1 : decide (r < 0) = false := decide_eq_false h1
    by_cases h2 : 1000 < r
    · have d2 : decide (1000 < r) = true := decide_eq_true h2
      clear hr h1 h2 hrf
      go_enter Try.func17, Try.ntmps17
      go_wp2_with fail
      refine HRt.out.mono ?_
      rintro y w1 ⟨rfl, hb1⟩
      go_wp2
      go_ret2
      exact ⟨rfl, hb1⟩
    exact absurd ⟨by omega, by omega, hrf⟩ hr
/-- what the reference's Make does with right edits -/
def RefYes : Prop := ∀ (a : Ls) (r : Nat) (L : List Ed) (A A' : Option Addr) (c c' : Nat) (P : Nat → Prop) (w : World), Vs w P A c (texts a) → Es w A' c' L → a.length ≤ 24 → L.length ≤ 20 → r ≤ 1000 →
    size L ≤ 1000 → right a.length (-1) L = true → (∀ x ∈ a, x.length ≤ 9223372036854775806) → (∀ e ∈ L, ∀ x ∈ e.ins, x.length ≤ 9223372036854775806) →
    Calls Try.prog 17 #[.slice A a.length c, .slice A' L.length c', .int .i64 r] w fun y w' => ∃ v, y = .returned (.tuple #[v, .int .i64 0]) ∧ OwH w' w.heap.size v (mkHs a r 0 L) ∧ Below w.heap.size w w'
set_option maxHeartbeats 1000000 in
set_option maxRecDepth 100000 in
theorem lawMakes_any (HY : RefYes) (a : Ls) (r : Int) (L : List Ed) (A A' : Option Addr) (c c' : Nat) (P : Nat → Prop) (w : World) (hs : Vs w P A c (texts a)) (hs' : Es w A' c' L) (hxa : ∀ x ∈ a, x.length ≤ 140737488351232) (hxe : ∀ e ∈ L, ∀ x ∈ e.ins, x.length ≤ 140737488351232) (hal : a.length ≤ 9223372036854775807) (hl : L.length ≤ 9223372036854775807) :
    Calls Try.prog 4 #[.slice A a.length c, .slice A' L.length c', .int .i64 r] w fun y w' => y = .returned (.bool true) ∧ Below w.heap.size w w' := by
  have Ha := hide hs.bound
  have He := hide hs'
  have HFw := hide (fun w1 (hb1 : Below w.heap.size w w1) => Df.few_any L A' c' w1 (hs'.keep hb1) hl)
  clear hs hs'
  cases hf : fewL L with
  | false =>
    rw [hf] at HFw
    obtain ⟨n, hn⟩ : ∃ n, n = L.length := ⟨_, rfl⟩
    obtain ⟨m, hm⟩ : ∃ m, m = a.length := ⟨_, rfl⟩
    rw [← hn] at HFw ⊢
    rw [← hm]
    clear Ha He hxa hxe hal hl hf hn hm HY
    go_enter Try.func4, Try.ntmps4
    go_wp2_with fail
    refine (awake_any w).mono ?_
    rintro y w1 ⟨rfl, hb1⟩
    go_wp2_with fail
    refine (HFw.out w1 hb1).mono ?_
    rintro y w2 ⟨rfl, hb2⟩
    have hb3 := hb1.trans (hb2.mono hb1.size)
    clear hb1 hb2
    go_wp2
    go_ret
    exact ⟨rfl, hb3⟩
  | true =>
    rw [hf] at HFw
    obtain ⟨hfe, hf20⟩ := fewL_spec hf
    by_cases ha : 24 < a.length
    · have da : decide (24 < (a.length : Int)) = true := decide_eq_true (by omega)
      have da2 : decide (24 < a.length) = true := decide_eq_true ha
      obtain ⟨n, hn⟩ : ∃ n, n = L.length := ⟨_, rfl⟩
      obtain ⟨m, hm⟩ : ∃ m, m = a.length := ⟨_, rfl⟩
      rw [← hn] at HFw ⊢
      rw [← hm] at da da2 ⊢
      clear Ha He hxa hxe hal hl hf hn hm HY hfe hf20 ha
      go_enter Try.func4, Try.ntmps4
      go_wp2_with fail
      refine (awake_any w).mono ?_
      rintro y w1 ⟨rfl, hb1⟩
      go_wp2_with fail
      refine (HFw.out w1 hb1).mono ?_
      rintro y w2 ⟨rfl, hb2⟩
      have hb3 := hb1.trans (hb2.mono hb1.size)
      clear hb1 hb2
      go_wp2
      go_ret
      exact ⟨rfl, hb3⟩
    have da : decide (24 < (a.length : Int)) = false := decide_eq_false (by omega)
    have da2 : decide (24 < a.length) = false := decide_eq_false ha
    have ha24 : a.length ≤ 24 := by omega
    by_cases hr : 0 ≤ r ∧ r ≤ 1000 ∧ right a.length (-1) L = true
    · obtain ⟨hr0, hr1, hrt⟩ := hr
      obtain ⟨k, rfl⟩ := Int.eq_ofNat_of_zero_le hr0
      have hk : k ≤ 1000 := by omega
      have hsz := few_size a.length L (-1) hrt (by omega) (by omega) (fun e he => (hfe e he).2.2)
      have hsz1 : size L ≤ 1000 := by omega
      have HM := hide (fun w1 (h1 : Vs w1 (fun b => b < w1.heap.size) A c (texts a)) (h2 : Es w1 A' c' L) => make_yes a k L A A' c c' _ w1 h1 h2 (by omega) (by omega) hk (by omega) hrt (fun x hx => Nat.le_trans (hxa x hx) (by omega)) (fun e he x hx => Nat.le_trans (hxe e he x hx) (by omega)))
      have HR := hide (fun w1 (h1 : Vs w1 (fun b => b < w1.heap.size) A c (texts a)) (h2 : Es w1 A' c' L) => HY a k L A A' c c' _ w1 h1 h2 ha24 hf20 hk hsz1 hrt (fun x hx => Nat.le_trans (hxa x hx) (by omega)) (fun e he x hx => Nat.le_trans (hxe e he x hx) (by omega)))
      have hle := mk_le a k 0 L
      have HS := hide (fun A1 c1 A2 c2 w1 (h1 : Hks w1 A1 c1 (mkHs a k 0 L)) (h2 : Hks w1 A2 c2 (mkHs a k 0 L)) => hsame_any (mkHs a k 0 L) A1 A2 c1 c2 w1 h1 h2 (by omega) (fun h hh => by
        have := (mk_bounds a k 140737488351232 hxa L.length L 0 (-1) (Nat.le_refl _) hrt (by omega) hxe h hh).1
        omega))
      generalize mkHs a k 0 L = HL at *
      obtain ⟨n, hn⟩ : ∃ n, n = L.length := ⟨_, rfl⟩
      obtain ⟨m, hm⟩ : ∃ m, m = a.length := ⟨_, rfl⟩
      rw [← hn] at HFw HM HR ⊢
      rw [← hm] at da da2 HM HR ⊢
      clear hxa hxe hal hl hf hn hm HY hfe hf20 ha ha24 hrt hsz hsz1 hle hr0 hr1
      go_enter Try.func4, Try.ntmps4
      go_wp2_with fail
      refine (awake_any w).mono ?_
      rintro y w1 ⟨rfl, hb1⟩
      go_wp2_with fail
      refine (HFw.out w1 hb1).mono ?_
      rintro y w2 ⟨rfl, hb2⟩
      have hb3 := hb1.trans (hb2.mono hb1.size)
      have Ha2 := hide (vs_keep Ha.out hb3)
      have He2 := hide (He.out.keep hb3)
      have Hb3 := hide hb3
      clear hb1 hb2 hb3
      go_wp2_with fail
      refine (HM.out w2 Ha2.out He2.out).mono ?_
      rintro y w3 ⟨v, rfl, hv, hb4⟩
      obtain ⟨A1, c1, rfl, hk1⟩ := hv.hks
      have Ha3 := hide (vs_keep Ha2.out hb4)
      have He3 := hide (He2.out.keep hb4)
      have Hb4 := hide (Hb3.out.trans (hb4.mono Hb3.out.size))
      have Hk1 := hide hk1
      clear hb4 hv hk1
      go_wp2_with fail
      refine (HR.out w3 Ha3.out He3.out).mono ?_
      rintro y w4 ⟨v, rfl, hv, hb5⟩
      obtain ⟨A2, c2, rfl, hk2⟩ := hv.hks
      have Hb5 := hide (Hb4.out.trans (hb5.mono Hb4.out.size))
      have HS4 := hide (HS.out A1 c1 A2 c2 w4 (Hk1.out.keep hb5) hk2)
      clear hb5 hv hk2
      go_wp2_with fail
      refine HS4.out.mono ?_
      rintro y w5 ⟨rfl, hb6⟩
      have hb7 := Hb5.out.trans (hb6.mono Hb5.out.size)
      clear hb6
      go_wp2
      go_ret
      exact ⟨rfl, hb7⟩
    · have HM := hide (fun w1 (h2 : Es w1 A' c' L) => make_no a.length r L A A' c c' w1 h2 (by omega) (by omega) hr)
      have HR := hide (fun w1 (h2 : Es w1 A' c' L) => refMake_no a.length r L A A' c c' w1 h2 (by omega) (by omega) hr)
      obtain ⟨n, hn⟩ : ∃ n, n = L.length := ⟨_, rfl⟩
      obtain ⟨m, hm⟩ : ∃ m, m = a.length := ⟨_, rfl⟩
      rw [← hn] at HFw HM HR ⊢
      rw [← hm] at da da2 HM HR ⊢
      clear hxa hxe hal hl hf hn hm HY hfe hf20 ha ha24 hr
      go_enter Try.func4, Try.ntmps4
      go_wp2_with fail
      refine (awake_any w).mono ?_
      rintro y w1 ⟨rfl, hb1⟩
      go_wp2_with fail
      refine (HFw.out w1 hb1).mono ?_
      rintro y w2 ⟨rfl, hb2⟩
      have hb3 := hb1.trans (hb2.mono hb1.size)
      have He2 := hide (He.out.keep hb3)
      have Hb3 := hide hb3
      clear hb1 hb2 hb3
      go_wp2_with fail
      refine (HM.out w2 He2.out).mono ?_
      rintro y w3 ⟨rfl, hb4⟩
      have He3 := hide (He2.out.keep hb4)
      have Hb4 := hide (Hb3.out.trans (hb4.mono Hb3.out.size))
      clear hb4
      go_wp2_with fail
      refine (HR.out w3 He3.out).mono ?_
      rintro y w4 ⟨rfl, hb5⟩
      have Hb5 := hide (Hb4.out.trans (hb5.mono Hb4.out.size))
      clear hb5
      go_wp2_with fail
      refine (hsame_any [] none none 0 0 w4 (Hks.nil _ _ _) (Hks.nil _ _ _) (by simp) (by simp)).mono ?_
      rintro y w5 ⟨rfl, hb6⟩
      have hb7 := Hb5.out.trans (hb6.mono Hb5.out.size)
      clear hb6
      go_wp2
      go_ret
      exact ⟨rfl, hb7⟩
end Go.Proofs.Ytiegkfjipcgheaa.Hu
