/-
  The statement HunkMakes, walked, from what the reference's Make does with right edits.
-/
import Derived.Test.YtfmmececocilhaaHN
import Derived.Test.YtfmmececocilhaaHP
import Derived.Test.YtfmmececocilhaaPA
import Derived.Test.YtfmmececocilhaaEQ
import Derived.Test.YtfmmececocilhaaIF
import Derived.Test.YtfmmececocilhaaPZ
namespace Go.Proofs.Ytfmmececocilhaa.Hu
open Go Go.RowKit Kt Lw Li Df

theorem few_size (n : Nat) : ∀ (g : List Ed) (last : Int), right n last g = true → -1 ≤ last → last ≤ n → (∀ e ∈ g, e.ins.length ≤ 20) → size g ≤ n - last + 20 * g.length
  | [], last, _, _, hn, _ => by rw [size]; simp; omega
  | e :: g, last, hr, hl, _, hi => by
    obtain ⟨p, d, ep, ed, hpd, hlp, hne, hr'⟩ := right_head hr hl
    have h1 := few_size n g _ hr' (by omega) (by omega) (fun e he => hi e (List.mem_cons_of_mem _ he))
    have h2 := hi e List.mem_cons_self
    rw [size, ed, List.length_cons]
    omega
set_option maxHeartbeats 1000000 in
set_option maxRecDepth 100000 in
theorem refMake_no (m : Nat) (r : Int) (L : List Ed) (A A' : Option Addr) (c c' : Nat) (w : World) (hs' : Es w A' c' L) (hn : m ≤ 1000000) (hl : L.length ≤ 1000000) (hr : ¬ (0 ≤ r ∧ r ≤ 1000 ∧ right m (-1) L = true)) :
    Calls Try.prog 21 #[.slice A m c, .slice A' L.length c', .int .i64 r] w fun y w' => y = .returned (.tuple #[.slice none 0 0, .int .i64 1]) ∧ Below w.heap.size w w' := by
  have HRt := hide (Df.refRight_any m L A' c' w hs' hl (by omega) (by omega))
  obtain ⟨N, hN⟩ : ∃ N, N = L.length := ⟨_, rfl⟩
  rw [← hN] at hl HRt ⊢
  clear hs' hN
  cases hrf : right m (-1) L with
  | false =>
    rw [hrf] at HRt
    clear hr hrf
    go_enter Try.func21, Try.ntmps21
    go_wp2_with fail
    refine HRt.out.mono ?_
    rintro y w1 ⟨rfl, hb1⟩
    go_wp2
    go_ret2
    exact ⟨rfl, hb1⟩
  | true =>
    rw [hrf] at HRt
    by_cases h1 : r < 0
    · have d1 : decide (r < 0) = true := decide_eq_true h1
      clear hr h1 hrf
      go_enter Try.func21, Try.ntmps21
      go_wp2_with fail
      refine HRt.out.mono ?_
      rintro y w1 ⟨rfl, hb1⟩
      go_wp2
      go_ret2
      exact ⟨rfl, hb1⟩
    have d1 : decide (r < 0) = false := decide_eq_false h1
    by_cases h2 : 1000 < r
    · have d2 : decide (1000 < r) = true := decide_eq_true h2
      clear hr h1 h2 hrf
      go_enter Try.func21, Try.ntmps21
      go_wp2_with fail
      refine HRt.out.mono ?_
      rintro y w1 ⟨rfl, hb1⟩
      go_wp2
      go_ret2
      exact ⟨rfl, hb1⟩
    exact absurd ⟨by omega, by omega, hrf⟩ hr
/-- what the reference's Make does with right edits -/
def RefYes : Prop := ∀ (a : Ls) (r : Nat) (L : List Ed) (A A' : Option Addr) (c c' : Nat) (P : Nat → Prop) (w : World), Vs w P A c (texts a) → Es w A' c' L → a.length ≤ 24 → L.length ≤ 20 → r ≤ 1000 →
    size L ≤ 1000 → right a.length (-1) L = true → (∀ x ∈ a, x.length ≤ 9223372036854775806) → (∀ e ∈ L, ∀ x ∈ e.ins, x.length ≤ 9223372036854775806) →
    Calls Try.prog 21 #[.slice A a.length c, .slice A' L.length c', .int .i64 r] w fun y w' => ∃ v, y = .returned (.tuple #[v, .int .i64 0]) ∧ OwH w' w.heap.size v (mkHs a r 0 L) ∧ Below w.heap.size w w'
end Go.Proofs.Ytfmmececocilhaa.Hu
