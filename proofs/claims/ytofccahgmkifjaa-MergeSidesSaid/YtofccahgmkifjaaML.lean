/-
  The statement MergeSides, walked.
-/
import Derived.Test.YtofccahgmkifjaaQ15
namespace Go.Proofs.Ytofccahgmkifjaa.Al
open Go Go.RowKit Kt Kg Lw Li Df

theorem mgT_sw (o a b : List UInt8) : (mgT o b a).2 = (mgT o a b).2 ∧ ((mgT o a b).2 = 0 → (mgT o b a).1 = (mgT o a b).1) := by
  by_cases h : a = b
  · subst h; exact ⟨rfl, fun _ => rfl⟩
  · by_cases h2 : b = o
    · subst h2
      have hn : ¬ (b = a ∨ a = b) := fun hh => hh.elim (fun e => h e.symm) h
      rw [mgT_same (o := b) (a := a) (.inr rfl), mgT_one hn rfl]
      exact ⟨rfl, fun _ => rfl⟩
    · have hn : ¬ (a = b ∨ b = o) := fun hh => hh.elim h h2
      by_cases h3 : a = o
      · subst h3
        rw [mgT_one hn rfl, mgT_same (o := a) (a := b) (.inr rfl)]
        exact ⟨rfl, fun _ => rfl⟩
      · have hn2 : ¬ (b = a ∨ a = o) := fun hh => hh.elim (fun e => h e.symm) h3
        cases hb : (binary o || binary a || binary b) with
        | true =>
          have hb2 : (binary o || binary b || binary a) = true := by rw [← hb]; cases binary o <;> cases binary a <;> cases binary b <;> rfl
          rw [mgT_bin hn h3 hb, mgT_bin hn2 h2 hb2]
          exact ⟨rfl, fun h => by cases h⟩
        | false =>
          have hb2 : (binary o || binary b || binary a) = false := by rw [← hb]; cases binary o <;> cases binary a <;> cases binary b <;> rfl
          rw [mgT_lines hn h3 hb, mgT_lines hn2 h2 hb2]
          exact ⟨mgN_sw _ _ _, fun h => by simp only; rw [mgL_sw _ _ _ h]⟩
set_option maxRecDepth 100000 in
set_option maxHeartbeats 4000000 in
theorem lawSides_any (o a b : List UInt8) (w : World) :
    Calls Try.prog 6 #[.string ⟨o.toArray⟩, .string ⟨a.toArray⟩, .string ⟨b.toArray⟩] w fun y w' => y = .returned (.bool true) ∧ Below w.heap.size w w' := by
  by_cases h0 : 60 < o.length
  · have d0 : decide (60 < (o.length : Int)) = true := decide_eq_true (by omega)
    clear h0
    go_enter Try.func6, Try.ntmps6
    go_wp2_with fail
    refine (mawake_any w).mono ?_
    rintro y w1 ⟨rfl, hb1⟩
    have Hb1 := hide hb1
    clear hb1
    go_wp2
    go_ret
    exact ⟨rfl, Hb1.out⟩
  have d0 : decide (60 < (o.length : Int)) = false := decide_eq_false (by omega)
  by_cases h1 : 60 < a.length
  · have d1 : decide (60 < (a.length : Int)) = true := decide_eq_true (by omega)
    clear h0 h1
    go_enter Try.func6, Try.ntmps6
    go_wp2_with fail
    refine (mawake_any w).mono ?_
    rintro y w1 ⟨rfl, hb1⟩
    have Hb1 := hide hb1
    clear hb1
    go_wp2
    go_ret
    exact ⟨rfl, Hb1.out⟩
  have d1 : decide (60 < (a.length : Int)) = false := decide_eq_false (by omega)
  by_cases h2 : 60 < b.length
  · have d2 : decide (60 < (b.length : Int)) = true := decide_eq_true (by omega)
    clear h0 h1 h2
    go_enter Try.func6, Try.ntmps6
    go_wp2_with fail
    refine (mawake_any w).mono ?_
    rintro y w1 ⟨rfl, hb1⟩
    have Hb1 := hide hb1
    clear hb1
    go_wp2
    go_ret
    exact ⟨rfl, Hb1.out⟩
  have d2 : decide (60 < (b.length : Int)) = false := decide_eq_false (by omega)
  have hsw := mgT_sw o a b
  have H1 := hide (fun w => mtext_any o a b w (by omega) (by omega) (by omega))
  have H2 := hide (fun w => mtext_any o b a w (by omega) (by omega) (by omega))
  unfold TextQ at H1 H2
  obtain ⟨x, hx⟩ : ∃ x, x = (mgT o a b).1 := ⟨_, rfl⟩
  obtain ⟨n, hn⟩ : ∃ n, n = (mgT o a b).2 := ⟨_, rfl⟩
  obtain ⟨z, hz⟩ : ∃ x, x = (mgT o b a).1 := ⟨_, rfl⟩
  rw [hsw.1] at H2
  rw [← hx, ← hn] at H1
  rw [← hz, ← hn] at H2
  have Hsw := hide (show n = 0 → z = x from fun h => by rw [hz, hx]; exact hsw.2 (by rw [← hn]; exact h))
  clear h0 h1 h2 hsw hx hn hz
  go_enter Try.func6, Try.ntmps6
  go_wp2_with fail
  refine (mawake_any w).mono ?_
  rintro y w1 ⟨rfl, hb1⟩
  have Hb1 := hide hb1
  clear hb1
  go_wp2_with fail
  refine (H1.out w1).mono ?_
  rintro y w2 ⟨rfl, hb2⟩
  have Hb2 := hide (Hb1.out.trans (hb2.mono Hb1.out.size))
  clear hb2
  go_wp2_with fail
  refine (H2.out w2).mono ?_
  rintro y w3 ⟨rfl, hb3⟩
  have Hb3 := hide (Hb2.out.trans (hb3.mono Hb2.out.size))
  clear hb3
  by_cases h0 : n = 0
  · obtain rfl := Hsw.out h0
    subst h0
    go_wp2
    go_ret
    exact ⟨by simp, Hb3.out⟩
  · have d3 : decide ((0:Int) < (n : Int)) = true := decide_eq_true (by omega)
    have d4 : (0:Int) < (n : Int) := by omega
    have d5 : decide (0 < n) = true := decide_eq_true (by omega)
    have d6 : 0 < n := by omega
    clear h0
    go_wp2
    go_ret
    exact ⟨by simp, Hb3.out⟩
end Go.Proofs.Ytofccahgmkifjaa.Al
