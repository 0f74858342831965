/-
  The reference's number and word.
-/
import Derived.Test.YtnehgogajghefaaDoorVJ
import Derived.Test.YtnehgogajghefaaDoorVO
namespace Go.Proofs.YtnehgogajghefaaDoor.Un
open Go Go.RowKit Kt Lw Li Df Hu

set_option maxRecDepth 100000 in
set_option maxHeartbeats 2000000 in
theorem number_walk (s : List UInt8) (t d : Nat) (dv : Nat → Nat) (w : World) (hl : s.length ≤ 1000000) (hd11 : d ≤ 11) (hds : t + d ≤ s.length) (h0 : dv 0 = 0)
    (hdig : ∀ j, j < d → isDig (s.getD (t + j) 0)) (hs : ∀ j, j < d → dv (j + 1) = dv j * 10 + ((s.getD (t + j) 0).toNat - 48)) (hb : ∀ j, j ≤ d → dv j ≤ 100000000000)
    (hst : d = 11 ∨ t + d = s.length ∨ ¬ isDig (s.getD (t + d) 0))
    (U E : Int) (hU : U = if d = 0 ∨ (1 < d ∧ (s.getD t 0).toNat = 48) ∨ 2147483647 < dv d then -1 else (dv d : Int)) (hE : E = if d = 0 ∨ (1 < d ∧ (s.getD t 0).toNat = 48) ∨ 2147483647 < dv d then 0 else ((t + d : Nat) : Int)) :
    Calls Tryd.prog 26 #[.string ⟨s.toArray⟩, .int .i64 t] w fun y w' =>
      y = .returned (.tuple #[.int .i64 U, .int .i64 E]) ∧ w' = w := by
  have Hdig := hide hdig
  have Hs := hide hs
  have Hb := hide hb
  have Hst := hide hst
  have HU := hide hU
  have HE := hide hE
  have hsz := Hu.size_of s
  obtain ⟨n, hn⟩ : ∃ n, n = s.length := ⟨_, rfl⟩
  rw [← hn] at hl hds Hst hsz
  have HN := hide hn
  have Hd := hide (show t + d ≤ n ∧ d ≤ 11 from ⟨hds, hd11⟩)
  clear hdig hs hb hst hn hU hE
  go_enter Tryd.func26, Tryd.ntmps26
  go_wp2
  go_loopw [6, 7] (fun m i wr => ∃ j : Nat, j ≤ d ∧ m = .int .i64 (dv j) ∧ i = .int .i64 ((t + j : Nat) : Int) ∧ wr = w) (fun _ i _ => t + 11 - (intOf i).toNat)
  case atStart => exact ⟨0, Nat.zero_le _, by rw [h0]; rfl, rfl, rfl⟩
  case round =>
    obtain ⟨j, hj, rfl, rfl, rfl⟩ := hrel
    have hbj := Hb.out j hj
    by_cases hlt : j < d
    · have hi : t + j < n := by omega
      obtain ⟨i, hi'⟩ : ∃ i, i = t + j := ⟨_, rfl⟩
      have hdj := Hdig.out j hlt
      have hsj := Hs.out j hlt
      rw [← hi'] at hi hdj hsj ⊢
      have hg := Hu.get_at s i (by rw [Hu.size_of, ← HN.out]; exact hi)
      obtain ⟨z, hz⟩ : ∃ z, z = s.getD i 0 := ⟨_, rfl⟩
      rw [← hz] at hdj hsj hg
      have hz3 := z.toNat_lt
      obtain ⟨hz1, hz2⟩ := hdj
      have e1 : decide ((i : Int) < (n : Int)) = true := decide_eq_true (by omega)
      have e2 : decide ((48 : Int) ≤ (z.toNat : Int)) = true := decide_eq_true (by omega)
      have e3 : decide ((z.toNat : Int) ≤ 57) = true := decide_eq_true (by omega)
      have e4 : decide ((i : Int) < (t : Int) + 11) = true := decide_eq_true (by omega)
      have Hij := hide hi'
      have Hsj := hide hsj
      clear hz hi' hsj
      go_wp2
      have h1 := Hsj.out
      exact ⟨⟨j + 1, by omega, congrArg (Value.int .i64) (by omega), congrArg (Value.int .i64) (by have := Hij.out; omega), by trivial⟩, by simp [intOf]; have := Hij.out; omega⟩
    · obtain rfl : j = d := by omega
      have hst := Hst.out
      obtain ⟨i, hi'⟩ : ∃ i, i = t + j := ⟨_, rfl⟩
      rw [← hi'] at hst HE ⊢
      obtain ⟨m, hm⟩ : ∃ m, m = dv j := ⟨_, rfl⟩
      rw [← hm] at hbj HU HE ⊢
      clear hm hlt hj
      by_cases hj0 : j = 0
      · have HB := hide (show j = 0 ∨ (1 < j ∧ (s.getD t 0).toNat = 48) ∨ 2147483647 < m from .inl hj0)
        have f1 : ((i : Int) == (t : Int)) = true := by rw [beq_iff_eq]; omega
        by_cases hin : i < n
        · have hg := Hu.get_at s i (by rw [Hu.size_of, ← HN.out]; exact hin)
          obtain ⟨z, hz⟩ : ∃ z, z = s.getD i 0 := ⟨_, rfl⟩
          rw [← hz] at hst hg
          have hz3 := z.toNat_lt
          have e1 : decide ((i : Int) < (n : Int)) = true := decide_eq_true (by omega)
          clear hz
          by_cases hz1 : 48 ≤ z.toNat
          · have e2 : decide ((48 : Int) ≤ (z.toNat : Int)) = true := decide_eq_true (by omega)
            by_cases hz2 : z.toNat ≤ 57
            · have e3 : decide ((z.toNat : Int) ≤ 57) = true := decide_eq_true (by omega)
              have h11 : j = 11 := by rcases hst with h | h | h <;> first | exact h | omega | exact absurd ⟨hz1, hz2⟩ h
              have e4 : decide ((i : Int) < (t : Int) + 11) = false := decide_eq_false (by omega)
              clear hst
              first
                | (exfalso; omega)
                | (clear hi'; try clear hj0
                   go_wp2
                   go_ret2
                   exact ⟨by rw [HU.out.trans (if_pos HB.out), HE.out.trans (if_pos HB.out)]; rfl, rfl⟩)
            · have e3 : decide ((z.toNat : Int) ≤ 57) = false := decide_eq_false (by omega)
              clear hst
              first
                | (exfalso; omega)
                | (clear hi'; try clear hj0
                   go_wp2
                   go_ret2
                   exact ⟨by rw [HU.out.trans (if_pos HB.out), HE.out.trans (if_pos HB.out)]; rfl, rfl⟩)
          · have e2 : decide ((48 : Int) ≤ (z.toNat : Int)) = false := decide_eq_false (by omega)
            clear hst
            first
              | (exfalso; omega)
              | (clear hi'; try clear hj0
                 go_wp2
                 go_ret2
                 exact ⟨by rw [HU.out.trans (if_pos HB.out), HE.out.trans (if_pos HB.out)]; rfl, rfl⟩)
        · have e1 : decide ((i : Int) < (n : Int)) = false := decide_eq_false (by omega)
          clear hst
          first
            | (exfalso; omega)
            | (clear hi'; try clear hj0
               go_wp2
               go_ret2
               exact ⟨by rw [HU.out.trans (if_pos HB.out), HE.out.trans (if_pos HB.out)]; rfl, rfl⟩)
      · have f1 : ((i : Int) == (t : Int)) = false := by rw [beq_eq_false_iff_ne]; omega
        by_cases hj1 : 1 < j
        · have f2 : decide ((t : Int) + 1 < (i : Int)) = true := decide_eq_true (by omega)
          have ht : t < n := by have := Hd.out; omega
          have hg0 := Hu.get_at s t (by rw [Hu.size_of, ← HN.out]; exact ht)
          obtain ⟨y, hy⟩ : ∃ y, y = s.getD t 0 := ⟨_, rfl⟩
          rw [← hy] at hg0 HU HE
          clear hy
          by_cases hy : y.toNat = 48
          · have HB := hide (show j = 0 ∨ (1 < j ∧ y.toNat = 48) ∨ 2147483647 < m from .inr (.inl ⟨hj1, hy⟩))
            have f3 : ((y.toNat : Int) == 48) = true := by rw [beq_iff_eq]; omega
            by_cases hin : i < n
            · have hg := Hu.get_at s i (by rw [Hu.size_of, ← HN.out]; exact hin)
              obtain ⟨z, hz⟩ : ∃ z, z = s.getD i 0 := ⟨_, rfl⟩
              rw [← hz] at hst hg
              have hz3 := z.toNat_lt
              have e1 : decide ((i : Int) < (n : Int)) = true := decide_eq_true (by omega)
              clear hz
              by_cases hz1 : 48 ≤ z.toNat
              · have e2 : decide ((48 : Int) ≤ (z.toNat : Int)) = true := decide_eq_true (by omega)
                by_cases hz2 : z.toNat ≤ 57
                · have e3 : decide ((z.toNat : Int) ≤ 57) = true := decide_eq_true (by omega)
                  have h11 : j = 11 := by rcases hst with h | h | h <;> first | exact h | omega | exact absurd ⟨hz1, hz2⟩ h
                  have e4 : decide ((i : Int) < (t : Int) + 11) = false := decide_eq_false (by omega)
                  clear hst
                  first
                    | (exfalso; omega)
                    | (clear hi'; try clear hj0
                       go_wp2
                       go_ret2
                       exact ⟨by rw [HU.out.trans (if_pos HB.out), HE.out.trans (if_pos HB.out)]; rfl, rfl⟩)
                · have e3 : decide ((z.toNat : Int) ≤ 57) = false := decide_eq_false (by omega)
                  clear hst
                  first
                    | (exfalso; omega)
                    | (clear hi'; try clear hj0
                       go_wp2
                       go_ret2
                       exact ⟨by rw [HU.out.trans (if_pos HB.out), HE.out.trans (if_pos HB.out)]; rfl, rfl⟩)
              · have e2 : decide ((48 : Int) ≤ (z.toNat : Int)) = false := decide_eq_false (by omega)
                clear hst
                first
                  | (exfalso; omega)
                  | (clear hi'; try clear hj0
                     go_wp2
                     go_ret2
                     exact ⟨by rw [HU.out.trans (if_pos HB.out), HE.out.trans (if_pos HB.out)]; rfl, rfl⟩)
            · have e1 : decide ((i : Int) < (n : Int)) = false := decide_eq_false (by omega)
              clear hst
              first
                | (exfalso; omega)
                | (clear hi'; try clear hj0
                   go_wp2
                   go_ret2
                   exact ⟨by rw [HU.out.trans (if_pos HB.out), HE.out.trans (if_pos HB.out)]; rfl, rfl⟩)
          · have f3 : ((y.toNat : Int) == 48) = false := by rw [beq_eq_false_iff_ne]; omega
            by_cases hm : 2147483647 < m
            · have HB := hide (show j = 0 ∨ (1 < j ∧ y.toNat = 48) ∨ 2147483647 < m from .inr (.inr hm))
              have f4 : decide ((2147483647 : Int) < (m : Int)) = true := decide_eq_true (by omega)
              by_cases hin : i < n
              · have hg := Hu.get_at s i (by rw [Hu.size_of, ← HN.out]; exact hin)
                obtain ⟨z, hz⟩ : ∃ z, z = s.getD i 0 := ⟨_, rfl⟩
                rw [← hz] at hst hg
                have hz3 := z.toNat_lt
                have e1 : decide ((i : Int) < (n : Int)) = true := decide_eq_true (by omega)
                clear hz
                by_cases hz1 : 48 ≤ z.toNat
                · have e2 : decide ((48 : Int) ≤ (z.toNat : Int)) = true := decide_eq_true (by omega)
                  by_cases hz2 : z.toNat ≤ 57
                  · have e3 : decide ((z.toNat : Int) ≤ 57) = true := decide_eq_true (by omega)
                    have h11 : j = 11 := by rcases hst with h | h | h <;> first | exact h | omega | exact absurd ⟨hz1, hz2⟩ h
                    have e4 : decide ((i : Int) < (t : Int) + 11) = false := decide_eq_false (by omega)
                    clear hst
                    first
                      | (exfalso; omega)
                      | (clear hi'; try clear hj0
                         go_wp2
                         go_ret2
                         exact ⟨by rw [HU.out.trans (if_pos HB.out), HE.out.trans (if_pos HB.out)]; rfl, rfl⟩)
                  · have e3 : decide ((z.toNat : Int) ≤ 57) = false := decide_eq_false (by omega)
                    clear hst
                    first
                      | (exfalso; omega)
                      | (clear hi'; try clear hj0
                         go_wp2
                         go_ret2
                         exact ⟨by rw [HU.out.trans (if_pos HB.out), HE.out.trans (if_pos HB.out)]; rfl, rfl⟩)
                · have e2 : decide ((48 : Int) ≤ (z.toNat : Int)) = false := decide_eq_false (by omega)
                  clear hst
                  first
                    | (exfalso; omega)
                    | (clear hi'; try clear hj0
                       go_wp2
                       go_ret2
                       exact ⟨by rw [HU.out.trans (if_pos HB.out), HE.out.trans (if_pos HB.out)]; rfl, rfl⟩)
              · have e1 : decide ((i : Int) < (n : Int)) = false := decide_eq_false (by omega)
                clear hst
                first
                  | (exfalso; omega)
                  | (clear hi'; try clear hj0
                     go_wp2
                     go_ret2
                     exact ⟨by rw [HU.out.trans (if_pos HB.out), HE.out.trans (if_pos HB.out)]; rfl, rfl⟩)
            · have HB := hide (show ¬ (j = 0 ∨ (1 < j ∧ y.toNat = 48) ∨ 2147483647 < m) by rintro (h | h | h); exact hj0 h; exact hy h.2; exact hm h)
              have f4 : decide ((2147483647 : Int) < (m : Int)) = false := decide_eq_false (by omega)
              by_cases hin : i < n
              · have hg := Hu.get_at s i (by rw [Hu.size_of, ← HN.out]; exact hin)
                obtain ⟨z, hz⟩ : ∃ z, z = s.getD i 0 := ⟨_, rfl⟩
                rw [← hz] at hst hg
                have hz3 := z.toNat_lt
                have e1 : decide ((i : Int) < (n : Int)) = true := decide_eq_true (by omega)
                clear hz
                by_cases hz1 : 48 ≤ z.toNat
                · have e2 : decide ((48 : Int) ≤ (z.toNat : Int)) = true := decide_eq_true (by omega)
                  by_cases hz2 : z.toNat ≤ 57
                  · have e3 : decide ((z.toNat : Int) ≤ 57) = true := decide_eq_true (by omega)
                    have h11 : j = 11 := by rcases hst with h | h | h <;> first | exact h | omega | exact absurd ⟨hz1, hz2⟩ h
                    have e4 : decide ((i : Int) < (t : Int) + 11) = false := decide_eq_false (by omega)
                    clear hst
                    first
                      | (exfalso; omega)
                      | (clear hi'; try clear hj0
                         go_wp2
                         go_ret2
                         exact ⟨by rw [HU.out.trans (if_neg HB.out), HE.out.trans (if_neg HB.out)]; rfl, rfl⟩)
                  · have e3 : decide ((z.toNat : Int) ≤ 57) = false := decide_eq_false (by omega)
                    clear hst
                    first
                      | (exfalso; omega)
                      | (clear hi'; try clear hj0
                         go_wp2
                         go_ret2
                         exact ⟨by rw [HU.out.trans (if_neg HB.out), HE.out.trans (if_neg HB.out)]; rfl, rfl⟩)
                · have e2 : decide ((48 : Int) ≤ (z.toNat : Int)) = false := decide_eq_false (by omega)
                  clear hst
                  first
                    | (exfalso; omega)
                    | (clear hi'; try clear hj0
                       go_wp2
                       go_ret2
                       exact ⟨by rw [HU.out.trans (if_neg HB.out), HE.out.trans (if_neg HB.out)]; rfl, rfl⟩)
              · have e1 : decide ((i : Int) < (n : Int)) = false := decide_eq_false (by omega)
                clear hst
                first
                  | (exfalso; omega)
                  | (clear hi'; try clear hj0
                     go_wp2
                     go_ret2
                     exact ⟨by rw [HU.out.trans (if_neg HB.out), HE.out.trans (if_neg HB.out)]; rfl, rfl⟩)
        · have f2 : decide ((t : Int) + 1 < (i : Int)) = false := decide_eq_false (by omega)
          by_cases hm : 2147483647 < m
          · have HB := hide (show j = 0 ∨ (1 < j ∧ (s.getD t 0).toNat = 48) ∨ 2147483647 < m from .inr (.inr hm))
            have f4 : decide ((2147483647 : Int) < (m : Int)) = true := decide_eq_true (by omega)
            by_cases hin : i < n
            · have hg := Hu.get_at s i (by rw [Hu.size_of, ← HN.out]; exact hin)
              obtain ⟨z, hz⟩ : ∃ z, z = s.getD i 0 := ⟨_, rfl⟩
              rw [← hz] at hst hg
              have hz3 := z.toNat_lt
              have e1 : decide ((i : Int) < (n : Int)) = true := decide_eq_true (by omega)
              clear hz
              by_cases hz1 : 48 ≤ z.toNat
              · have e2 : decide ((48 : Int) ≤ (z.toNat : Int)) = true := decide_eq_true (by omega)
                by_cases hz2 : z.toNat ≤ 57
                · have e3 : decide ((z.toNat : Int) ≤ 57) = true := decide_eq_true (by omega)
                  have h11 : j = 11 := by rcases hst with h | h | h <;> first | exact h | omega | exact absurd ⟨hz1, hz2⟩ h
                  have e4 : decide ((i : Int) < (t : Int) + 11) = false := decide_eq_false (by omega)
                  clear hst
                  first
                    | (exfalso; omega)
                    | (clear hi'; try clear hj0
                       go_wp2
                       go_ret2
                       exact ⟨by rw [HU.out.trans (if_pos HB.out), HE.out.trans (if_pos HB.out)]; rfl, rfl⟩)
                · have e3 : decide ((z.toNat : Int) ≤ 57) = false := decide_eq_false (by omega)
                  clear hst
                  first
                    | (exfalso; omega)
                    | (clear hi'; try clear hj0
                       go_wp2
                       go_ret2
                       exact ⟨by rw [HU.out.trans (if_pos HB.out), HE.out.trans (if_pos HB.out)]; rfl, rfl⟩)
              · have e2 : decide ((48 : Int) ≤ (z.toNat : Int)) = false := decide_eq_false (by omega)
                clear hst
                first
                  | (exfalso; omega)
                  | (clear hi'; try clear hj0
                     go_wp2
                     go_ret2
                     exact ⟨by rw [HU.out.trans (if_pos HB.out), HE.out.trans (if_pos HB.out)]; rfl, rfl⟩)
            · have e1 : decide ((i : Int) < (n : Int)) = false := decide_eq_false (by omega)
              clear hst
              first
                | (exfalso; omega)
                | (clear hi'; try clear hj0
                   go_wp2
                   go_ret2
                   exact ⟨by rw [HU.out.trans (if_pos HB.out), HE.out.trans (if_pos HB.out)]; rfl, rfl⟩)
          · have HB := hide (show ¬ (j = 0 ∨ (1 < j ∧ (s.getD t 0).toNat = 48) ∨ 2147483647 < m) by rintro (h | h | h); exact hj0 h; exact hj1 h.1; exact hm h)
            have f4 : decide ((2147483647 : Int) < (m : Int)) = false := decide_eq_false (by omega)
            by_cases hin : i < n
            · have hg := Hu.get_at s i (by rw [Hu.size_of, ← HN.out]; exact hin)
              obtain ⟨z, hz⟩ : ∃ z, z = s.getD i 0 := ⟨_, rfl⟩
              rw [← hz] at hst hg
              have hz3 := z.toNat_lt
              have e1 : decide ((i : Int) < (n : Int)) = true := decide_eq_true (by omega)
              clear hz
              by_cases hz1 : 48 ≤ z.toNat
              · have e2 : decide ((48 : Int) ≤ (z.toNat : Int)) = true := decide_eq_true (by omega)
                by_cases hz2 : z.toNat ≤ 57
                · have e3 : decide ((z.toNat : Int) ≤ 57) = true := decide_eq_true (by omega)
                  have h11 : j = 11 := by rcases hst with h | h | h <;> first | exact h | omega | exact absurd ⟨hz1, hz2⟩ h
                  have e4 : decide ((i : Int) < (t : Int) + 11) = false := decide_eq_false (by omega)
                  clear hst
                  first
                    | (exfalso; omega)
                    | (clear hi'; try clear hj0
                       go_wp2
                       go_ret2
                       exact ⟨by rw [HU.out.trans (if_neg HB.out), HE.out.trans (if_neg HB.out)]; rfl, rfl⟩)
                · have e3 : decide ((z.toNat : Int) ≤ 57) = false := decide_eq_false (by omega)
                  clear hst
                  first
                    | (exfalso; omega)
                    | (clear hi'; try clear hj0
                       go_wp2
                       go_ret2
                       exact ⟨by rw [HU.out.trans (if_neg HB.out), HE.out.trans (if_neg HB.out)]; rfl, rfl⟩)
              · have e2 : decide ((48 : Int) ≤ (z.toNat : Int)) = false := decide_eq_false (by omega)
                clear hst
                first
                  | (exfalso; omega)
                  | (clear hi'; try clear hj0
                     go_wp2
                     go_ret2
                     exact ⟨by rw [HU.out.trans (if_neg HB.out), HE.out.trans (if_neg HB.out)]; rfl, rfl⟩)
            · have e1 : decide ((i : Int) < (n : Int)) = false := decide_eq_false (by omega)
              clear hst
              first
                | (exfalso; omega)
                | (clear hi'; try clear hj0
                   go_wp2
                   go_ret2
                   exact ⟨by rw [HU.out.trans (if_neg HB.out), HE.out.trans (if_neg HB.out)]; rfl, rfl⟩)
end Go.Proofs.YtnehgogajghefaaDoor.Un
