/-
  The reference's Many, Right.
-/
import Derived.Test.YtnehgogajghefaaDoorQ8
import Derived.Test.YtnehgogajghefaaDoorQ2
namespace Go.Proofs.YtnehgogajghefaaDoor.Hu
open Go Go.RowKit Kt Lw Li Df

set_option maxHeartbeats 1000000 in
set_option maxRecDepth 100000 in
theorem refMany_any (s : UInt8) (hs0 : s ≠ 0) (L : Ls) (A : Option Addr) (c : Nat) (P : Nat → Prop) (w : World) (hs : Vs w P A c (texts L)) (hn : L.length ≤ 1000000) :
    Calls Tryd.prog 14 #[.slice A L.length c, .int .u8 (s.toNat : Int)] w fun y w' => y = .returned (.int .i64 (many s L : Int)) ∧ w' = w := by
  have Hs := hide hs.bound
  obtain ⟨N, hN⟩ : ∃ N, N = L.length := ⟨_, rfl⟩
  rw [← hN] at hn ⊢
  have HN := hide hN
  clear hs hN
  go_enter Tryd.func14, Tryd.ntmps14
  go_wp2
  go_loopw [5, 6] (fun o i wr => ∃ k : Nat, k ≤ N ∧ i = .int .i64 k ∧ o = .int .i64 (many s (L.take k) : Int) ∧ wr = w) (fun _ i _ => N - (intOf i).toNat)
  case atStart => exact ⟨0, Nat.zero_le _, rfl, by simp [many], rfl⟩
  case round =>
    obtain ⟨k, hk, rfl, rfl, rfl⟩ := hrel
    by_cases hlt : k < N
    · obtain ⟨b, o, rfl, ck⟩ := Hs.out.text (Below.refl _ _) (k := k) (by have := HN.out; omega)
      have H1 := hide (many_snoc s L k (by have := HN.out; omega))
      have h1 := many_leN s L k
      generalize many s (L.take k) = p at *
      generalize L.getD k [] = x at *
      by_cases hx : x = []
      · subst hx
        have H1' := hide (show many s (L.take (k + 1)) = p by rw [H1.out, if_neg (by rintro (h | h); exact absurd h (by decide); exact hs0 h.symm)]; rfl)
        clear H1 hs0
        go_wp2
        exact ⟨⟨k + 1, by omega, by go_num, by rw [H1'.out], trivial⟩, by simp [intOf]; omega⟩
      have hl : 0 < x.length := List.length_pos_iff.2 hx
      have hsz := size_of x
      have hg := get_at x 0 (by rw [hsz]; exact hl)
      rw [sg_get] at hg
      by_cases h32 : sg x = 32
      · rw [h32] at hg H1
        have H1' := hide (show many s (L.take (k + 1)) = p + 1 from by rw [H1.out, if_pos (.inl rfl)])
        clear H1 hs0 h32 hx
        go_wp2
        exact ⟨⟨k + 1, by omega, by go_num, by rw [H1'.out]; go_num, trivial⟩, by simp [intOf]; omega⟩
      have e32 : (((sg x).toNat : Int) == 32) = false := u8_ne h32
      by_cases hss : sg x = s
      · have H1' := hide (show many s (L.take (k + 1)) = p + 1 from by rw [H1.out, if_pos (.inr hss)])
        rw [hss] at hg e32
        clear H1 hs0 h32 hx hss
        have eq1 : ((s.toNat : Int) == (s.toNat : Int)) = true := beq_self_eq_true _
        go_wp2
        exact ⟨⟨k + 1, by omega, by go_num, by rw [H1'.out]; go_num, trivial⟩, by simp [intOf]; omega⟩
      · have H1' := hide (show many s (L.take (k + 1)) = p from by rw [H1.out, if_neg (by rintro (h | h); exact h32 h; exact hss h)]; rfl)
        have es : (((sg x).toNat : Int) == (s.toNat : Int)) = false := u8_ne hss
        clear H1 hs0 h32 hx hss
        go_wp2
        exact ⟨⟨k + 1, by omega, by go_num, by rw [H1'.out], trivial⟩, by simp [intOf]; omega⟩
    · obtain rfl : k = N := by omega
      go_wp2
      go_ret
      exact ⟨by rw [HN.out, List.take_length]; rfl, rfl⟩
end Go.Proofs.YtnehgogajghefaaDoor.Hu
