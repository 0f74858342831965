/-
  What wire.text comes to.
-/
import Derived.Test.YtiomhbajbbpmiaaWE

namespace Go.Proofs.Ytiomhbajbbpmiaa.Wr
open Go Go.RowKit Kt

theorem sl_take {w : World} {P : Nat → Prop} {A : Option Addr} {c k : Nat} {bs : List UInt8} (h : Sl w P A c bs) (hk : k ≤ bs.length) : Sl w P A c (bs.take k) := by
  have hl : (bs.take k).length = k := by rw [List.length_take]; omega
  refine ⟨by have := h.1; omega, fun hn => ?_⟩
  rw [hl] at hn
  obtain ⟨b, o, rfl, hp, hc⟩ := h.2 (by omega)
  refine ⟨b, o, rfl, hp, fun j hj => ?_⟩
  rw [hl] at hj
  rw [hc j (by omega), take_getD _ _ _ hj]

theorem text_bad (bs : List UInt8) (most : Int) (h : (numOf bs).2.2 ≠ 0) : textOf bs most = ([], 0, (numOf bs).2.2) := by unfold textOf; rw [if_pos h]
theorem text_over (bs : List UInt8) (most : Int) (n k : Nat) (h : numOf bs = (n, k, 0)) (h2 : (max most 0).toNat < n) : textOf bs most = ([], 0, 4) := by
  unfold textOf; rw [h, if_neg (by simp), if_pos h2]
theorem text_less (bs : List UInt8) (most : Int) (n k : Nat) (h : numOf bs = (n, k, 0)) (h2 : ¬ (max most 0).toNat < n) (h3 : bs.length - k < n) : textOf bs most = ([], 0, 2) := by
  unfold textOf; rw [h, if_neg (by simp), if_neg h2, if_pos h3]
theorem text_fine (bs : List UInt8) (most : Int) (n k : Nat) (h : numOf bs = (n, k, 0)) (h2 : ¬ (max most 0).toNat < n) (h3 : ¬ bs.length - k < n) : textOf bs most = ((bs.drop k).take n, k + n, 0) := by
  unfold textOf; rw [h, if_neg (by simp), if_neg h2, if_neg h3]

theorem clone_of (l : List UInt8) (n : Nat) (hn : l.length = n) (A : Option Addr) (c : Nat) (Pb : Nat → Prop) (w : World) (hs : Sl w Pb A c l) (hl : l.length ≤ 70368744177664) :
    Calls Try.prog 28 #[.slice A n c] w fun e w' => ∃ v, e = .returned v ∧ Own w' w.heap.size 5 v l ∧ Below w.heap.size w w' := by
  subst hn
  exact clone_any l A c Pb w hs hl

set_option maxHeartbeats 2000000 in
set_option maxRecDepth 100000 in
theorem text_any (bs : List UInt8) (most : Int) (A : Option Addr) (c : Nat) (Pb : Nat → Prop) (w : World) (hs : Sl w Pb A c bs) (hl : bs.length ≤ 70368744177664) (hm1 : most ≤ 9223372036854775807) :
    Calls Try.prog 34 #[.slice A bs.length c, .int .i64 most] w fun e w' => ∃ v, e = .returned (.tuple #[v, .int .i64 ((textOf bs most).2.1 : Nat), .int .i64 ((textOf bs most).2.2 : Nat)]) ∧ Own w' w.heap.size 5 v (textOf bs most).1 ∧ Below w.heap.size w w' := by
  have hnum := number_any bs A c Pb w hs hl
  have hc := hs.1
  have Hs := hide hs
  clear hs
  obtain ⟨M, hM⟩ : ∃ M, M = (max most 0).toNat := ⟨_, rfl⟩
  have hmx : (if most < 0 then (0 : Int) else most) = (M : Int) := by split <;> omega
  have hM63 : M < 9223372036854775808 := by omega
  have hwM : IntKind.u64.wrap (M : Int) = (M : Int) := by rw [IntKind.wrap_u64]; omega
  have HM := hide hM
  have Hm1 := hide hm1
  have HM63 := hide hM63
  clear hM hm1 hM63
  obtain ⟨n, k, e, hr⟩ : ∃ n k e, numOf bs = (n, k, e) := ⟨_, _, _, rfl⟩
  rw [hr] at hnum
  have Hnum := hide hnum
  clear hnum
  have Hr := hide hr
  by_cases he : e = 0
  · subst he
    obtain ⟨hn64, hk1, hk10, hkl, _⟩ := numOf_ok bs n k hr
    have Hn64 := hide hn64
    clear hn64 hr
    by_cases h2 : M < n
    · have Ht := hide (text_over bs most n k Hr.out (by rw [← HM.out]; exact h2))
      go_enter Try.func34, Try.ntmps34
      go_wp2_with (go_at_call 31; go_loud (refine Hnum.out.mono ?_; rintro e w1 ⟨rfl, rfl⟩; simp only [numV]))
      go_ret3
      exact ⟨_, by rw [Ht.out]; rfl, by rw [Ht.out]; exact Own.nil _ _ _, Below.refl _ _⟩
    · by_cases h3 : bs.length - k < n
      · have Ht := hide (text_less bs most n k Hr.out (by rw [← HM.out]; exact h2) h3)
        go_enter Try.func34, Try.ntmps34
        go_wp2_with (go_at_call 31; go_loud (refine Hnum.out.mono ?_; rintro e w1 ⟨rfl, rfl⟩; simp only [numV]))
        go_ret3
        exact ⟨_, by rw [Ht.out]; rfl, by rw [Ht.out]; exact Own.nil _ _ _, Below.refl _ _⟩
      · have Ht := hide (text_fine bs most n k Hr.out (by rw [← HM.out]; exact h2) h3)
        have hpos : 0 < bs.length := by omega
        obtain ⟨b, o, rfl, _, _⟩ := Hs.out.2 hpos
        have hx : ((bs.drop k).take n).length = n := by rw [List.length_take, List.length_drop]; omega
        have Hx := hide hx
        have hsx := sl_take (Hs.out.cut (k := k) hkl) (k := n) (by rw [List.length_drop]; omega)
        clear hx
        by_cases hck : c = k
        · subst hck
          rw [if_pos rfl, Nat.sub_self] at hsx
          have Hsx := hide hsx
          clear hsx
          go_enter Try.func34, Try.ntmps34
          go_wp2_with (go_at_call 31; go_loud (refine Hnum.out.mono ?_; rintro e w1 ⟨rfl, rfl⟩; simp only [numV]))
          refine (clone_of _ n Hx.out _ _ _ _ Hsx.out (by rw [Hx.out]; omega)).mono ?_
          rintro e w1 ⟨v1, rfl, hown1, hb1⟩
          go_wp2
          go_ret3
          rw [Ht.out]
          exact ⟨_, by push_cast; rfl, hown1, hb1⟩
        · rw [if_neg hck] at hsx
          simp only [Option.map_some, Addr.add_mid] at hsx
          have Hsx := hide hsx
          clear hsx
          have Hck := hide hck
          go_enter Try.func34, Try.ntmps34
          go_wp2_with (go_at_call 31; go_loud (refine Hnum.out.mono ?_; rintro e w1 ⟨rfl, rfl⟩; simp only [numV]))
          refine (clone_of _ n Hx.out _ _ _ _ Hsx.out (by rw [Hx.out]; omega)).mono ?_
          rintro e w1 ⟨v1, rfl, hown1, hb1⟩
          go_wp2
          go_ret3
          rw [Ht.out]
          exact ⟨_, by push_cast; rfl, hown1, hb1⟩
  · have Ht := hide (text_bad bs most (by rw [hr]; exact he))
    have Hf := hide (numOf_fail bs n k e hr he)
    go_enter Try.func34, Try.ntmps34
    go_wp2_with (go_at_call 31; go_loud (refine Hnum.out.mono ?_; rintro e w1 ⟨rfl, rfl⟩; simp only [numV]))
    go_ret3
    rw [Ht.out, hr]
    exact ⟨_, rfl, Own.nil _ _ _, Below.refl _ _⟩
end Go.Proofs.Ytiomhbajbbpmiaa.Wr
