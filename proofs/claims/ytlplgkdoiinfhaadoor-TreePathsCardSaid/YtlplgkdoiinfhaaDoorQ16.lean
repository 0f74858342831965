/-
  What wire.number comes to.
-/
import Derived.Test.YtlplgkdoiinfhaaDoorQ9

namespace Go.Proofs.YtlplgkdoiinfhaaDoor.Wr
open Go Go.RowKit Kt

theorem pow_seven (k : Nat) : 128 ^ k = 2 ^ (7 * k) := by rw [show (128 : Nat) = 2 ^ 7 from rfl, ← Nat.pow_mul]
/-- what a byte more makes of the number, in the machine's words -/
theorem or_step (m x k : Nat) (hm : m < 128 ^ k) (hk : k ≤ 9) :
    ∃ q : Nat, bits BinOp.or IntKind.u64 (m : Int) (IntKind.u64.wrap ((x : Int) % 128 * 2 ^ (7 * k))) = (q : Int) ∧ q < 18446744073709551616 ∧ (k ≤ 8 ∨ x ≤ 1 → q = m + 128 ^ k * (x % 128)) := by
  have e1 : IntKind.u64.wrap ((x : Int) % 128 * 2 ^ (7 * k)) = ((x % 128 * 128 ^ k % 18446744073709551616 : Nat) : Int) := by
    rw [IntKind.wrap_u64, pow_seven, Int.natCast_emod, Int.natCast_mul, Int.natCast_emod, Int.natCast_pow]
    rfl
  have hp : 128 ^ k ≤ 128 ^ 9 := Nat.pow_le_pow_right (by omega) hk
  have hmod := Nat.mod_lt (x % 128 * 128 ^ k) (show 0 < 18446744073709551616 by omega)
  rw [e1, u64_or_nat m _ (by omega) hmod]
  refine ⟨_, rfl, Nat.or_lt_two_pow (n := 64) (by omega) hmod, fun h => ?_⟩
  have hlt : x % 128 * 128 ^ k < 18446744073709551616 := by
    rcases h with h | h
    · have hp8 : 128 ^ k ≤ 128 ^ 8 := Nat.pow_le_pow_right (by omega) h
      have := Nat.mul_le_mul (show x % 128 ≤ 127 by omega) hp8
      omega
    · have := Nat.mul_le_mul (show x % 128 ≤ 1 by omega) hp
      omega
  rw [Nat.mod_eq_of_lt hlt, Nat.or_comm, Nat.mul_comm, pow_seven]
  rw [pow_seven] at hm
  rw [nat_join (7 * k) _ _ (Nat.mul_mod_right _ _) hm, Nat.add_comm]

theorem num_ok (bs : List UInt8) (k : Nat) (h : lead bs = k) (h9 : k < 10) (hk : k < bs.length) (hx : ¬ ((0 < k ∧ (bs.getD k 0).toNat = 0) ∨ (k = 9 ∧ 1 < (bs.getD k 0).toNat))) : numOf bs = (val (bs.take (k + 1)), k + 1, 0) := by
  unfold numOf
  rw [h, if_neg (by omega), if_neg (by omega), if_neg hx]
theorem num_form (bs : List UInt8) (k : Nat) (h : lead bs = k) (h9 : k < 10) (hk : k < bs.length) (hx : (0 < k ∧ (bs.getD k 0).toNat = 0) ∨ (k = 9 ∧ 1 < (bs.getD k 0).toNat)) : numOf bs = (0, 0, 3) := by
  unfold numOf
  rw [h, if_neg (by omega), if_neg (by omega), if_pos hx]
theorem num_short (bs : List UInt8) (h : ∀ j, j < bs.length → 128 ≤ (bs.getD j 0).toNat) (h9 : bs.length < 10) : numOf bs = (0, 0, 2) := by
  unfold numOf
  rw [lead_all bs h, if_neg (by omega), if_pos rfl]
theorem num_long (bs : List UInt8) (h : ∀ j, j < 10 → 128 ≤ (bs.getD j 0).toNat) (h9 : 10 ≤ bs.length) : numOf bs = (0, 0, 3) := by
  unfold numOf
  have : 10 ≤ lead bs := by
    rcases Nat.lt_or_ge (lead bs) 10 with h1 | h1
    · have := lead_stop bs (by omega)
      have := h _ h1
      omega
    · exact h1
  rw [if_pos this]

def numV (r : Nat × Nat × Nat) : Value := .tuple #[.int .u64 r.1, .int .i64 r.2.1, .int .i64 r.2.2]

set_option maxHeartbeats 1000000 in
set_option maxRecDepth 100000 in
theorem number_any (bs : List UInt8) (A : Option Addr) (c : Nat) (Pb : Nat → Prop) (w : World) (hs : Sl w Pb A c bs) (hl : bs.length ≤ 70368744177664) :
    Calls Tryd.prog 59 #[.slice A bs.length c] w fun e w' => e = .returned (numV (numOf bs)) ∧ w = w' := by
  have hc := hs.1
  by_cases h0 : bs = []
  · subst h0
    have e : numOf [] = (0, 0, 2) := by decide
    cases A with
    | none =>
      go_enter Tryd.func59, Tryd.ntmps59
      go_wp2
      go_loopw [5, 14] (fun n i wr => i = .int .i64 (0 : Nat) ∧ w = wr) (fun _ _ _ => 0)
      case atStart => exact ⟨rfl, rfl⟩
      case round =>
        obtain ⟨rfl, rfl⟩ := hrel
        go_wp2
        go_ret3
        exact ⟨by rw [e]; rfl, rfl⟩
    | some ad =>
      go_enter Tryd.func59, Tryd.ntmps59
      go_wp2
      go_loopw [5, 14] (fun n i wr => i = .int .i64 (0 : Nat) ∧ w = wr) (fun _ _ _ => 0)
      case atStart => exact ⟨rfl, rfl⟩
      case round =>
        obtain ⟨rfl, rfl⟩ := hrel
        go_wp2
        go_ret3
        exact ⟨by rw [e]; rfl, rfl⟩
  · obtain ⟨b, o, rfl, _, hcell⟩ := hs.2 (List.length_pos_iff.2 h0)
    have hpos : 0 < bs.length := List.length_pos_iff.2 h0
    have Hcell := hide hcell
    clear hcell hs
    obtain ⟨N, hN⟩ : ∃ N, N = bs.length := ⟨_, rfl⟩
    rw [← hN] at hc hl hpos
    obtain ⟨M, hM, hM2⟩ : ∃ M : Nat, (if (10 : Int) < (N : Int) then (10 : Int) else (N : Int)) = (M : Int) ∧ M = min 10 N := by
      refine ⟨min 10 N, ?_, rfl⟩
      split <;> omega
    have hMN : M ≤ N := by omega
    have hM10 : M ≤ 10 := by omega
    have HM := hide hM2
    clear hM2
    rw [← hN]
    have HN := hide hN
    clear hN
    go_enter Tryd.func59, Tryd.ntmps59
    go_wp2
    go_loopw [5, 14] (fun n i wr => ∃ k m : Nat, k ≤ M ∧ i = .int .i64 k ∧ n = .int .u64 m ∧ (∀ j, j < k → 128 ≤ (bs.getD j 0).toNat) ∧ (k ≤ 9 → m = val (bs.take k)) ∧ m < 18446744073709551616 ∧ w = wr) (fun _ i _ => M - (intOf i).toNat)
    case atStart => exact ⟨0, 0, Nat.zero_le _, rfl, rfl, fun j h => absurd h (Nat.not_lt_zero _), fun _ => rfl, by omega, rfl⟩
    case round =>
      obtain ⟨k, m, hk, rfl, rfl, hall, hval, hm, rfl⟩ := hrel
      have Hall := hide hall
      have Hval := hide hval
      have Hm := hide hm
      clear hall hval hm
      by_cases hlt : k < M
      · have hck := Hcell.out k (by have := HN.out; omega)
        obtain ⟨x, hx⟩ : ∃ x, x = (bs.getD k 0).toNat := ⟨_, rfl⟩
        rw [← hx] at hck
        have hx8 : x < 256 := by rw [hx]; exact toNat_lt _
        have Hx := hide hx
        clear hx
        have hmv : m = val (bs.take k) := Hval.out (by omega)
        have hkl : k < bs.length := by have := HN.out; omega
        have hml := val_lt (bs.take k)
        rw [← hmv, List.length_take, Nat.min_eq_left (by omega)] at hml
        obtain ⟨q, hq, hq64, hqv⟩ := or_step m x k hml (by omega)
        have hvs : val (bs.take (k + 1)) = m + 128 ^ k * (x % 128) := by
          rw [List.take_succ_eq_append_getElem hkl, val_append, ← hmv, List.length_take, Nat.min_eq_left (by omega)]
          have e : bs[k] = bs.getD k 0 := by simp [List.getElem?_eq_getElem hkl]
          rw [e]
          simp only [val]
          rw [← Hx.out]
          rfl
        have Hq := hide hq64
        have Hqv := hide (show k ≤ 8 ∨ x ≤ 1 → q = val (bs.take (k + 1)) from fun h => (hqv h).trans hvs.symm)
        have Hkl := hide hkl
        clear hq64 hqv hmv hkl hml hvs
        by_cases h128 : 128 ≤ x
        · go_wp2
          refine ⟨⟨k + 1, q, by omega, by go_num, rfl, fun j hj => ?_, fun h9 => Hqv.out (.inl (by omega)), Hq.out, trivial⟩, by simp [intOf]; omega⟩
          rcases Nat.lt_or_ge j k with hj' | hj'
          · exact Hall.out j hj'
          · obtain rfl : j = k := by omega
            rw [← Hx.out]; exact h128
        · have Hlead := hide (lead_of bs k Hkl.out Hall.out (by rw [← Hx.out]; omega))
          have Hxs := hide (show x = (bs.getD k 0).toNat from Hx.out)
          by_cases hk0 : k < 1
          · have Hr := hide (num_ok bs k Hlead.out (by omega) Hkl.out (by omega))
            rw [← Hqv.out (.inl (by omega))] at Hr
            go_wp2
            go_ret3
            exact ⟨by rw [Hr.out]; simp [numV], rfl⟩
          · by_cases hk9 : 8 < k
            · by_cases hx0 : x < 1
              · have Hr := hide (num_form bs k Hlead.out (by omega) Hkl.out (by rw [← Hxs.out]; omega))
                go_wp2
                go_ret3
                exact ⟨by rw [Hr.out]; simp [numV], rfl⟩
              · by_cases hx1 : x < 2
                · have Hr := hide (num_ok bs k Hlead.out (by omega) Hkl.out (by rw [← Hxs.out]; omega))
                  rw [← Hqv.out (.inr (by omega))] at Hr
                  have eb1 : ((x : Int) == 0) = false := beq_eq_false_iff_ne.2 (by omega)
                  have eb2 : decide (1 < (x : Int)) = false := decide_eq_false (by omega)
                  go_wp2
                  go_ret3
                  exact ⟨by rw [Hr.out]; simp [numV]; omega, rfl⟩
                · have Hr := hide (num_form bs k Hlead.out (by omega) Hkl.out (by rw [← Hxs.out]; omega))
                  go_wp2
                  go_ret3
                  exact ⟨by rw [Hr.out]; simp [numV], rfl⟩
            · by_cases hx0 : x < 1
              · have Hr := hide (num_form bs k Hlead.out (by omega) Hkl.out (by rw [← Hxs.out]; omega))
                go_wp2
                go_ret3
                exact ⟨by rw [Hr.out]; simp [numV], rfl⟩
              · have Hr := hide (num_ok bs k Hlead.out (by omega) Hkl.out (by rw [← Hxs.out]; omega))
                rw [← Hqv.out (.inl (by omega))] at Hr
                go_wp2
                go_ret3
                exact ⟨by rw [Hr.out]; simp [numV], rfl⟩
      · obtain rfl : k = M := by omega
        by_cases h10 : N < 10
        · have Hr := hide (num_short bs (fun j hj => Hall.out j (by have := HM.out; have := HN.out; omega)) (by have := HN.out; omega))
          go_wp2
          go_ret3
          exact ⟨by rw [Hr.out]; simp [numV], rfl⟩
        · have Hr := hide (num_long bs (fun j hj => Hall.out j (by have := HM.out; have := HN.out; omega)) (by have := HN.out; omega))
          go_wp2
          go_ret3
          exact ⟨by rw [Hr.out]; simp [numV], rfl⟩
end Go.Proofs.YtlplgkdoiinfhaaDoor.Wr

namespace Go.Proofs.YtlplgkdoiinfhaaDoor.Wr
open Go Go.RowKit Kt

theorem sl_take {w : World} {P : Nat → Prop} {A : Option Addr} {c k : Nat} {bs : List UInt8} (h : Sl w P A c bs) (hk : k ≤ bs.length) : Sl w P A c (bs.take k) := by
  have hl : (bs.take k).length = k := by rw [List.length_take]; omega
  refine ⟨by have := h.1; omega, fun hn => ?_⟩
  rw [hl] at hn
  obtain ⟨b, o, rfl, hp, hc⟩ := h.2 (by omega)
  refine ⟨b, o, rfl, hp, fun j hj => ?_⟩
  rw [hl] at hj
  rw [hc j (by omega), take_getD _ _ _ hj]

theorem text_bad (bs : List UInt8) (most : Int) (h : (numOf bs).2.2 ≠ 0) : textOf bs most = ([], 0, (numOf bs).2.2) := by unfold textOf; rw [if_pos h]
theorem text_over (bs : List UInt8) (most : Int) (n k : Nat) (h : numOf bs = (n, k, 0)) (h2 : (max most 0).toNat < n) : textOf bs most = ([], 0, 4) := by
  unfold textOf; rw [h, if_neg (by simp), if_pos h2]
theorem text_less (bs : List UInt8) (most : Int) (n k : Nat) (h : numOf bs = (n, k, 0)) (h2 : ¬ (max most 0).toNat < n) (h3 : bs.length - k < n) : textOf bs most = ([], 0, 2) := by
  unfold textOf; rw [h, if_neg (by simp), if_neg h2, if_pos h3]
theorem text_fine (bs : List UInt8) (most : Int) (n k : Nat) (h : numOf bs = (n, k, 0)) (h2 : ¬ (max most 0).toNat < n) (h3 : ¬ bs.length - k < n) : textOf bs most = ((bs.drop k).take n, k + n, 0) := by
  unfold textOf; rw [h, if_neg (by simp), if_neg h2, if_neg h3]

theorem clone_of (l : List UInt8) (n : Nat) (hn : l.length = n) (A : Option Addr) (c : Nat) (Pb : Nat → Prop) (w : World) (hs : Sl w Pb A c l) (hl : l.length ≤ 70368744177664) :
    Calls Tryd.prog 56 #[.slice A n c] w fun e w' => ∃ v, e = .returned v ∧ Own w' w.heap.size 5 v l ∧ Below w.heap.size w w' := by
  subst hn
  exact clone_any l A c Pb w hs hl

set_option maxHeartbeats 2000000 in
set_option maxRecDepth 100000 in
theorem text_any (bs : List UInt8) (most : Int) (A : Option Addr) (c : Nat) (Pb : Nat → Prop) (w : World) (hs : Sl w Pb A c bs) (hl : bs.length ≤ 70368744177664) (hm1 : most ≤ 9223372036854775807) :
    Calls Tryd.prog 76 #[.slice A bs.length c, .int .i64 most] w fun e w' => ∃ v, e = .returned (.tuple #[v, .int .i64 ((textOf bs most).2.1 : Nat), .int .i64 ((textOf bs most).2.2 : Nat)]) ∧ Own w' w.heap.size 5 v (textOf bs most).1 ∧ Below w.heap.size w w' := by
  have hnum := number_any bs A c Pb w hs hl
  have hc := hs.1
  have Hs := hide hs
  clear hs
  obtain ⟨M, hM⟩ : ∃ M, M = (max most 0).toNat := ⟨_, rfl⟩
  have hmx : (if most < 0 then (0 : Int) else most) = (M : Int) := by split <;> omega
  have hM63 : M < 9223372036854775808 := by omega
  have hwM : IntKind.u64.wrap (M : Int) = (M : Int) := by rw [IntKind.wrap_u64]; omega
  have HM := hide hM
  have Hm1 := hide hm1
  have HM63 := hide hM63
  clear hM hm1 hM63
  obtain ⟨n, k, e, hr⟩ : ∃ n k e, numOf bs = (n, k, e) := ⟨_, _, _, rfl⟩
  rw [hr] at hnum
  have Hnum := hide hnum
  clear hnum
  have Hr := hide hr
  by_cases he : e = 0
  · subst he
    obtain ⟨hn64, hk1, hk10, hkl, _⟩ := numOf_ok bs n k hr
    have Hn64 := hide hn64
    clear hn64 hr
    by_cases h2 : M < n
    · have Ht := hide (text_over bs most n k Hr.out (by rw [← HM.out]; exact h2))
      go_enter Tryd.func76, Tryd.ntmps76
      go_wp2_with (go_at_call 59; go_loud (refine Hnum.out.mono ?_; rintro e w1 ⟨rfl, rfl⟩; simp only [numV]))
      go_ret3
      exact ⟨_, by rw [Ht.out]; rfl, by rw [Ht.out]; exact Own.nil _ _ _, Below.refl _ _⟩
    · by_cases h3 : bs.length - k < n
      · have Ht := hide (text_less bs most n k Hr.out (by rw [← HM.out]; exact h2) h3)
        go_enter Tryd.func76, Tryd.ntmps76
        go_wp2_with (go_at_call 59; go_loud (refine Hnum.out.mono ?_; rintro e w1 ⟨rfl, rfl⟩; simp only [numV]))
        go_ret3
        exact ⟨_, by rw [Ht.out]; rfl, by rw [Ht.out]; exact Own.nil _ _ _, Below.refl _ _⟩
      · have Ht := hide (text_fine bs most n k Hr.out (by rw [← HM.out]; exact h2) h3)
        have hpos : 0 < bs.length := by omega
        obtain ⟨b, o, rfl, _, _⟩ := Hs.out.2 hpos
        have hx : ((bs.drop k).take n).length = n := by rw [List.length_take, List.length_drop]; omega
        have Hx := hide hx
        have hsx := sl_take (Hs.out.cut (k := k) hkl) (k := n) (by rw [List.length_drop]; omega)
        clear hx
        by_cases hck : c = k
        · subst hck
          rw [if_pos rfl, Nat.sub_self] at hsx
          have Hsx := hide hsx
          clear hsx
          go_enter Tryd.func76, Tryd.ntmps76
          go_wp2_with (go_at_call 59; go_loud (refine Hnum.out.mono ?_; rintro e w1 ⟨rfl, rfl⟩; simp only [numV]))
          refine (clone_of _ n Hx.out _ _ _ _ Hsx.out (by rw [Hx.out]; omega)).mono ?_
          rintro e w1 ⟨v1, rfl, hown1, hb1⟩
          go_wp2
          go_ret3
          rw [Ht.out]
          exact ⟨_, by push_cast; rfl, hown1, hb1⟩
        · rw [if_neg hck] at hsx
          simp only [Option.map_some, Addr.add_mid] at hsx
          have Hsx := hide hsx
          clear hsx
          have Hck := hide hck
          go_enter Tryd.func76, Tryd.ntmps76
          go_wp2_with (go_at_call 59; go_loud (refine Hnum.out.mono ?_; rintro e w1 ⟨rfl, rfl⟩; simp only [numV]))
          refine (clone_of _ n Hx.out _ _ _ _ Hsx.out (by rw [Hx.out]; omega)).mono ?_
          rintro e w1 ⟨v1, rfl, hown1, hb1⟩
          go_wp2
          go_ret3
          rw [Ht.out]
          exact ⟨_, by push_cast; rfl, hown1, hb1⟩
  · have Ht := hide (text_bad bs most (by rw [hr]; exact he))
    have Hf := hide (numOf_fail bs n k e hr he)
    go_enter Tryd.func76, Tryd.ntmps76
    go_wp2_with (go_at_call 59; go_loud (refine Hnum.out.mono ?_; rintro e w1 ⟨rfl, rfl⟩; simp only [numV]))
    go_ret3
    rw [Ht.out, hr]
    exact ⟨_, rfl, Own.nil _ _ _, Below.refl _ _⟩
end Go.Proofs.YtlplgkdoiinfhaaDoor.Wr
