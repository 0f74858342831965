/-
  Digits tell bytes, and bytes digits: on lists alone; and the statement DigestBack's walk.
-/
import Derived.Test.YthdhlefhgjncfaaDoorLwA
namespace Go.Proofs.YthdhlefhgjncfaaDoor.Dg
open Go Go.RowKit Kt Sha

theorem hexd_hexv : ∀ c : UInt8, 0 ≤ hexv c → hexd (hexv c).toNat = c := by
  have h : ∀ n, n < 256 → (0 ≤ hexv (UInt8.ofNat n) → hexd (hexv (UInt8.ofNat n)).toNat = UInt8.ofNat n) := by decide +kernel
  intro c
  have := h c.toNat (toNat_lt c)
  rwa [UInt8.ofNat_toNat] at this
theorem hexv_hexd : ∀ n, n < 16 → hexv (hexd n) = (n : Int) := by decide +kernel
theorem hexs_at (l : List UInt8) : ∀ k, k < l.length → (hexs l).getD (2 * k) 0 = hexd ((l.getD k 0).toNat / 16) ∧ (hexs l).getD (2 * k + 1) 0 = hexd ((l.getD k 0).toNat % 16) := by
  induction l with
  | nil => intro k h; simp at h
  | cons b r ih =>
    intro k h
    have e : hexs (b :: r) = hexd (b.toNat / 16) :: hexd (b.toNat % 16) :: hexs r := rfl
    rw [e]
    cases k with
    | zero => exact ⟨rfl, rfl⟩
    | succ k =>
      have := ih k (by simpa using h)
      rw [show 2 * (k + 1) = 2 * k + 2 from by omega, show 2 * k + 2 + 1 = (2 * k + 1) + 2 from by omega]
      simpa [List.getD_cons_succ] using this
theorem parse_hexs (l : List UInt8) : ∀ k, k ≤ l.length → parseN (hexs l) k = some (l.take k)
  | 0, _ => rfl
  | k + 1, h => by
    have h1 := hexs_at l k (by omega)
    have hb := toNat_lt (l.getD k 0)
    simp only [parseN, parse_hexs l k (by omega)]
    rw [h1.1, h1.2, hexv_hexd _ (by omega), hexv_hexd _ (by omega), if_neg (by omega)]
    have e : ((((l.getD k 0).toNat / 16 : Nat) : Int) * 16 + (((l.getD k 0).toNat % 16 : Nat) : Int)).toNat = (l.getD k 0).toNat := by omega
    rw [e, UInt8.ofNat_toNat, List.take_succ_eq_append_getElem (by omega)]
    simp [List.getElem?_eq_getElem (show k < l.length by omega)]
theorem parse_hex (l : List UInt8) (h : l.length = 32) : parseOf (hexOf l) = some l := by
  have e : hexOf l = hexs l := if_pos h
  rw [e, parseOf, if_pos (by rw [hexs_len]; omega), ← h, parse_hexs l _ (Nat.le_refl _), List.take_of_length_le (Nat.le_refl _)]
theorem hexs_parse (s : List UInt8) : ∀ k r, 2 * k ≤ s.length → parseN s k = some r → hexs r = s.take (2 * k)
  | 0, r, _, h => by cases h; simp [hexs]
  | k + 1, r, hk, h => by
    simp only [parseN] at h
    cases hp : parseN s k with
    | none => rw [hp] at h; cases h
    | some r' =>
      rw [hp] at h
      simp only at h
      split at h
      · cases h
      · rename_i hn
        cases h
        have ih := hexs_parse s k r' (by omega) hp
        have v1 := hexv_le (s.getD (2 * k) 0)
        have v2 := hexv_le (s.getD (2 * k + 1) 0)
        have i1 := hexd_hexv (s.getD (2 * k) 0) (by omega)
        have i2 := hexd_hexv (s.getD (2 * k + 1) 0) (by omega)
        have g1 : s.getD (2 * k) 0 = s[2 * k]'(by omega) := by simp [List.getElem?_eq_getElem (show 2 * k < s.length by omega)]
        have g2 : s.getD (2 * k + 1) 0 = s[2 * k + 1]'(by omega) := by simp [List.getElem?_eq_getElem (show 2 * k + 1 < s.length by omega)]
        generalize s.getD (2 * k) 0 = x at *
        generalize s.getD (2 * k + 1) 0 = y at *
        have e : (UInt8.ofNat (hexv x * 16 + hexv y).toNat).toNat = (hexv x).toNat * 16 + (hexv y).toNat := by
          rw [UInt8.toNat_ofNat']
          omega
        have e2 : hexs (r' ++ [UInt8.ofNat (hexv x * 16 + hexv y).toNat]) = hexs r' ++ [hexd (hexv x).toNat, hexd (hexv y).toNat] := by
          simp only [hexs, List.flatMap_append, List.flatMap_cons, List.flatMap_nil, List.append_nil]
          rw [e, show ((hexv x).toNat * 16 + (hexv y).toNat) / 16 = (hexv x).toNat from by omega, show ((hexv x).toNat * 16 + (hexv y).toNat) % 16 = (hexv y).toNat from by omega]
        rw [e2, ih, i1, i2, g1, g2, show 2 * (k + 1) = 2 * k + 1 + 1 from by omega, List.take_succ_eq_append_getElem (show 2 * k + 1 < s.length by omega), List.take_succ_eq_append_getElem (show 2 * k < s.length by omega), List.append_assoc]
        rfl
theorem hex_parse (s r : List UInt8) (h : parseOf s = some r) : hexOf r = s ∧ r.length = 32 := by
  unfold parseOf at h
  split at h
  · rename_i hl
    have h1 := parseN_len s 32 r h
    have h2 := hexs_parse s 32 r (by omega) h
    refine ⟨?_, h1⟩
    rw [hexOf, if_pos h1, h2, List.take_of_length_le (by omega)]
  · cases h

set_option maxHeartbeats 1000000 in
set_option maxRecDepth 100000 in
theorem back_any (bs s : List UInt8) (A : Option Addr) (c : Nat) (Pb : Nat → Prop) (w : World) (hs : Sl w Pb A c bs) (ht : Tab w) (hn : bs.length ≤ 9223372036854775807) (hm : s.length ≤ 9223372036854775807) :
    Calls Tryd.prog 6 #[.slice A bs.length c, .string ⟨s.toArray⟩] w fun e w' => e = .returned (.bool true) ∧ Below w.heap.size w w' := by
  have Ht := hide ht
  have Hs := hide hs
  clear ht hs
  by_cases h1 : 300 < bs.length
  · go_enter Tryd.func6, Tryd.ntmps6
    go_wp2_with (go_at_call 8; refine (awake_any _ Ht.out).mono ?_; rintro e w1 ⟨rfl, hb1⟩; have Hb1 := hide hb1; clear hb1)
    go_ret
    exact ⟨rfl, Hb1.out⟩
  · by_cases h2 : 100 < s.length
    · go_enter Tryd.func6, Tryd.ntmps6
      go_wp2_with (go_at_call 8; refine (awake_any _ Ht.out).mono ?_; rintro e w1 ⟨rfl, hb1⟩; have Hb1 := hide hb1; clear hb1)
      go_ret
      exact ⟨rfl, Hb1.out⟩
    · have Hid1 := hide (parse_hex (sha bs) (sha_len bs))
      go_enter Tryd.func6, Tryd.ntmps6
      go_wp2_with (go_at_call 8; refine (awake_any _ Ht.out).mono ?_; rintro e w1 ⟨rfl, hb1⟩; have Hb1 := hide hb1; clear hb1)
      have hsl1 := Hs.out.move (w' := w1) (fun b _ hb => Hb1.out.block b hb)
      refine (of_any bs A c _ _ hsl1 (Ht.out.below Hb1.out) (by omega)).mono ?_
      rintro e w2 ⟨rfl, hb2⟩
      have Hb2 := hide (Hb1.out.trans (hb2.mono Hb1.out.size))
      clear hb2 hsl1
      generalize hid : sha bs = id at *
      clear hid
      go_wp2_with fail
      refine (hex_any id _).mono ?_
      rintro e w3 ⟨rfl, hb3⟩
      have Hb3 := hide (Hb2.out.trans (hb3.mono Hb2.out.size))
      clear hb3
      go_wp2_with fail
      refine (parse_any (hexOf id) _).mono ?_
      rintro e w4 ⟨rfl, hb4⟩
      have Hb4 := hide (Hb3.out.trans (hb4.mono Hb3.out.size))
      clear hb4
      rw [Hid1.out]
      simp only [parsed, Option.getD_some, Option.isSome_some]
      go_wp2_with fail
      refine (parse_any s _).mono ?_
      rintro e w5 ⟨rfl, hb5⟩
      have Hb5 := hide (Hb4.out.trans (hb5.mono Hb4.out.size))
      clear hb5
      cases hp : parseOf s with
      | none =>
        clear hp
        simp only [parsed, Option.getD_none, Option.isSome_none]
        go_wp2
        go_ret
        exact ⟨rfl, Hb5.out⟩
      | some r =>
        have Hr := hide (hex_parse s r hp)
        have hr32 : (r.length : Int) = 32 := by have := Hr.out.2; omega
        clear hp
        simp only [parsed, Option.getD_some, Option.isSome_some]
        go_wp2_with fail
        refine (hex_any r _).mono ?_
        rintro e w6 ⟨rfl, hb6⟩
        have Hb6 := hide (Hb5.out.trans (hb6.mono Hb5.out.size))
        clear hb6
        rw [Hr.out.1]
        go_wp2
        go_ret
        exact ⟨rfl, Hb6.out⟩
end Go.Proofs.YthdhlefhgjncfaaDoor.Dg
