/-
  As many files as there may be, on lists alone: the statement TreeFull.
-/
import Derived.Test.YtlplgkdoiinfhaaDoorQ1
namespace Go.Proofs.YtlplgkdoiinfhaaDoor.Tr
open Go

def dig (i : Nat) : Bs := [UInt8.ofNat (48 + i / 100), UInt8.ofNat (48 + i / 10 % 10), UInt8.ofNat (48 + i % 10)]
def full (n : Nat) : List Fl := (List.range n).map fun i => ⟨dig i, []⟩
theorem u8 (n : Nat) (h : n < 256) : (UInt8.ofNat n).toNat = n := by rw [UInt8.toNat_ofNat']; omega
theorem u8_lt {a b : Nat} (ha : a < 256) (hb : b < 256) : (UInt8.ofNat a < UInt8.ofNat b) = (a < b) := by rw [UInt8.lt_iff_toNat_lt, u8 a ha, u8 b hb]
theorem u8_eq {a b : Nat} (ha : a < 256) (hb : b < 256) : (UInt8.ofNat a = UInt8.ofNat b) = (a = b) := by rw [← UInt8.toNat_inj, u8 a ha, u8 b hb]
theorem dig_lt {i j : Nat} (h : i < j) (hj : j ≤ 1100) : lt (dig i) (dig j) = true := by
  unfold dig
  rw [lt_cons, lt_cons, lt_cons]
  have d1 : i / 100 ≤ 11 := by omega
  have d2 : j / 100 ≤ 11 := by omega
  have m1 : i / 10 % 10 < 10 := Nat.mod_lt _ (by omega)
  have m2 : j / 10 % 10 < 10 := Nat.mod_lt _ (by omega)
  have m3 : i % 10 < 10 := Nat.mod_lt _ (by omega)
  have m4 : j % 10 < 10 := Nat.mod_lt _ (by omega)
  simp only [Bool.or_eq_true, Bool.and_eq_true, decide_eq_true_iff, beq_iff_eq, u8_lt (show 48 + i / 100 < 256 by omega) (show 48 + j / 100 < 256 by omega), u8_eq (show 48 + i / 100 < 256 by omega) (show 48 + j / 100 < 256 by omega),
    u8_lt (show 48 + i / 10 % 10 < 256 by omega) (show 48 + j / 10 % 10 < 256 by omega), u8_eq (show 48 + i / 10 % 10 < 256 by omega) (show 48 + j / 10 % 10 < 256 by omega), u8_lt (show 48 + i % 10 < 256 by omega) (show 48 + j % 10 < 256 by omega)]
  omega
theorem good_byte {n : Nat} (h : 48 ≤ n) (h' : n ≤ 60) : ¬ UInt8.ofNat n = 47 ∧ (!(decide (UInt8.ofNat n < 32) || UInt8.ofNat n == 127)) = true := by
  have e := u8 n (by omega)
  refine ⟨fun h => ?_, ?_⟩
  · have := congrArg UInt8.toNat h
    rw [e] at this
    simp at this; omega
  · have h1 : ¬ UInt8.ofNat n < 32 := by rw [UInt8.lt_iff_toNat_lt, e]; simp; omega
    have h2 : ¬ UInt8.ofNat n = 127 := fun h => by
      have := congrArg UInt8.toNat h
      rw [e] at this
      simp at this; omega
    simp [h1, h2]
theorem can_three {a b c : Nat} (ha : 48 ≤ a ∧ a ≤ 60) (hb : 48 ≤ b ∧ b ≤ 60) (hc : 48 ≤ c ∧ c ≤ 60) : can [UInt8.ofNat a, UInt8.ofNat b, UInt8.ofNat c] = true := by
  obtain ⟨a1, a2⟩ := good_byte ha.1 ha.2
  obtain ⟨b1, b2⟩ := good_byte hb.1 hb.2
  obtain ⟨c1, c2⟩ := good_byte hc.1 hc.2
  unfold can
  rw [rest, if_neg a1, a2, Bool.true_and, rest, if_neg b1, b2, Bool.true_and, rest, if_neg c1, c2, Bool.true_and]
  simp [rest, part]
theorem can_dig {i : Nat} (h : i ≤ 1100) : can (dig i) = true :=
  can_three (by omega) (by omega) (by omega)
theorem go_map : ∀ (m n : Nat) (p : Option Bs), m + n ≤ 1100 → (∀ i, m ≤ i → i ≤ 1100 → above p (dig i) = true) → go p ((List.range' m n).map fun i => ⟨dig i, []⟩) = true
  | _, 0, _, _, _ => rfl
  | m, n + 1, p, h, hp => by
    rw [List.range'_succ, List.map_cons]
    simp only [go, Bool.and_eq_true, decide_eq_true_eq]
    refine ⟨⟨⟨can_dig (by omega), by simp⟩, hp m (Nat.le_refl _) (by omega)⟩, go_map (m + 1) n _ (by omega) fun i hi hi' => dig_lt (by omega) hi'⟩
theorem full_go {n : Nat} (h : n ≤ 1100) : go none (full n) = true := by
  unfold full
  rw [List.range_eq_range']
  exact go_map 0 n none (by omega) fun _ _ _ => rfl
theorem full_len (n : Nat) : (full n).length = n := by simp [full]
theorem full_right {n : Nat} (h : n ≤ 1100) : right (full n) = decide (n ≤ 1000) := by
  unfold right
  rw [full_go h, full_len, Bool.true_and]
theorem can_a : can [97] = true := by decide
theorem can_z : can [122] = true := by decide
theorem full_z {n : Nat} : ∀ f ∈ full n, f.path ≠ [122] := by
  intro f hf e
  unfold full at hf
  obtain ⟨i, _, rfl⟩ := List.mem_map.1 hf
  have := congrArg List.length e
  simp [dig] at this
theorem put_z {n : Nat} : (put (full n) ⟨[122], []⟩).2 = if n < 1000 then 0 else 4 := by
  unfold put
  rw [if_neg (show ¬ can [122] = false by rw [can_z]; decide), drop_none (full_z (n := n)), full_len]
  by_cases h : n < 1000
  · rw [if_neg (by simp; omega), if_pos h]
  · rw [if_pos (by simp; omega), if_neg h]
theorem put_one {n : Nat} (h : n ≤ 1000) (h2 : 2 ≤ n) : (put (full n) ⟨dig 1, [120]⟩).2 = 0 := by
  have hm : (⟨dig 1, []⟩ : Fl) ∈ full n := List.mem_map.2 ⟨1, List.mem_range.2 (by omega), rfl⟩
  have hlt : (drop (full n) (dig 1)).length < (full n).length := by
    unfold drop
    refine Nat.lt_of_le_of_ne (List.length_filter_le _ _) fun e => ?_
    have := List.length_filter_eq_length_iff.1 e _ hm
    simp at this
  rw [full_len] at hlt
  unfold put
  rw [if_neg (show ¬ can (dig 1) = false by rw [can_dig (by omega)]; decide), if_neg (by simp; omega)]
theorem put_a (x : Bs) : (put [] ⟨[97], x⟩).2 = if x.length ≤ 65536 then 0 else 4 := by
  unfold put
  rw [if_neg (show ¬ can [97] = false by rw [can_a]; decide)]
  by_cases h : x.length ≤ 65536
  · rw [if_neg (by simp [drop]; omega), if_pos h]
  · rw [if_pos (by simp; omega), if_neg h]
end Go.Proofs.YtlplgkdoiinfhaaDoor.Tr
