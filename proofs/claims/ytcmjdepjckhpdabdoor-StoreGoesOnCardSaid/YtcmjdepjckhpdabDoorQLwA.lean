/-
  The statements' own example (awake) comes out true, wherever it is asked.
-/
import Derived.Test.YtcmjdepjckhpdabDoorQDgE
import Derived.Lib.SlBytesConst
import Derived.Test.YtcmjdepjckhpdabDoorQZB
namespace Go.Proofs.YtcmjdepjckhpdabDoor.Dg
open Go Go.RowKit Kt Sha

def abcD : ByteArray := ⟨(sha [97, 98, 99]).toArray⟩
def abcL : List UInt8 := [98, 97, 55, 56, 49, 54, 98, 102, 56, 102, 48, 49, 99, 102, 101, 97, 52, 49, 52, 49, 52, 48, 100, 101, 53, 100, 97, 101, 50, 50, 50, 51, 98, 48, 48, 51, 54, 49, 97, 51, 57, 54, 49, 55, 55, 97, 57, 99, 98, 52, 49, 48, 102, 102, 54, 49, 102, 50, 48, 48, 49, 53, 97, 100]
theorem abc_hex : hexOf (sha [97, 98, 99]) = abcL := by decide +kernel
theorem abc_parse : parseOf abcL = some (sha [97, 98, 99]) := by decide +kernel
theorem of_abc (A : Option Addr) (c : Nat) (Pb : Nat → Prop) (w : World) (hs : Sl w Pb A c [97, 98, 99]) (ht : Tab w) :
    Calls Tryd.prog 21 #[.slice A 3 c] w fun e w' => e = .returned (.string abcD) ∧ Below w.heap.size w w' :=
  of_any [97, 98, 99] A c Pb w hs ht (by simp)
/-- the world in which the bytes "abc" lie in a new block -/
noncomputable def abcW (w : World) : World := w.alloc (.cells #[.int .u8 97, .int .u8 98, .int .u8 99] 5 (3, 4))
theorem abc_sl (w : World) : Sl (abcW w) (fun _ => True) (some ⟨w.heap.size, 0, none⟩) 3 [97, 98, 99] :=
  ⟨by simp, fun _ => ⟨w.heap.size, 0, rfl, trivial, fun j hj => by
    rw [Nat.zero_add, cell_of_row (abcW w) w.heap.size j _ _ (3, 4) (heap_alloc_new w _)]
    rcases j with _ | _ | _ | j
    · rfl
    · rfl
    · rfl
    · simp at hj; omega⟩⟩
theorem abc_below {B : Nat} {w0 w : World} (h : Below B w0 w) (hB : B ≤ w.heap.size) : Below B w0 (abcW w) := h.alloc hB _
theorem abc_conv (w : World) : (convert 38 38 (.slice (some ⟨w.heap.size, 0, none⟩) 3 3)).run Tryd.prog (w.alloc (.cells #[.int .u8 97, .int .u8 98, .int .u8 99] 5)) = .ok (.slice (some ⟨w.heap.size, 0, none⟩) 3 3) (abcW w) :=
  Lib.run_convert_bytes_const w _ _ _ 3 3 Tryd.underlying38 Tryd.underlying5

end Go.Proofs.YtcmjdepjckhpdabDoor.Dg
namespace Go.Proofs.YtcmjdepjckhpdabDoor.Dg
open Go Go.RowKit Kt Sha

def rsum (x n : Nat) : Nat := x / 2 ^ n + x % 2 ^ n * 2 ^ (32 - n)
theorem rsum_rotr (x n : Nat) (h : x < 4294967296) (hn : n ≤ 32) : rotr x n = rsum x n := by
  unfold rotr rsum
  have hp : 2 ^ n * 2 ^ (32 - n) = 4294967296 := by rw [← Nat.pow_add, show n + (32 - n) = 32 from by omega]
  have e : x * 2 ^ (32 - n) % 4294967296 = x % 2 ^ n * 2 ^ (32 - n) := by
    rw [← hp, Nat.mul_mod_mul_right]
  have hlt : x / 2 ^ n < 2 ^ (32 - n) := by
    rw [Nat.div_lt_iff_lt_mul (Nat.pos_of_ne_zero (by simp)), Nat.mul_comm, hp]; exact h
  rw [e, Nat.or_comm, nat_join (32 - n) _ _ (Nat.mul_mod_left _ _) hlt]
  omega
theorem rsum_zero (x : Nat) : rsum x 0 = x := by simp [rsum, Nat.mod_one]
theorem rsum_succ (x n : Nat) (hn : n < 32) : rsum x n / 2 + rsum x n % 2 * 2147483648 = rsum x (n + 1) := by
  unfold rsum
  have hq : 2 ^ (32 - n) = 2 * 2 ^ (31 - n) := by rw [show 32 - n = (31 - n) + 1 from by omega, Nat.pow_succ, Nat.mul_comm]
  have hq' : 2 ^ (32 - (n + 1)) = 2 ^ (31 - n) := by rw [show 32 - (n + 1) = 31 - n from by omega]
  have hp : 2 ^ (n + 1) = 2 ^ n * 2 := Nat.pow_succ _ _
  have hpq : 2 ^ n * 2 ^ (31 - n) = 2147483648 := by rw [← Nat.pow_add, show n + (31 - n) = 31 from by omega]
  have hd : x / 2 ^ (n + 1) = x / 2 ^ n / 2 := by rw [hp, Nat.div_div_eq_div_mul]
  have hm : x % 2 ^ (n + 1) = x % 2 ^ n + 2 ^ n * (x / 2 ^ n % 2) := by rw [hp, Nat.mod_mul]
  rw [hq, hq', hd, hm]
  generalize x / 2 ^ n = a
  generalize x % 2 ^ n = b
  generalize 2 ^ (31 - n) = q at *
  generalize 2 ^ n = p at *
  have e1 : b * (2 * q) = 2 * (b * q) := by rw [Nat.mul_left_comm]
  have e2 : (b + p * (a % 2)) * q = b * q + a % 2 * 2147483648 := by
    rw [Nat.add_mul, ← hpq, Nat.mul_right_comm, Nat.mul_comm (p * q)]
  rw [e1, e2]
  omega
theorem rsum_lt {x n : Nat} (h : x < 4294967296) (hn : n ≤ 32) : rsum x n < 4294967296 := by rw [← rsum_rotr x n h hn]; exact rotr_lt h

theorem rturn_any (x : Nat) (n : Int) (w : World) (h : x < 4294967296) (n0 : 0 ≤ n) (n1 : n ≤ 32) :
    Calls Tryd.prog 28 #[.int .u32 x, .int .i64 n] w fun e w' => e = .returned (.int .u32 (rotr x n.toNat : Nat)) ∧ w = w' := by
  obtain ⟨m, rfl⟩ := Int.eq_ofNat_of_zero_le n0
  have hm : m ≤ 32 := by omega
  rw [Int.toNat_natCast, rsum_rotr x m h hm]
  go_enter Tryd.func28, Tryd.ntmps28
  go_wp2
  go_loop [0, 5] (fun y i => ∃ k : Nat, k ≤ m ∧ i = .int .i64 k ∧ Hid (y = .int .u32 (rsum x k : Nat))) (fun _ i => m - (intOf i).toNat)
  case atStart => exact ⟨0, Nat.zero_le _, rfl, by show _ = _; rw [rsum_zero]⟩
  case round =>
    obtain ⟨k, hk, rfl, hy⟩ := hrel
    have hy := hy.out
    subst hy
    by_cases hlt : k < m
    · have hs := hide (rsum_succ x k (by omega))
      have hb := rsum_lt (n := k) h (by omega)
      generalize rsum x k = y at *
      go_wp2
      go_round
      case rel => exact ⟨k + 1, by omega, by go_num, by show _ = _; rw [← hs.out]; exact u32_eq (by omega)⟩
      case measure => simp [intOf]; omega
    · obtain rfl : k = m := by omega
      go_wp2
      go_ret
      exact ⟨rfl, rfl⟩

theorem fhead_len (bs : List UInt8) (k : Nat) : (bs ++ head k).length = bs.length + 1 + k := by rw [List.length_append, head_len]; omega
theorem fill_test (n k : Nat) (h : k < zeros n) : (n + 1 + k) % 64 ≠ 56 := by unfold zeros at h; omega
theorem fill_end (n : Nat) : (n + 1 + zeros n) % 64 = 56 := by unfold zeros; omega

set_option maxHeartbeats 1000000 in
set_option maxRecDepth 100000 in
theorem rfilled_any (bs : List UInt8) (A : Option Addr) (c : Nat) (Pb : Nat → Prop) (w : World) (hs : Sl w Pb A c bs) (hn : bs.length ≤ 200000) :
    Calls Tryd.prog 26 #[.slice A bs.length c] w fun e w' => ∃ v, e = .returned v ∧ Own w' w.heap.size 5 v (bs ++ pad bs.length) ∧ Below w.heap.size w w' := by
  have Hs1 := hide ((hs.bound).move (w' := w.alloc (.cells #[] 5)) (fun b hp hb => Below.heap_alloc w _ b hb))
  clear hs
  have Hmade := hide (Own.made w w.heap.size 5 #[] 0 (Nat.le_refl _) rfl (Nat.zero_le _))
  have Hb0 := hide ((Below.refl w.heap.size w).alloc (Nat.le_refl _) (.cells #[] 5))
  go_enter Tryd.func26, Tryd.ntmps26
  go_wp2_with (first
    | (refine wpList_cat rfl (.tmp 7) (.tmp 8) 38 rfl Tryd.underlying38 info8 w.heap.size w _ [] bs _ A c rfl rfl Hmade.out Hs1.out (by simp; omega) Hb0.out (by simp) ?_
       intro v1 w1 hown1 hb1 _
       rw [List.nil_append] at hown1
       have Hown1 := hide hown1
       have Hb1 := hide hb1
       clear hown1 hb1)
    | (refine wpList_push rfl (.tmp 10) (.tmp 11) 38 rfl Tryd.underlying38 info8 w.heap.size w v1 bs [128] 1 1 rfl rfl Hown1.out rfl rfl (by simp; omega) Hb1.out Hb1.out.size ?_
       intro v2 w2 hown2 hb2 _
       have Hown2 := hide hown2
       have Hb2 := hide hb2
       clear hown2 hb2))
  go_loopw [3] (fun v wr => ∃ k g c : Nat, k ≤ zeros bs.length ∧ v = .slice (some ⟨g, 0, none⟩) (bs.length + 1 + k) c ∧ Own wr w.heap.size 5 v (bs ++ head k) ∧ Below w.heap.size w wr) (fun v _ => bs.length + 65 - lenOf v)
  case atStart =>
    obtain ⟨g, cap, rfl, _, _⟩ := Hown2.out.form (by simp)
    exact ⟨0, g, cap, by omega, by simp, Hown2.out, Hb2.out⟩
  case round =>
    obtain ⟨k, g, c, hk, rfl, hown, hb⟩ := hrel
    have hz := zeros_le bs.length
    have Hown := hide hown
    have Hb := hide hb
    clear hown hb
    by_cases hlt : k < zeros bs.length
    · have ht := fill_test bs.length k hlt
      have htb : (((bs.length : Int) + 1 + (k : Int)) % 64 != 56) = true := by rw [bne_iff_ne]; omega
      have Hl := hide (fhead_len bs k)
      go_wp2_with (refine wpList_push rfl (.tmp 17) (.tmp 18) 38 rfl Tryd.underlying38 info8 w.heap.size w (.slice (some ⟨g, 0, none⟩) (bs.length + 1 + k) c) (bs ++ head k) [0] 1 1 rfl rfl Hown.out rfl rfl (by rw [Hl.out]; simp; omega) Hb.out Hb.out.size ?_; intro v1 w1 hown1 hb1 _)
      go_roundw
      case rel =>
        rw [List.append_assoc, ← head_succ] at hown1
        obtain ⟨g1, c1, rfl, _, _⟩ := hown1.form (by rw [fhead_len]; omega)
        exact ⟨k + 1, g1, c1, by omega, by rw [fhead_len], hown1, hb1⟩
      case measure =>
        rw [List.append_assoc, ← head_succ] at hown1
        obtain ⟨g1, c1, rfl, _, _⟩ := hown1.form (by rw [fhead_len]; omega)
        simp [lenOf, head_len]; omega
    · obtain rfl : k = zeros bs.length := by omega
      have ht := fill_end bs.length
      have htb : (((bs.length : Int) + 1 + (zeros bs.length : Int)) % 64 != 56) = false := by rw [bne_eq_false_iff_eq]; omega
      clear ht
      go_wp2
      go_loopw [3, 5, 6] (fun v p i wr => ∃ j g c pj : Nat, j ≤ 8 ∧ i = .int .i64 j ∧ Hid (pj = 72057594037927936 / 256 ^ j) ∧ p = .int .u64 pj ∧ v = .slice (some ⟨g, 0, none⟩) (bs.length + 1 + zeros bs.length + j) c ∧ Own wr w.heap.size 5 v (bs ++ head (zeros bs.length) ++ bits8 bs.length j) ∧ Below w.heap.size w wr) (fun _ _ i _ => 8 - (intOf i).toNat)
      case atStart => exact ⟨0, g, c, 72057594037927936, by omega, rfl, rfl, rfl, rfl, by simpa [bits8] using Hown.out, Hb.out⟩
      case round =>
        obtain ⟨j, g, c, pj, hj, rfl, Hp, rfl, rfl, hown, hb⟩ := hrel
        have Hown := hide hown
        have Hb := hide hb
        clear hown hb
        by_cases hlt : j < 8
        · have hpj : pj = 256 ^ (7 - j) := by
            rw [Hp.out]
            rcases j with _ | _ | _ | _ | _ | _ | _ | _ | j
            all_goals first
              | rfl
              | omega
          have hp0 : 0 < pj := by rw [hpj]; exact Nat.pos_of_ne_zero (by simp)
          have hp1 : pj ≤ 72057594037927936 := by rw [Hp.out]; exact Nat.div_le_self _ _
          have Hpn : Hid (pj / 256 = 72057594037927936 / 256 ^ (j + 1)) := by
            show _ = _
            rw [Hp.out, Nat.div_div_eq_div_mul, Nat.pow_succ]
          have Hl := hide (fhead_len bs (zeros bs.length))
          have hcs : Hid ((#[Value.int .u8 ((8 * (bs.length : Int) / (pj : Int)).tmod 256 % 256)] : Array Value) = (u8s [UInt8.ofNat (bs.length * 8 / 256 ^ (7 - j))]).toArray) := by
            simp only [Hid, u8s, List.map_cons, List.map_nil, UInt8.toNat_ofNat']
            have e1 : (8 * (bs.length : Int) / (pj : Int)) = ((bs.length * 8 / pj : Nat) : Int) := by rw [Nat.mul_comm]; simp
            rw [← hpj, e1]
            generalize bs.length * 8 / pj = q
            rw [Int.tmod_eq_emod_of_nonneg (by omega)]
            congr 3
            omega
          have Hpj := hide hpj
          clear hpj
          go_wp2_with (refine wpList_push rfl (.tmp 28) (.tmp 34) 38 rfl Tryd.underlying38 info8 w.heap.size w (.slice (some ⟨g, 0, none⟩) (bs.length + 1 + zeros bs.length + j) c) (bs ++ head (zeros bs.length) ++ bits8 bs.length j) [UInt8.ofNat (bs.length * 8 / 256 ^ (7 - j))] 1 1 rfl rfl Hown.out hcs.out rfl (by rw [List.length_append, Hl.out, bits8_len]; simp; omega) Hb.out Hb.out.size ?_; intro v1 w1 hown1 hb1 _)
          go_roundw
          case rel =>
            rw [List.append_assoc, ← bits8_succ] at hown1
            obtain ⟨g1, c1, rfl, _, _⟩ := hown1.form (by simp [head_len]; omega)
            exact ⟨j + 1, g1, c1, pj / 256, by omega, by go_num, Hpn, by simp, by simp [head_len, bits8_len]; omega, hown1, hb1⟩
          case measure => simp [intOf]; omega
        · obtain rfl : j = 8 := by omega
          go_wp2
          go_ret
          refine ⟨_, rfl, ?_, Hb.out⟩
          have := Hown.out
          rw [List.append_assoc] at this
          exact this
end Go.Proofs.YtcmjdepjckhpdabDoor.Dg
