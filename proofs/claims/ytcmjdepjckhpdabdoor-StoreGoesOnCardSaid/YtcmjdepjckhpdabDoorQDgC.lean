/-
  What digest.filling comes to.
-/
import Derived.Test.YtcmjdepjckhpdabDoorDgB
import Derived.Test.YtcmjdepjckhpdabDoorQSha
namespace Go.Proofs.YtcmjdepjckhpdabDoor.Dg
open Go Go.RowKit Kt Sha

theorem info8 : (Tryd.prog.info? 5).map (fun i => (i.zero, i.size, i.bytes)) = some (some (.int .u8 0), 1, 1) := by kernel_rfl

theorem zeros_le (n : Nat) : zeros n ≤ 63 := by unfold zeros; omega
theorem zeros_test (n k : Nat) (h : k < zeros n) : (n + (1 + k) + 8) % 64 ≠ 0 := by unfold zeros at h; omega
theorem zeros_end (n : Nat) : (n + (1 + zeros n) + 8) % 64 = 0 := by unfold zeros; omega
theorem bits8_succ (n k : Nat) : bits8 n (k + 1) = bits8 n k ++ [UInt8.ofNat (n * 8 / 256 ^ (7 - k))] := by
  simp [bits8, List.range_succ]
theorem bits8_len (n k : Nat) : (bits8 n k).length = k := by simp [bits8]
def head (k : Nat) : List UInt8 := [128] ++ List.replicate k 0
theorem head_succ (k : Nat) : head (k + 1) = head k ++ [0] := by simp [head, List.replicate_succ']
theorem head_len (k : Nat) : (head k).length = 1 + k := by simp [head]; omega

set_option maxHeartbeats 1000000 in
set_option maxRecDepth 100000 in
theorem filling_any (n : Nat) (w : World) (hn : n < 4294967296) :
    Calls Tryd.prog 43 #[.int .u64 n] w fun e w' => ∃ v, e = .returned v ∧ Own w' w.heap.size 5 v (pad n) ∧ Below w.heap.size w w' := by
  go_enter Tryd.func43, Tryd.ntmps43
  go_wp2
  go_loopw [3] (fun v wr => ∃ k g c : Nat, k ≤ zeros n ∧ v = .slice (some ⟨g, 0, none⟩) (1 + k) c ∧ Own wr w.heap.size 5 v (head k) ∧ Below w.heap.size w wr) (fun v _ => match v with | .slice _ m _ => 65 - m | _ => 0)
  case atStart =>
    exact ⟨0, w.heap.size, 1, by omega, rfl, Own.lit w _ _ [128] _ rfl (Nat.le_refl _) (by simp [maxLen]), (Below.refl _ _).alloc (Nat.le_refl _) _⟩
  case round =>
    obtain ⟨k, g, c, hk, rfl, hown, hb⟩ := hrel
    have hz := zeros_le n
    by_cases hlt : k < zeros n
    · have ht := zeros_test n k hlt
      have Hlt := hide hlt
      have Hown := hide hown
      have Hb := hide hb
      clear hown hb
      go_wp2_with (refine wpList_push rfl (.tmp 15) (.tmp 16) 38 rfl Tryd.underlying38 info8 w.heap.size w (.slice (some ⟨g, 0, none⟩) (1 + k) c) (head k) [0] 1 1 rfl rfl Hown.out rfl rfl (by rw [head_len]; simp; omega) Hb.out Hb.out.size ?_; intro v1 w1 hown1 hb1 _)
      go_roundw
      case rel =>
        rw [← head_succ] at hown1
        obtain ⟨g1, c1, rfl, _, _⟩ := hown1.form (by rw [head_len]; omega)
        exact ⟨k + 1, g1, c1, by omega, by rw [head_len], hown1, hb1⟩
      case measure =>
        obtain ⟨g1, c1, rfl, _, _⟩ := hown1.form (by simp)
        simp [head_len]; omega
    · obtain rfl : k = zeros n := by omega
      have ht := zeros_end n
      have htb : (((n : Int) + (1 + (zeros n : Int)) + 8) % 64 != 0) = false := by
        rw [bne_eq_false_iff_eq]; omega
      go_wp2
      go_loopw [3, 5] (fun v i wr => ∃ j g c : Nat, j ≤ 8 ∧ i = .int .i64 (56 - 8 * (j : Int)) ∧ v = .slice (some ⟨g, 0, none⟩) (1 + zeros n + j) c ∧ Own wr w.heap.size 5 v (head (zeros n) ++ bits8 n j) ∧ Below w.heap.size w wr) (fun _ i _ => (intOf i + 8).toNat)
      case atStart => exact ⟨0, g, c, by omega, rfl, rfl, by simpa [bits8] using hown, hb⟩
      case round =>
        obtain ⟨j, g, c, hj, rfl, rfl, hown, hb⟩ := hrel
        have Hown := hide hown
        have Hb := hide hb
        clear hown hb
        by_cases hlt : j < 8
        · have h0 : 0 ≤ 56 - 8 * (j : Int) := by omega
          have h1 : 56 - 8 * (j : Int) ≤ 56 := by omega
          have hc : Hid ((#[Value.int .u8 ((n : Int) * 8 / 2 ^ (56 - 8 * j) % 256)] : Array Value) = (u8s [UInt8.ofNat (n * 8 / 256 ^ (7 - j))]).toArray) := by
            have e : (2 : Int) ^ (56 - 8 * j) = ((256 ^ (7 - j) : Nat) : Int) := by
              rw [show 56 - 8 * j = 8 * (7 - j) from by omega, Int.pow_mul]
              simp
            simp only [Hid, u8s, List.map_cons, List.map_nil, UInt8.toNat_ofNat']
            rw [e]
            simp
          go_wp2_with (refine wpList_push rfl (.tmp 24) (.tmp 29) 38 rfl Tryd.underlying38 info8 w.heap.size w (.slice (some ⟨g, 0, none⟩) (1 + zeros n + j) c) (head (zeros n) ++ bits8 n j) [UInt8.ofNat (n * 8 / 256 ^ (7 - j))] 1 1 rfl rfl Hown.out hc.out rfl (by simp [head_len, bits8_len]; omega) Hb.out Hb.out.size ?_; intro v1 w1 hown1 hb1 _)
          go_roundw
          case rel =>
            rw [List.append_assoc, ← bits8_succ] at hown1
            obtain ⟨g1, c1, rfl, _, _⟩ := hown1.form (by simp [head_len]; omega)
            exact ⟨j + 1, g1, c1, by omega, by go_num, by simp [head_len, bits8_len], hown1, hb1⟩
          case measure => simp [intOf]; omega
        · obtain rfl : j = 8 := by omega
          go_wp2
          go_ret
          exact ⟨_, rfl, Hown.out, Hb.out⟩
end Go.Proofs.YtcmjdepjckhpdabDoor.Dg
namespace Go.Proofs.YtcmjdepjckhpdabDoor.Sha
open Go Kt

theorem blocks_append (a b : List UInt8) : ∀ q, 64 * q ≤ a.length → blocks (a ++ b) q = blocks a q
  | 0, _ => rfl
  | q + 1, h => by
    simp only [blocks]
    rw [blocks_append a b q (by omega), List.drop_append_of_le_length (by omega), List.take_append_of_le_length (by rw [List.length_drop]; omega)]

theorem splice_len {α : Type} (L : List α) (k : Nat) (x : List α) (h : k + x.length ≤ L.length) : (splice L k x).length = L.length := length_splice L k x h

theorem tail_part {t x last : List UInt8} (hl : last.length = 64) (ht : last.take (t.length % 64) = t.drop (t.length / 64 * 64)) (hx : t.length % 64 + x.length < 64) :
    (splice last (t.length % 64) x).take ((t ++ x).length % 64) = (t ++ x).drop ((t ++ x).length / 64 * 64) ∧ state (t ++ x) = state t := by
  have e1 : (t ++ x).length / 64 = t.length / 64 := by rw [List.length_append]; omega
  have e2 : (t ++ x).length % 64 = t.length % 64 + x.length := by rw [List.length_append]; omega
  refine ⟨?_, ?_⟩
  · rw [e1, e2, List.drop_append_of_le_length (by omega), ← ht, splice, ← List.append_assoc, List.take_append_of_le_length (by simp; omega),
      List.take_of_length_le (by simp; omega)]
  · unfold state
    rw [e1, blocks_append t x _ (by omega)]

theorem tail_full {t x last : List UInt8} (hl : last.length = 64) (ht : last.take (t.length % 64) = t.drop (t.length / 64 * 64)) (hx : t.length % 64 + x.length = 64) :
    (t ++ x).length % 64 = 0 ∧ state (t ++ x) = mix (state t) (ext (splice last (t.length % 64) x) 64) := by
  have e1 : (t ++ x).length / 64 = t.length / 64 + 1 := by rw [List.length_append]; omega
  have e2 : (t ++ x).length % 64 = 0 := by rw [List.length_append]; omega
  refine ⟨e2, ?_⟩
  have e3 : splice last (t.length % 64) x = ((t ++ x).drop (64 * (t.length / 64))).take 64 := by
    have e4 : last.drop (t.length % 64 + x.length) = [] := List.drop_of_length_le (by omega)
    have e5 : (last.take (t.length % 64) ++ x).length ≤ 64 := by rw [List.length_append, List.length_take]; omega
    rw [show 64 * (t.length / 64) = t.length / 64 * 64 from by omega, List.drop_append_of_le_length (by omega), ← ht, splice, e4, List.append_nil, List.take_of_length_le e5]
  unfold state
  rw [e1, e3]
  simp only [blocks]
  rw [blocks_append t x _ (by omega)]

theorem splice_mid (A L M : List Value) (k o : Nat) (x : List Value) (hA : A.length = o) (h : k + x.length ≤ L.length) :
    splice (A ++ (L ++ M)) (o + k) x = A ++ (splice L k x ++ M) := by
  subst hA
  simp only [splice]
  rw [List.take_append, List.drop_append, List.take_of_length_le (by omega), List.drop_of_length_le (by omega), List.nil_append,
    show A.length + k - A.length = k from by omega, show A.length + k + x.length - A.length = k + x.length from by omega,
    List.take_append_of_le_length (by omega), List.drop_append_of_le_length (by omega)]
  simp
theorem splice_u8s (L x : List UInt8) (k : Nat) : splice (u8s L) k (u8s x) = u8s (splice L k x) := by
  simp [splice, u8s, List.map_take, List.map_drop]
theorem pad_sum (n : Nat) : (n + (pad n).length) % 64 = 0 := by
  simp [pad, bits8, zeros]; omega
end Go.Proofs.YtcmjdepjckhpdabDoor.Sha
