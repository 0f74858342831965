/-
  What digest.turn, digest.spread and digest.mix come to, for every argument and every world.
-/
import Derived.Test.YtcmjdepjckhpdabDoorRows
import Derived.Test.YtcmjdepjckhpdabDoorQSha
namespace Go.Proofs.YtcmjdepjckhpdabDoor.Dg
open Go Go.RowKit Kt Sha

theorem turn_any (x : Nat) (n : Int) (w : World) (h : x < 4294967296) (n0 : 0 ≤ n) (n1 : n ≤ 32) :
    Calls Tryd.prog 50 #[.int .u32 x, .int .u64 n] w fun e w' => e = .returned (.int .u32 (rotr x n.toNat : Nat)) ∧ w = w' := by
  go_enter Tryd.func50, Tryd.ntmps50
  go_wp2
  go_ret
  refine ⟨?_, rfl⟩
  obtain ⟨m, rfl⟩ := Int.eq_ofNat_of_zero_le n0
  have hm : m ≤ 32 := by omega
  have e1 : ((32 : Int) - (m : Int)).toNat = 32 - m := by omega
  have e2 : (x : Int) / 2 ^ ((m : Int)).toNat = ((x / 2 ^ m : Nat) : Int) := by simp
  have e3 : (x : Int) * 2 ^ ((32 : Int) - (m : Int)).toNat % 4294967296 = ((x * 2 ^ (32 - m) % 4294967296 : Nat) : Int) := by rw [e1]; simp
  have e4 := u32_or_nat (x / 2 ^ m) (x * 2 ^ (32 - m) % 4294967296) (Nat.lt_of_le_of_lt (Nat.div_le_self _ _) h) (Nat.mod_lt _ (by omega))
  show Ending.returned (.int .u32 (bits .or .u32 _ _)) = _
  rw [e2, e3, e4]
  rfl

/-- the words of a block, as the loops lay them -/
def arr (bs : List UInt8) (k : Nat) : List Value := u32s (ext bs k ++ List.replicate (64 - k) 0)
theorem arr_len (bs : List UInt8) (k : Nat) (h : k ≤ 64) : (arr bs k).length = 64 := by simp [arr, u32s_len, ext_len]; omega
theorem arr_get (bs : List UInt8) (k i : Nat) (h : i < k) (_ : k ≤ 64) : (arr bs k)[i]? = some (.int .u32 (((ext bs k).getD i 0 : Nat) : Int)) := by
  unfold arr
  rw [u32s_append, List.getElem?_append_left (by rw [u32s_len, ext_len]; exact h), u32s_get _ _ (by rw [ext_len]; exact h)]
theorem arr_some (bs : List UInt8) (k : Nat) (hk : k < 64) : (arr bs k)[k]? = some (.int .u32 0) := by
  unfold arr
  rw [u32s_append, List.getElem?_append_right (by rw [u32s_len, ext_len]; omega), u32s_len, ext_len, Nat.sub_self, u32s_get _ _ (by simp; omega)]
  rw [List.getD_eq_getElem?_getD, List.getElem?_replicate]
  split <;> rfl
theorem arr_set (bs : List UInt8) (k : Nat) (hk : k < 64) (v : Nat) (hv : v = if k < 16 then word bs k else nextw (ext bs k) k) :
    (arr bs k).set k (.int .u32 (v : Int)) = arr bs (k + 1) := by
  unfold arr
  rw [ext_succ, ← hv, ← set_at (ext_len bs k) v hk]
  simp [u32s, List.map_set]

theorem size64 : (Tryd.prog.info? 74).map (·.size) = some 64 := by kernel_rfl
theorem arr_size (bs : List UInt8) (k : Nat) (h : k ≤ 64) : (arr bs k).toArray.size = 64 := by simp [arr_len bs k h]
theorem u32s_all (l : List Nat) : (u32s l).toArray.all (·.oneCell') = true := all_oneCell_toArray (u32s_one l)
theorem sg0_val {x : Nat} (h : x < 4294967296) : bits BinOp.xor .u32 (bits BinOp.xor .u32 (rotr x 7 : Nat) (rotr x 18 : Nat)) ((x : Int) / 8) = (sg0 x : Nat) := by
  rw [u32_xor_nat _ _ (rotr_lt h) (rotr_lt h), show ((x : Int) / 8) = ((x / 8 : Nat) : Int) from by omega, u32_xor_nat _ _ (xor_lt (rotr_lt h) (rotr_lt h)) (by omega)]; rfl
theorem sg1_val {x : Nat} (h : x < 4294967296) : bits BinOp.xor .u32 (bits BinOp.xor .u32 (rotr x 17 : Nat) (rotr x 19 : Nat)) ((x : Int) / 1024) = (sg1 x : Nat) := by
  rw [u32_xor_nat _ _ (rotr_lt h) (rotr_lt h), show ((x : Int) / 1024) = ((x / 1024 : Nat) : Int) from by omega, u32_xor_nat _ _ (xor_lt (rotr_lt h) (rotr_lt h)) (by omega)]; rfl
/-- What the loops of spread keep. -/
structure Mid (w : World) (bs : List UInt8) (k : Nat) (wr : World) : Prop where
  box : Row wr w.heap.size 91 (u8s bs)
  res : Row wr (w.heap.size + 1) 74 (u32s (List.replicate 64 0))
  row : Row wr (w.heap.size + 1 + 1) 74 (arr bs k)
  size : wr.heap.size = w.heap.size + 1 + 1 + 1
  below : Below w.heap.size w wr

theorem Mid.next {w wr : World} {bs : List UInt8} {k : Nat} (h : Mid w bs k wr) (hk : k < 64) {v : Nat} (hv : v = if k < 16 then word bs k else nextw (ext bs k) k) :
    Mid w bs (k + 1) (wr.setCell ⟨w.heap.size + 1 + 1, k, none⟩ (.int .u32 (v : Int))).drew where
  box := (h.box.off (by omega) _).drew
  res := (h.res.off (by omega) _).drew
  row := by have := (h.row.put k (.int .u32 (v : Int))).drew; rwa [arr_set bs k hk v hv] at this
  size := by simpa [World.setCell] using h.size
  below := (below_put h.below (by omega) _).drew

theorem Mid.drew {w wr : World} {bs : List UInt8} {k : Nat} (h : Mid w bs k wr) : Mid w bs k wr.drew := ⟨h.box.drew, h.res.drew, h.row.drew, h.size, h.below.drew⟩

theorem word_val (bs : List UInt8) (k : Nat) :
    bits BinOp.or .u32 (bits BinOp.or .u32 (bits BinOp.or .u32 (((bs[4 * k]?.getD 0).toNat : Int) % 4294967296 * 16777216 % 4294967296)
      (((bs[4 * k + 1]?.getD 0).toNat : Int) % 4294967296 * 65536 % 4294967296)) (((bs[4 * k + 2]?.getD 0).toNat : Int) % 4294967296 * 256 % 4294967296))
      (((bs[4 * k + 3]?.getD 0).toNat : Int) % 4294967296) = ((word bs k : Nat) : Int) := by
  unfold word
  simp only [List.getD_eq_getElem?_getD]
  generalize bs[4 * k]?.getD 0 = x0
  generalize bs[4 * k + 1]?.getD 0 = x1
  generalize bs[4 * k + 2]?.getD 0 = x2
  generalize bs[4 * k + 3]?.getD 0 = x3
  have h0 := toNat_lt x0
  have h1 := toNat_lt x1
  have h2 := toNat_lt x2
  have h3 := toNat_lt x3
  rw [show ((x0.toNat : Int) % 4294967296 * 16777216 % 4294967296) = ((x0.toNat * 16777216 : Nat) : Int) from by omega,
    show ((x1.toNat : Int) % 4294967296 * 65536 % 4294967296) = ((x1.toNat * 65536 : Nat) : Int) from by omega,
    show ((x2.toNat : Int) % 4294967296 * 256 % 4294967296) = ((x2.toNat * 256 : Nat) : Int) from by omega,
    show ((x3.toNat : Int) % 4294967296) = ((x3.toNat : Nat) : Int) from by omega]
  rw [u32_or_nat _ _ (by omega) (by omega), u32_or_nat _ _ (or_lt (by omega) (by omega)) (by omega), u32_or_nat _ _ (or_lt (or_lt (by omega) (by omega)) (by omega)) (by omega)]

set_option maxHeartbeats 1000000 in
theorem spread_any (bs : List UInt8) (w : World) (hl : bs.length = 64) :
    Calls Tryd.prog 42 #[.agg (u8s bs).toArray] w fun e w' => e = .returned (.agg (u32s (ext bs 64)).toArray) ∧ Below w.heap.size w w' := by
  have Hl := hide hl
  clear hl
  go_enter Tryd.func42, Tryd.ntmps42
  go_wp2
  go_loopw [10] (fun i wr => ∃ k : Nat, k ≤ 16 ∧ i = .int .i64 k ∧ Mid w bs k wr) (fun i _ => 16 - (intOf i).toNat)
  case atStart =>
    refine ⟨0, by omega, rfl, ⟨?_, ?_, ?_, ?_, ?_⟩⟩
    · exact ((Row.new w _ rfl rfl).alloc _).alloc _
    · exact (Row.new _ _ (by simp) rfl).alloc _
    · exact Row.new _ _ (by simp) rfl
    · simp
    · exact (((Below.refl _ _).alloc (Nat.le_refl _) _).alloc (by simp) _).alloc (by simp; omega) _
  case round =>
    obtain ⟨k, hk, rfl, hm⟩ := hrel
    by_cases hlt : k < 16
    · have hl := Hl.out
      have c0 : wr.cell? ⟨w.heap.size, 4 * k, none⟩ = some (.int .u8 (bs.getD (4 * k) 0).toNat) := by rw [hm.box.cell, u8s_get _ _ (by omega)]
      have c1 : wr.cell? ⟨w.heap.size, 4 * k + 1, none⟩ = some (.int .u8 (bs.getD (4 * k + 1) 0).toNat) := by rw [hm.box.cell, u8s_get _ _ (by omega)]
      have c2 : wr.cell? ⟨w.heap.size, 4 * k + 2, none⟩ = some (.int .u8 (bs.getD (4 * k + 2) 0).toNat) := by rw [hm.box.cell, u8s_get _ _ (by omega)]
      have c3 : wr.cell? ⟨w.heap.size, 4 * k + 3, none⟩ = some (.int .u8 (bs.getD (4 * k + 3) 0).toNat) := by rw [hm.box.cell, u8s_get _ _ (by omega)]
      have c4 : wr.cell? ⟨w.heap.size + 1 + 1, k, none⟩ = some (.int .u32 0) := by rw [hm.row.cell, arr_some _ _ (by omega)]
      have f4 : wr.frozen? ⟨w.heap.size + 1 + 1, k, none⟩ = false := hm.row.free _
      clear hl
      go_wp2
      go_region
      go_wp2
      go_roundw
      case rel =>
        refine ⟨k + 1, by omega, by go_num, ?_⟩
        rw [word_val bs k]
        exact hm.next (by omega) (by rw [if_pos hlt])
      case measure => simp [intOf]; omega
    · obtain rfl : k = 16 := by omega
      rw [show ((16 : Nat) : Int) = 16 from rfl]
      go_wp2
      go_loopw [5] (fun i wr => ∃ k : Nat, 16 ≤ k ∧ k ≤ 64 ∧ i = .int .i64 k ∧ Mid w bs k wr) (fun i _ => 64 - (intOf i).toNat)
      case atStart => exact ⟨16, by omega, by omega, rfl, hm⟩
      case round =>
        obtain ⟨k, hk0, hk, rfl, hm⟩ := hrel
        by_cases hlt : k < 64
        · have a15 : wr.cell? ⟨w.heap.size + 1 + 1, k - 15, none⟩ = some (.int .u32 ((ext bs k).getD (k - 15) 0 : Nat)) := by
            rw [hm.row.cell, arr_get _ _ _ (by omega) hk]
          have a2 : wr.cell? ⟨w.heap.size + 1 + 1, k - 2, none⟩ = some (.int .u32 ((ext bs k).getD (k - 2) 0 : Nat)) := by
            rw [hm.row.cell, arr_get _ _ _ (by omega) hk]
          have a16 : wr.cell? ⟨w.heap.size + 1 + 1, k - 16, none⟩ = some (.int .u32 ((ext bs k).getD (k - 16) 0 : Nat)) := by
            rw [hm.row.cell, arr_get _ _ _ (by omega) hk]
          have a7 : wr.cell? ⟨w.heap.size + 1 + 1, k - 7, none⟩ = some (.int .u32 ((ext bs k).getD (k - 7) 0 : Nat)) := by
            rw [hm.row.cell, arr_get _ _ _ (by omega) hk]
          have b15 := ext_getD_lt bs k (k - 15)
          have b2 := ext_getD_lt bs k (k - 2)
          have b16 := ext_getD_lt bs k (k - 16)
          have b7 := ext_getD_lt bs k (k - 7)
          have c4 : wr.cell? ⟨w.heap.size + 1 + 1, k, none⟩ = some (.int .u32 0) := by rw [hm.row.cell, arr_some _ _ (by omega)]
          have f4 : wr.frozen? ⟨w.heap.size + 1 + 1, k, none⟩ = false := hm.row.free _
          have Hn : Hid (nextw (ext bs k) k = ((ext bs k).getD (k - 16) 0 + sg0 ((ext bs k).getD (k - 15) 0) + (ext bs k).getD (k - 7) 0 + sg1 ((ext bs k).getD (k - 2) 0)) % 4294967296) := rfl
          generalize (ext bs k).getD (k - 15) 0 = x15 at *
          generalize (ext bs k).getD (k - 16) 0 = x16 at *
          generalize (ext bs k).getD (k - 7) 0 = x7 at *
          generalize (ext bs k).getD (k - 2) 0 = x2 at *
          have i15 : 0 ≤ (k : Int) - 15 := by omega
          have j15 : (k : Int) - 15 < 64 := by omega
          have i2 : 0 ≤ (k : Int) - 2 := by omega
          have j2 : (k : Int) - 2 < 64 := by omega
          have i16 : 0 ≤ (k : Int) - 16 := by omega
          have j16 : (k : Int) - 16 < 64 := by omega
          have i7 : 0 ≤ (k : Int) - 7 := by omega
          have j7 : (k : Int) - 7 < 64 := by omega
          go_wp2
          go_region
          go_wp2_with (go_at_call 50; refine (turn_any _ _ _ (by assumption) (by omega) (by omega)).mono ?_; rintro e w' ⟨rfl, rfl⟩)
          rw [sg0_val b15, sg1_val b2]
          go_region
          go_wp2
          go_roundw
          case rel =>
            refine ⟨k + 1, by omega, by omega, by go_num, ?_⟩
            have hq := hm.next (wr := wr) (by omega) (v := nextw (ext bs k) k) (by rw [if_neg (by omega)])
            rw [Hn.out] at hq
            rw [show (((x16 : Int) + (sg0 x15 : Nat) + (x7 : Nat) + (sg1 x2 : Nat)) % 4294967296) = (((x16 + sg0 x15 + x7 + sg1 x2) % 4294967296 : Nat) : Int) from by omega]
            exact hq.drew
          case measure => simp [intOf]; omega
        · obtain rfl : k = 64 := by omega
          have hz := hide (arr_size bs 64 (Nat.le_refl _))
          have h1 := hide (u32s_all (ext bs 64 ++ List.replicate (64 - 64) 0))
          have hr := hide (hm.row)
          have hr2 := hide (hm.res)
          go_wp2_with (first
            | (refine wpList_load_row rfl 74 (.tmp 3) rfl (w.heap.size + 1 + 1) rfl 74 (arr bs 64).toArray (0, 0) _ hr.out Tryd.underlying74 rfl (size64.trans (by rw [hz.out])) ?_)
            | (refine wpList_store_row rfl 74 (.tmp 2) (.tmp 88) rfl (w.heap.size + 1) (arr bs 64).toArray rfl rfl 74 _ hr2.out (size64.trans (by rw [hz.out])) (by rw [hz.out]; simp [u32s_len]) h1.out ?_))
          have hf := hr2.out.all (arr bs 64)
          refine bodyPost_ret (results_cell_row rfl _ _ (w.heap.size + 1) 74 (arr bs 64).toArray (0, 0) _ rfl hf Tryd.underlying74 rfl (size64.trans (by rw [hz.out]))) rfl ⟨?_, below_all hm.below (by omega) _⟩
          simp [arr]
end Go.Proofs.YtcmjdepjckhpdabDoor.Dg
