/-
  What the document's digest is, as a function on lists of bytes: no program is named here.
-/
import Derived.Test.YtahcokfoifdlmaaGreatDoorKit
import Derived.Test.YtahcokfoifdlmaaGreatDoorRows
namespace Go.Proofs.YtahcokfoifdlmaaGreatDoor.Sha

def rotr (x n : Nat) : Nat := x / 2 ^ n ||| x * 2 ^ (32 - n) % 4294967296
def word (bs : List UInt8) (i : Nat) : Nat :=
  (((bs.getD (4 * i) 0).toNat * 16777216 ||| (bs.getD (4 * i + 1) 0).toNat * 65536) ||| (bs.getD (4 * i + 2) 0).toNat * 256) ||| (bs.getD (4 * i + 3) 0).toNat
def sg0 (x : Nat) : Nat := (rotr x 7 ^^^ rotr x 18) ^^^ x / 8
def sg1 (y : Nat) : Nat := (rotr y 17 ^^^ rotr y 19) ^^^ y / 1024
def nextw (l : List Nat) (i : Nat) : Nat := (l.getD (i - 16) 0 + sg0 (l.getD (i - 15) 0) + l.getD (i - 7) 0 + sg1 (l.getD (i - 2) 0)) % 4294967296
def ext (bs : List UInt8) : Nat → List Nat
  | 0 => []
  | k + 1 => ext bs k ++ [if k < 16 then word bs k else nextw (ext bs k) k]
structure St where
  (a b c d e f g h : Nat)
def St.list (s : St) : List Nat := [s.a, s.b, s.c, s.d, s.e, s.f, s.g, s.h]
def big1 (e : Nat) : Nat := (rotr e 6 ^^^ rotr e 11) ^^^ rotr e 25
def big0 (a : Nat) : Nat := (rotr a 2 ^^^ rotr a 13) ^^^ rotr a 22
def ch (e f g : Nat) : Nat := (e &&& f) ^^^ ((4294967295 - e) &&& g)
def maj (a b c : Nat) : Nat := ((a &&& b) ^^^ (a &&& c)) ^^^ (b &&& c)
def tee (s : St) (k w : Nat) : Nat := (s.h + big1 s.e + ch s.e s.f s.g + k + w) % 4294967296
def you (s : St) : Nat := (big0 s.a + maj s.a s.b s.c) % 4294967296
def St.step (s : St) (k w : Nat) : St := ⟨(tee s k w + you s) % 4294967296, s.a, s.b, s.c, (s.d + tee s k w) % 4294967296, s.e, s.f, s.g⟩
def keys : List Nat := [
  0x428a2f98, 0x71374491, 0xb5c0fbcf, 0xe9b5dba5, 0x3956c25b, 0x59f111f1, 0x923f82a4, 0xab1c5ed5,
  0xd807aa98, 0x12835b01, 0x243185be, 0x550c7dc3, 0x72be5d74, 0x80deb1fe, 0x9bdc06a7, 0xc19bf174,
  0xe49b69c1, 0xefbe4786, 0x0fc19dc6, 0x240ca1cc, 0x2de92c6f, 0x4a7484aa, 0x5cb0a9dc, 0x76f988da,
  0x983e5152, 0xa831c66d, 0xb00327c8, 0xbf597fc7, 0xc6e00bf3, 0xd5a79147, 0x06ca6351, 0x14292967,
  0x27b70a85, 0x2e1b2138, 0x4d2c6dfc, 0x53380d13, 0x650a7354, 0x766a0abb, 0x81c2c92e, 0x92722c85,
  0xa2bfe8a1, 0xa81a664b, 0xc24b8b70, 0xc76c51a3, 0xd192e819, 0xd6990624, 0xf40e3585, 0x106aa070,
  0x19a4c116, 0x1e376c08, 0x2748774c, 0x34b0bcb5, 0x391c0cb3, 0x4ed8aa4a, 0x5b9cca4f, 0x682e6ff3,
  0x748f82ee, 0x78a5636f, 0x84c87814, 0x8cc70208, 0x90befffa, 0xa4506ceb, 0xbef9a3f7, 0xc67178f2]
def rounds (w : List Nat) (s : St) : Nat → St
  | 0 => s
  | i + 1 => (rounds w s i).step (keys.getD i 0) (w.getD i 0)
def St.more (s r : St) : St := ⟨(s.a + r.a) % 4294967296, (s.b + r.b) % 4294967296, (s.c + r.c) % 4294967296, (s.d + r.d) % 4294967296, (s.e + r.e) % 4294967296, (s.f + r.f) % 4294967296, (s.g + r.g) % 4294967296, (s.h + r.h) % 4294967296⟩
def mix (s : St) (w : List Nat) : St := s.more (rounds w s 64)
def first : St := ⟨0x6a09e667, 0xbb67ae85, 0x3c6ef372, 0xa54ff53a, 0x510e527f, 0x9b05688c, 0x1f83d9ab, 0x5be0cd19⟩
def blocks (t : List UInt8) : Nat → St
  | 0 => first
  | n + 1 => mix (blocks t n) (ext ((t.drop (64 * n)).take 64) 64)
def state (t : List UInt8) : St := blocks t (t.length / 64)
def zeros (n : Nat) : Nat := (64 - (n + 9) % 64) % 64
def bits8 (n k : Nat) : List UInt8 := (List.range k).map fun i => UInt8.ofNat (n * 8 / 256 ^ (7 - i))
def pad (n : Nat) : List UInt8 := [128] ++ List.replicate (zeros n) 0 ++ bits8 n 8
def four (x : Nat) : List UInt8 := [UInt8.ofNat (x / 16777216), UInt8.ofNat (x / 65536), UInt8.ofNat (x / 256), UInt8.ofNat x]
def St.bytes (s : St) : List UInt8 := s.list.flatMap four
def sha (t : List UInt8) : List UInt8 := (state (t ++ pad t.length)).bytes

open Kt
def St.ok (s : St) : Prop := s.a < 4294967296 ∧ s.b < 4294967296 ∧ s.c < 4294967296 ∧ s.d < 4294967296 ∧ s.e < 4294967296 ∧ s.f < 4294967296 ∧ s.g < 4294967296 ∧ s.h < 4294967296
theorem rotr_lt {x n : Nat} (h : x < 4294967296) : rotr x n < 4294967296 :=
  or_lt (Nat.lt_of_le_of_lt (Nat.div_le_self _ _) h) (Nat.mod_lt _ (by omega))
theorem word_lt (bs : List UInt8) (i : Nat) : word bs i < 4294967296 := by
  have h0 := toNat_lt (bs.getD (4 * i) 0)
  have h1 := toNat_lt (bs.getD (4 * i + 1) 0)
  have h2 := toNat_lt (bs.getD (4 * i + 2) 0)
  have h3 := toNat_lt (bs.getD (4 * i + 3) 0)
  exact or_lt (or_lt (or_lt (by omega) (by omega)) (by omega)) (by omega)
theorem sg0_lt {x : Nat} (h : x < 4294967296) : sg0 x < 4294967296 := xor_lt (xor_lt (rotr_lt h) (rotr_lt h)) (by omega)
theorem sg1_lt {x : Nat} (h : x < 4294967296) : sg1 x < 4294967296 := xor_lt (xor_lt (rotr_lt h) (rotr_lt h)) (by omega)
theorem step_ok {s : St} (h : s.ok) (k w : Nat) : (s.step k w).ok := by
  obtain ⟨ha, hb, hc, hd, he, hf, hg, hh⟩ := h
  exact ⟨Nat.mod_lt _ (by omega), ha, hb, hc, Nat.mod_lt _ (by omega), he, hf, hg⟩
theorem rounds_ok (w : List Nat) {s : St} (h : s.ok) : ∀ i, (rounds w s i).ok
  | 0 => h
  | i + 1 => step_ok (rounds_ok w h i) _ _
theorem more_ok (s r : St) : (s.more r).ok :=
  ⟨Nat.mod_lt _ (by omega), Nat.mod_lt _ (by omega), Nat.mod_lt _ (by omega), Nat.mod_lt _ (by omega), Nat.mod_lt _ (by omega), Nat.mod_lt _ (by omega), Nat.mod_lt _ (by omega), Nat.mod_lt _ (by omega)⟩
theorem first_ok : first.ok := by unfold St.ok first; simp
theorem blocks_ok (t : List UInt8) : ∀ n, (blocks t n).ok
  | 0 => first_ok
  | _ + 1 => more_ok _ _
theorem ext_len (bs : List UInt8) : ∀ k, (ext bs k).length = k
  | 0 => rfl
  | k + 1 => by simp [ext, ext_len bs k]
theorem nextw_lt (l : List Nat) (i : Nat) : nextw l i < 4294967296 := Nat.mod_lt _ (by omega)
theorem ext_lt (bs : List UInt8) : ∀ k, ∀ x ∈ ext bs k, x < 4294967296
  | 0 => fun _ h => by cases h
  | k + 1 => fun x h => by
    simp only [ext, List.mem_append, List.mem_singleton] at h
    rcases h with h | rfl
    · exact ext_lt bs k x h
    · split
      · exact word_lt _ _
      · exact nextw_lt _ _
theorem getD_lt {l : List Nat} (h : ∀ x ∈ l, x < 4294967296) (i : Nat) : l.getD i 0 < 4294967296 := by
  rw [List.getD_eq_getElem?_getD]
  cases e : l[i]? with
  | none => simp
  | some v => exact h v (List.mem_of_getElem? e)
theorem ext_getD_lt (bs : List UInt8) (k i : Nat) : (ext bs k).getD i 0 < 4294967296 := getD_lt (ext_lt bs k) i
theorem ext_succ (bs : List UInt8) (k : Nat) : ext bs (k + 1) = ext bs k ++ [if k < 16 then word bs k else nextw (ext bs k) k] := rfl
theorem set_at {l : List Nat} {k : Nat} (h : l.length = k) (v : Nat) (hk : k < 64) :
    (l ++ List.replicate (64 - k) 0).set k v = (l ++ [v]) ++ List.replicate (64 - (k + 1)) 0 := by
  have e : 64 - k = (64 - (k + 1)) + 1 := by omega
  rw [e, List.replicate_succ, List.set_append, if_neg (by omega), show k - l.length = 0 from by omega]
  simp
theorem keys_lt (i : Nat) : keys.getD i 0 < 4294967296 := getD_lt (by decide) i
end Go.Proofs.YtahcokfoifdlmaaGreatDoor.Sha
namespace Go.Proofs.YtahcokfoifdlmaaGreatDoor.Dg
open Go Go.RowKit Kt Sha

theorem turn_any (x : Nat) (n : Int) (w : World) (h : x < 4294967296) (n0 : 0 ≤ n) (n1 : n ≤ 32) :
    Calls Tryz.prog 90 #[.int .u32 x, .int .u64 n] w fun e w' => e = .returned (.int .u32 (rotr x n.toNat : Nat)) ∧ w = w' := by
  go_enter Tryz.func90, Tryz.ntmps90
  go_wp2
  go_ret
  refine ⟨?_, rfl⟩
  obtain ⟨m, rfl⟩ := Int.eq_ofNat_of_zero_le n0
  have hm : m ≤ 32 := by omega
  have e1 : ((32 : Int) - (m : Int)).toNat = 32 - m := by omega
  have e2 : (x : Int) / 2 ^ ((m : Int)).toNat = ((x / 2 ^ m : Nat) : Int) := by simp
  have e3 : (x : Int) * 2 ^ ((32 : Int) - (m : Int)).toNat % 4294967296 = ((x * 2 ^ (32 - m) % 4294967296 : Nat) : Int) := by rw [e1]; simp
  have e4 := u32_or_nat (x / 2 ^ m) (x * 2 ^ (32 - m) % 4294967296) (Nat.lt_of_le_of_lt (Nat.div_le_self _ _) h) (Nat.mod_lt _ (by omega))
  show Ending.returned (.int .u32 (bits .or .u32 _ _)) = _
  rw [e2, e3, e4]
  rfl

/-- the words of a block, as the loops lay them -/
def arr (bs : List UInt8) (k : Nat) : List Value := u32s (ext bs k ++ List.replicate (64 - k) 0)
theorem arr_len (bs : List UInt8) (k : Nat) (h : k ≤ 64) : (arr bs k).length = 64 := by simp [arr, u32s_len, ext_len]; omega
theorem arr_get (bs : List UInt8) (k i : Nat) (h : i < k) (_ : k ≤ 64) : (arr bs k)[i]? = some (.int .u32 (((ext bs k).getD i 0 : Nat) : Int)) := by
  unfold arr
  rw [u32s_append, List.getElem?_append_left (by rw [u32s_len, ext_len]; exact h), u32s_get _ _ (by rw [ext_len]; exact h)]
theorem arr_some (bs : List UInt8) (k : Nat) (hk : k < 64) : (arr bs k)[k]? = some (.int .u32 0) := by
  unfold arr
  rw [u32s_append, List.getElem?_append_right (by rw [u32s_len, ext_len]; omega), u32s_len, ext_len, Nat.sub_self, u32s_get _ _ (by simp; omega)]
  rw [List.getD_eq_getElem?_getD, List.getElem?_replicate]
  split <;> rfl
theorem arr_set (bs : List UInt8) (k : Nat) (hk : k < 64) (v : Nat) (hv : v = if k < 16 then word bs k else nextw (ext bs k) k) :
    (arr bs k).set k (.int .u32 (v : Int)) = arr bs (k + 1) := by
  unfold arr
  rw [ext_succ, ← hv, ← set_at (ext_len bs k) v hk]
  simp [u32s, List.map_set]

theorem size64 : (Tryz.prog.info? 82).map (·.size) = some 64 := by kernel_rfl
theorem arr_size (bs : List UInt8) (k : Nat) (h : k ≤ 64) : (arr bs k).toArray.size = 64 := by simp [arr_len bs k h]
theorem u32s_all (l : List Nat) : (u32s l).toArray.all (·.oneCell') = true := all_oneCell_toArray (u32s_one l)
theorem sg0_val {x : Nat} (h : x < 4294967296) : bits BinOp.xor .u32 (bits BinOp.xor .u32 (rotr x 7 : Nat) (rotr x 18 : Nat)) ((x : Int) / 8) = (sg0 x : Nat) := by
  rw [u32_xor_nat _ _ (rotr_lt h) (rotr_lt h), show ((x : Int) / 8) = ((x / 8 : Nat) : Int) from by omega, u32_xor_nat _ _ (xor_lt (rotr_lt h) (rotr_lt h)) (by omega)]; rfl
theorem sg1_val {x : Nat} (h : x < 4294967296) : bits BinOp.xor .u32 (bits BinOp.xor .u32 (rotr x 17 : Nat) (rotr x 19 : Nat)) ((x : Int) / 1024) = (sg1 x : Nat) := by
  rw [u32_xor_nat _ _ (rotr_lt h) (rotr_lt h), show ((x : Int) / 1024) = ((x / 1024 : Nat) : Int) from by omega, u32_xor_nat _ _ (xor_lt (rotr_lt h) (rotr_lt h)) (by omega)]; rfl
/-- What the loops of spread keep. -/
structure Mid (w : World) (bs : List UInt8) (k : Nat) (wr : World) : Prop where
  box : Row wr w.heap.size 128 (u8s bs)
  res : Row wr (w.heap.size + 1) 82 (u32s (List.replicate 64 0))
  row : Row wr (w.heap.size + 1 + 1) 82 (arr bs k)
  size : wr.heap.size = w.heap.size + 1 + 1 + 1
  below : Below w.heap.size w wr

theorem Mid.next {w wr : World} {bs : List UInt8} {k : Nat} (h : Mid w bs k wr) (hk : k < 64) {v : Nat} (hv : v = if k < 16 then word bs k else nextw (ext bs k) k) :
    Mid w bs (k + 1) (wr.setCell ⟨w.heap.size + 1 + 1, k, none⟩ (.int .u32 (v : Int))).drew where
  box := (h.box.off (by omega) _).drew
  res := (h.res.off (by omega) _).drew
  row := by have := (h.row.put k (.int .u32 (v : Int))).drew; rwa [arr_set bs k hk v hv] at this
  size := by simpa [World.setCell] using h.size
  below := (below_put h.below (by omega) _).drew

theorem Mid.drew {w wr : World} {bs : List UInt8} {k : Nat} (h : Mid w bs k wr) : Mid w bs k wr.drew := ⟨h.box.drew, h.res.drew, h.row.drew, h.size, h.below.drew⟩

theorem word_val (bs : List UInt8) (k : Nat) :
    bits BinOp.or .u32 (bits BinOp.or .u32 (bits BinOp.or .u32 (((bs[4 * k]?.getD 0).toNat : Int) % 4294967296 * 16777216 % 4294967296)
      (((bs[4 * k + 1]?.getD 0).toNat : Int) % 4294967296 * 65536 % 4294967296)) (((bs[4 * k + 2]?.getD 0).toNat : Int) % 4294967296 * 256 % 4294967296))
      (((bs[4 * k + 3]?.getD 0).toNat : Int) % 4294967296) = ((word bs k : Nat) : Int) := by
  unfold word
  simp only [List.getD_eq_getElem?_getD]
  generalize bs[4 * k]?.getD 0 = x0
  generalize bs[4 * k + 1]?.getD 0 = x1
  generalize bs[4 * k + 2]?.getD 0 = x2
  generalize bs[4 * k + 3]?.getD 0 = x3
  have h0 := toNat_lt x0
  have h1 := toNat_lt x1
  have h2 := toNat_lt x2
  have h3 := toNat_lt x3
  rw [show ((x0.toNat : Int) % 4294967296 * 16777216 % 4294967296) = ((x0.toNat * 16777216 : Nat) : Int) from by omega,
    show ((x1.toNat : Int) % 4294967296 * 65536 % 4294967296) = ((x1.toNat * 65536 : Nat) : Int) from by omega,
    show ((x2.toNat : Int) % 4294967296 * 256 % 4294967296) = ((x2.toNat * 256 : Nat) : Int) from by omega,
    show ((x3.toNat : Int) % 4294967296) = ((x3.toNat : Nat) : Int) from by omega]
  rw [u32_or_nat _ _ (by omega) (by omega), u32_or_nat _ _ (or_lt (by omega) (by omega)) (by omega), u32_or_nat _ _ (or_lt (or_lt (by omega) (by omega)) (by omega)) (by omega)]

set_option maxHeartbeats 1000000 in
theorem spread_any (bs : List UInt8) (w : World) (hl : bs.length = 64) :
    Calls Tryz.prog 78 #[.agg (u8s bs).toArray] w fun e w' => e = .returned (.agg (u32s (ext bs 64)).toArray) ∧ Below w.heap.size w w' := by
  have Hl := hide hl
  clear hl
  go_enter Tryz.func78, Tryz.ntmps78
  go_wp2
  go_loopw [10] (fun i wr => ∃ k : Nat, k ≤ 16 ∧ i = .int .i64 k ∧ Mid w bs k wr) (fun i _ => 16 - (intOf i).toNat)
  case atStart =>
    refine ⟨0, by omega, rfl, ⟨?_, ?_, ?_, ?_, ?_⟩⟩
    · exact ((Row.new w _ rfl rfl).alloc _).alloc _
    · exact (Row.new _ _ (by simp) rfl).alloc _
    · exact Row.new _ _ (by simp) rfl
    · simp
    · exact (((Below.refl _ _).alloc (Nat.le_refl _) _).alloc (by simp) _).alloc (by simp; omega) _
  case round =>
    obtain ⟨k, hk, rfl, hm⟩ := hrel
    by_cases hlt : k < 16
    · have hl := Hl.out
      have c0 : wr.cell? ⟨w.heap.size, 4 * k, none⟩ = some (.int .u8 (bs.getD (4 * k) 0).toNat) := by rw [hm.box.cell, u8s_get _ _ (by omega)]
      have c1 : wr.cell? ⟨w.heap.size, 4 * k + 1, none⟩ = some (.int .u8 (bs.getD (4 * k + 1) 0).toNat) := by rw [hm.box.cell, u8s_get _ _ (by omega)]
      have c2 : wr.cell? ⟨w.heap.size, 4 * k + 2, none⟩ = some (.int .u8 (bs.getD (4 * k + 2) 0).toNat) := by rw [hm.box.cell, u8s_get _ _ (by omega)]
      have c3 : wr.cell? ⟨w.heap.size, 4 * k + 3, none⟩ = some (.int .u8 (bs.getD (4 * k + 3) 0).toNat) := by rw [hm.box.cell, u8s_get _ _ (by omega)]
      have c4 : wr.cell? ⟨w.heap.size + 1 + 1, k, none⟩ = some (.int .u32 0) := by rw [hm.row.cell, arr_some _ _ (by omega)]
      have f4 : wr.frozen? ⟨w.heap.size + 1 + 1, k, none⟩ = false := hm.row.free _
      clear hl
      go_wp2
      go_region
      go_wp2
      go_roundw
      case rel =>
        refine ⟨k + 1, by omega, by go_num, ?_⟩
        rw [word_val bs k]
        exact hm.next (by omega) (by rw [if_pos hlt])
      case measure => simp [intOf]; omega
    · obtain rfl : k = 16 := by omega
      rw [show ((16 : Nat) : Int) = 16 from rfl]
      go_wp2
      go_loopw [5] (fun i wr => ∃ k : Nat, 16 ≤ k ∧ k ≤ 64 ∧ i = .int .i64 k ∧ Mid w bs k wr) (fun i _ => 64 - (intOf i).toNat)
      case atStart => exact ⟨16, by omega, by omega, rfl, hm⟩
      case round =>
        obtain ⟨k, hk0, hk, rfl, hm⟩ := hrel
        by_cases hlt : k < 64
        · have a15 : wr.cell? ⟨w.heap.size + 1 + 1, k - 15, none⟩ = some (.int .u32 ((ext bs k).getD (k - 15) 0 : Nat)) := by
            rw [hm.row.cell, arr_get _ _ _ (by omega) hk]
          have a2 : wr.cell? ⟨w.heap.size + 1 + 1, k - 2, none⟩ = some (.int .u32 ((ext bs k).getD (k - 2) 0 : Nat)) := by
            rw [hm.row.cell, arr_get _ _ _ (by omega) hk]
          have a16 : wr.cell? ⟨w.heap.size + 1 + 1, k - 16, none⟩ = some (.int .u32 ((ext bs k).getD (k - 16) 0 : Nat)) := by
            rw [hm.row.cell, arr_get _ _ _ (by omega) hk]
          have a7 : wr.cell? ⟨w.heap.size + 1 + 1, k - 7, none⟩ = some (.int .u32 ((ext bs k).getD (k - 7) 0 : Nat)) := by
            rw [hm.row.cell, arr_get _ _ _ (by omega) hk]
          have b15 := ext_getD_lt bs k (k - 15)
          have b2 := ext_getD_lt bs k (k - 2)
          have b16 := ext_getD_lt bs k (k - 16)
          have b7 := ext_getD_lt bs k (k - 7)
          have c4 : wr.cell? ⟨w.heap.size + 1 + 1, k, none⟩ = some (.int .u32 0) := by rw [hm.row.cell, arr_some _ _ (by omega)]
          have f4 : wr.frozen? ⟨w.heap.size + 1 + 1, k, none⟩ = false := hm.row.free _
          have Hn : Hid (nextw (ext bs k) k = ((ext bs k).getD (k - 16) 0 + sg0 ((ext bs k).getD (k - 15) 0) + (ext bs k).getD (k - 7) 0 + sg1 ((ext bs k).getD (k - 2) 0)) % 4294967296) := rfl
          generalize (ext bs k).getD (k - 15) 0 = x15 at *
          generalize (ext bs k).getD (k - 16) 0 = x16 at *
          generalize (ext bs k).getD (k - 7) 0 = x7 at *
          generalize (ext bs k).getD (k - 2) 0 = x2 at *
          have i15 : 0 ≤ (k : Int) - 15 := by omega
          have j15 : (k : Int) - 15 < 64 := by omega
          have i2 : 0 ≤ (k : Int) - 2 := by omega
          have j2 : (k : Int) - 2 < 64 := by omega
          have i16 : 0 ≤ (k : Int) - 16 := by omega
          have j16 : (k : Int) - 16 < 64 := by omega
          have i7 : 0 ≤ (k : Int) - 7 := by omega
          have j7 : (k : Int) - 7 < 64 := by omega
          go_wp2
          go_region
          go_wp2_with (go_at_call 90; refine (turn_any _ _ _ (by assumption) (by omega) (by omega)).mono ?_; rintro e w' ⟨rfl, rfl⟩)
          rw [sg0_val b15, sg1_val b2]
          go_region
          go_wp2
          go_roundw
          case rel =>
            refine ⟨k + 1, by omega, by omega, by go_num, ?_⟩
            have hq := hm.next (wr := wr) (by omega) (v := nextw (ext bs k) k) (by rw [if_neg (by omega)])
            rw [Hn.out] at hq
            rw [show (((x16 : Int) + (sg0 x15 : Nat) + (x7 : Nat) + (sg1 x2 : Nat)) % 4294967296) = (((x16 + sg0 x15 + x7 + sg1 x2) % 4294967296 : Nat) : Int) from by omega]
            exact hq.drew
          case measure => simp [intOf]; omega
        · obtain rfl : k = 64 := by omega
          have hz := hide (arr_size bs 64 (Nat.le_refl _))
          have h1 := hide (u32s_all (ext bs 64 ++ List.replicate (64 - 64) 0))
          have hr := hide (hm.row)
          have hr2 := hide (hm.res)
          go_wp2_with (first
            | (refine wpList_load_row rfl 82 (.tmp 3) rfl (w.heap.size + 1 + 1) rfl 82 (arr bs 64).toArray (0, 0) _ hr.out Tryz.underlying82 rfl (size64.trans (by rw [hz.out])) ?_)
            | (refine wpList_store_row rfl 82 (.tmp 2) (.tmp 88) rfl (w.heap.size + 1) (arr bs 64).toArray rfl rfl 82 _ hr2.out (size64.trans (by rw [hz.out])) (by rw [hz.out]; simp [u32s_len]) h1.out ?_))
          have hf := hr2.out.all (arr bs 64)
          refine bodyPost_ret (results_cell_row rfl _ _ (w.heap.size + 1) 82 (arr bs 64).toArray (0, 0) _ rfl hf Tryz.underlying82 rfl (size64.trans (by rw [hz.out]))) rfl ⟨?_, below_all hm.below (by omega) _⟩
          simp [arr]
end Go.Proofs.YtahcokfoifdlmaaGreatDoor.Dg
namespace Go.Proofs.YtahcokfoifdlmaaGreatDoor.Dg
open Go Go.RowKit Kt Sha

/-- the table of the numbers k lies in its block -/
def Tab (w : World) : Prop := ∀ i, i < 64 → w.cell? ⟨1, i, none⟩ = some (.int .u32 (keys.getD i 0 : Nat))
theorem Tab.lt {w : World} (h : Tab w) : 1 < w.heap.size := World.block_lt_of_cell? w _ (h 0 (by omega))
theorem Tab.below {w w' : World} (h : Tab w) (hb : Below w.heap.size w w') : Tab w' := fun i hi => (hb.cell (p := ⟨1, i, none⟩) h.lt).trans (h i hi)

structure Mx (w : World) (s : St) (ws : List Nat) (wr : World) : Prop where
  box : Row wr w.heap.size 127 (u32s s.list)
  two : Row wr (w.heap.size + 1) 82 (u32s ws)
  res : Row wr (w.heap.size + 1 + 1) 127 (u32s [0, 0, 0, 0, 0, 0, 0, 0])
  size : wr.heap.size = w.heap.size + 1 + 1 + 1
  below : Below w.heap.size w wr
  tab : Tab wr
theorem Mx.drewN {w wr : World} {s : St} {ws : List Nat} (h : Mx w s ws wr) (n : Nat) : Mx w s ws (wr.drewN n) :=
  ⟨h.box.drewN n, h.two.drewN n, h.res.drewN n, h.size, below_drewN h.below n, h.tab⟩

def sl (n : Nat) : Value := .int .u32 (n : Int)

theorem not_val {e : Nat} (h : e < 4294967296) : bits BinOp.xor .u32 (if IntKind.u32.signed = true then -1 else IntKind.u32.max) (e : Int) = ((4294967295 - e : Nat) : Int) := by
  rw [show (if IntKind.u32.signed = true then -1 else IntKind.u32.max) = ((4294967295 : Nat) : Int) from by decide, u32_xor_nat _ _ (by omega) h]
  congr 1
  have h32 : e < 2 ^ 32 := h
  have e2 := BitVec.toNat_not (x := BitVec.ofNat 32 e)
  have e3 : (~~~ (BitVec.ofNat 32 e)) = BitVec.allOnes 32 ^^^ BitVec.ofNat 32 e := BitVec.not_def
  rw [e3, BitVec.toNat_xor, BitVec.toNat_allOnes, BitVec.toNat_ofNat, Nat.mod_eq_of_lt h32] at e2
  simpa using e2
theorem ch_val {e f g : Nat} (he : e < 4294967296) (hf : f < 4294967296) (hg : g < 4294967296) :
    bits BinOp.xor .u32 (bits BinOp.and .u32 (e : Int) (f : Int)) (bits BinOp.and .u32 (bits BinOp.xor .u32 (if IntKind.u32.signed = true then -1 else IntKind.u32.max) (e : Int)) (g : Int)) = (ch e f g : Nat) := by
  rw [not_val he, u32_and_nat _ _ he hf, u32_and_nat _ _ (by omega) hg, u32_xor_nat _ _ (and_lt hf) (and_lt hg)]; rfl
theorem maj_val {a b c : Nat} (ha : a < 4294967296) (hb : b < 4294967296) (hc : c < 4294967296) :
    bits BinOp.xor .u32 (bits BinOp.xor .u32 (bits BinOp.and .u32 (a : Int) (b : Int)) (bits BinOp.and .u32 (a : Int) (c : Int))) (bits BinOp.and .u32 (b : Int) (c : Int)) = (maj a b c : Nat) := by
  rw [u32_and_nat _ _ ha hb, u32_and_nat _ _ ha hc, u32_and_nat _ _ hb hc, u32_xor_nat _ _ (and_lt hb) (and_lt hc), u32_xor_nat _ _ (xor_lt (and_lt hb) (and_lt hc)) (and_lt hc)]; rfl
theorem big1_val {x : Nat} (h : x < 4294967296) : bits BinOp.xor .u32 (bits BinOp.xor .u32 (rotr x 6 : Nat) (rotr x 11 : Nat)) (rotr x 25 : Nat) = (big1 x : Nat) := by
  rw [u32_xor_nat _ _ (rotr_lt h) (rotr_lt h), u32_xor_nat _ _ (xor_lt (rotr_lt h) (rotr_lt h)) (rotr_lt h)]; rfl
theorem big0_val {x : Nat} (h : x < 4294967296) : bits BinOp.xor .u32 (bits BinOp.xor .u32 (rotr x 2 : Nat) (rotr x 13 : Nat)) (rotr x 22 : Nat) = (big0 x : Nat) := by
  rw [u32_xor_nat _ _ (rotr_lt h) (rotr_lt h), u32_xor_nat _ _ (xor_lt (rotr_lt h) (rotr_lt h)) (rotr_lt h)]; rfl
theorem size8 : (Tryz.prog.info? 127).map (·.size) = some 8 := by kernel_rfl
theorem u32_eq {a b : Int} (h : a = b) : Value.int .u32 a = Value.int .u32 b := by rw [h]

set_option maxHeartbeats 2000000 in
set_option maxRecDepth 100000 in
theorem mix_any (s : St) (ws : List Nat) (w : World) (hs : s.ok) (hl : ws.length = 64) (hw : ∀ x ∈ ws, x < 4294967296) (ht : Tab w) :
    Calls Tryz.prog 77 #[.agg (u32s s.list).toArray, .agg (u32s ws).toArray] w fun e w' => e = .returned (.agg (u32s (mix s ws).list).toArray) ∧ Below w.heap.size w w' := by
  have Hl := hide hl
  clear hl
  have Hs := hide hs
  have Hw := hide hw
  have Ht := hide ht
  clear hs hw ht
  go_enter Tryz.func77, Tryz.ntmps77
  go_wp2
  obtain ⟨W, hW⟩ : ∃ W, W = ((w.alloc (Obj.cells (u32s s.list).toArray 127)).alloc (Obj.cells (u32s ws).toArray 82)).alloc (Obj.cells #[.int .u32 0, .int .u32 0, .int .u32 0, .int .u32 0, .int .u32 0, .int .u32 0, .int .u32 0, .int .u32 0] 127) := ⟨_, rfl⟩
  rw [← hW]
  have hm : Mx w s ws W := by
    subst hW
    have hb : Below w.heap.size w (((w.alloc (Obj.cells (u32s s.list).toArray 127)).alloc (Obj.cells (u32s ws).toArray 82)).alloc (Obj.cells #[.int .u32 0, .int .u32 0, .int .u32 0, .int .u32 0, .int .u32 0, .int .u32 0, .int .u32 0, .int .u32 0] 127)) :=
      (((Below.refl _ _).alloc (Nat.le_refl _) _).alloc (by simp) _).alloc (by simp; omega) _
    exact ⟨((Row.new w _ rfl rfl).alloc _).alloc _, (Row.new _ _ (by simp) rfl).alloc _, Row.new _ _ (by simp) rfl, by simp, hb, Ht.out.below hb⟩
  have Hm := hide hm
  have hc := fun i => hm.box.cell i
  have c0 : W.cell? ⟨w.heap.size, 0, none⟩ = some (.int .u32 s.a) := hc 0
  have c1 : W.cell? ⟨w.heap.size, 1, none⟩ = some (.int .u32 s.b) := hc 1
  have c2 : W.cell? ⟨w.heap.size, 2, none⟩ = some (.int .u32 s.c) := hc 2
  have c3 : W.cell? ⟨w.heap.size, 3, none⟩ = some (.int .u32 s.d) := hc 3
  have c4 : W.cell? ⟨w.heap.size, 4, none⟩ = some (.int .u32 s.e) := hc 4
  have c5 : W.cell? ⟨w.heap.size, 5, none⟩ = some (.int .u32 s.f) := hc 5
  have c6 : W.cell? ⟨w.heap.size, 6, none⟩ = some (.int .u32 s.g) := hc 6
  have c7 : W.cell? ⟨w.heap.size, 7, none⟩ = some (.int .u32 s.h) := hc 7
  clear hc hm hW
  go_quiet (fail)
  clear c0 c1 c2 c3 c4 c5 c6 c7
  go_wp2
  go_loopw [5, 6, 7, 8, 9, 10, 11, 12, 32] (fun a b c d e f g h i wr => ∃ k : Nat, k ≤ 64 ∧ i = .int .i64 k ∧ a = sl (rounds ws s k).a ∧ b = sl (rounds ws s k).b ∧ c = sl (rounds ws s k).c ∧ d = sl (rounds ws s k).d ∧ e = sl (rounds ws s k).e ∧ f = sl (rounds ws s k).f ∧ g = sl (rounds ws s k).g ∧ h = sl (rounds ws s k).h ∧ Mx w s ws wr) (fun _ _ _ _ _ _ _ _ i _ => 64 - (intOf i).toNat)
  case atStart => exact ⟨0, by omega, rfl, rfl, rfl, rfl, rfl, rfl, rfl, rfl, rfl, Hm.out.drewN _⟩
  case round =>
    obtain ⟨k, hk, rfl, rfl, rfl, rfl, rfl, rfl, rfl, rfl, rfl, hm⟩ := hrel
    unfold sl
    by_cases hlt : k < 64
    · have ho := rounds_ok ws Hs.out k
      have Hn : Hid (rounds ws s (k + 1) = (rounds ws s k).step (keys.getD k 0) (ws.getD k 0)) := rfl
      have t1 : wr.cell? ⟨1, k, none⟩ = some (.int .u32 (keys.getD k 0 : Nat)) := hm.tab k hlt
      have t2 : wr.cell? ⟨w.heap.size + 1, k, none⟩ = some (.int .u32 (ws.getD k 0 : Nat)) := by rw [hm.two.cell, u32s_get _ _ (by rw [Hl.out]; exact hlt)]
      have b1 := keys_lt k
      have b2 := getD_lt Hw.out k
      generalize keys.getD k 0 = kk at *
      generalize ws.getD k 0 = ww at *
      generalize rounds ws s k = r at *
      obtain ⟨a, b, c, d, e, f, g, h⟩ := r
      obtain ⟨oa, ob, oc, od, oe, of, og, oh⟩ := ho
      simp only at oa ob oc od oe of og oh
      go_wp2
      go_quiet ((go_at_call 90; exact Calls.quiet_of_same ((turn_any _ _ _ (by assumption) (by omega) (by omega)).mono (fun _ _ h => ⟨h.1, h.2.symm⟩))))
      go_wp2_with (go_at_call 90; refine (turn_any _ _ _ (by assumption) (by omega) (by omega)).mono ?_; rintro e w' ⟨rfl, rfl⟩)
      go_roundw
      case rel =>
        refine ⟨k + 1, by omega, by go_num, ?_⟩
        rw [Hn.out]
        rw [big1_val oe, big0_val oa, ch_val oe of og, maj_val oa ob oc]
        refine ⟨u32_eq ?_, rfl, rfl, rfl, u32_eq ?_, rfl, rfl, rfl, hm.drewN _⟩
        · simp only [St.step, tee, you]; omega
        · simp only [St.step, tee]; omega
      case measure => simp [intOf]; omega
    · obtain rfl : k = 64 := by omega
      have Hm := hide hm
      have hr := hide hm.res
      have hc := fun i => hm.box.cell i
      have c0 : wr.cell? ⟨w.heap.size, 0, none⟩ = some (.int .u32 s.a) := hc 0
      have c1 : wr.cell? ⟨w.heap.size, 1, none⟩ = some (.int .u32 s.b) := hc 1
      have c2 : wr.cell? ⟨w.heap.size, 2, none⟩ = some (.int .u32 s.c) := hc 2
      have c3 : wr.cell? ⟨w.heap.size, 3, none⟩ = some (.int .u32 s.d) := hc 3
      have c4 : wr.cell? ⟨w.heap.size, 4, none⟩ = some (.int .u32 s.e) := hc 4
      have c5 : wr.cell? ⟨w.heap.size, 5, none⟩ = some (.int .u32 s.f) := hc 5
      have c6 : wr.cell? ⟨w.heap.size, 6, none⟩ = some (.int .u32 s.g) := hc 6
      have c7 : wr.cell? ⟨w.heap.size, 7, none⟩ = some (.int .u32 s.h) := hc 7
      clear hc hm
      rw [show ((64 : Nat) : Int) = 64 from rfl]
      have Hv : Hid (mix s ws = s.more (rounds ws s 64)) := rfl
      generalize rounds ws s 64 = r at *
      have h8 := hide size8
      have hold : Hid ((u32s [0, 0, 0, 0, 0, 0, 0, 0]).toArray.size = 8) := by simp [Hid, u32s]
      go_wp2_with (refine wpList_store_row rfl 127 (.tmp 4) (.tmp 127) rfl (w.heap.size + 1 + 1) #[.int .u32 (((s.a : Int) + (r.a : Int)) % 4294967296), .int .u32 (((s.b : Int) + (r.b : Int)) % 4294967296), .int .u32 (((s.c : Int) + (r.c : Int)) % 4294967296), .int .u32 (((s.d : Int) + (r.d : Int)) % 4294967296), .int .u32 (((s.e : Int) + (r.e : Int)) % 4294967296), .int .u32 (((s.f : Int) + (r.f : Int)) % 4294967296), .int .u32 (((s.g : Int) + (r.g : Int)) % 4294967296), .int .u32 (((s.h : Int) + (r.h : Int)) % 4294967296)] ?hx ?hy 127 _ hr.out h8.out hold.out ?h1 ?_)
      case hx => simp [Act.eval]
      case hy => simp [Act.eval]
      case h1 => exact all_oneCell_toArray (by simp [Value.oneCell'])
      have hf := hr.out.all (u32s (mix s ws).list)
      have hq : Hid ((u32s (mix s ws).list).toArray = #[.int .u32 (((s.a : Int) + (r.a : Int)) % 4294967296), .int .u32 (((s.b : Int) + (r.b : Int)) % 4294967296), .int .u32 (((s.c : Int) + (r.c : Int)) % 4294967296), .int .u32 (((s.d : Int) + (r.d : Int)) % 4294967296), .int .u32 (((s.e : Int) + (r.e : Int)) % 4294967296), .int .u32 (((s.f : Int) + (r.f : Int)) % 4294967296), .int .u32 (((s.g : Int) + (r.g : Int)) % 4294967296), .int .u32 (((s.h : Int) + (r.h : Int)) % 4294967296)]) := by
        rw [Hv.out]
        simp [Hid, u32s, St.list, St.more]
      rw [← hq.out]
      have hz : Hid ((u32s (mix s ws).list).toArray.size = 8) := by simp [Hid, u32s, St.list]
      refine bodyPost_ret (results_cell_row rfl _ _ (w.heap.size + 1 + 1) 127 (u32s (mix s ws).list).toArray (0, 0) _ rfl hf Tryz.underlying127 rfl (size8.trans (by rw [hz.out]))) rfl ⟨rfl, below_all Hm.out.below (by omega) _⟩
end Go.Proofs.YtahcokfoifdlmaaGreatDoor.Dg
