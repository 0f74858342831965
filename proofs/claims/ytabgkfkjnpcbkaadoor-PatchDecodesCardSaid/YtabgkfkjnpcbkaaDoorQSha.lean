/-
  What the document's digest is, as a function on lists of bytes: no program is named here.
-/
import Derived.Test.YtabgkfkjnpcbkaaDoorKit
import Derived.Test.YtabgkfkjnpcbkaaDoorRows
namespace Go.Proofs.YtabgkfkjnpcbkaaDoor.Sha

def rotr (x n : Nat) : Nat := x / 2 ^ n ||| x * 2 ^ (32 - n) % 4294967296
def word (bs : List UInt8) (i : Nat) : Nat :=
  (((bs.getD (4 * i) 0).toNat * 16777216 ||| (bs.getD (4 * i + 1) 0).toNat * 65536) ||| (bs.getD (4 * i + 2) 0).toNat * 256) ||| (bs.getD (4 * i + 3) 0).toNat
def sg0 (x : Nat) : Nat := (rotr x 7 ^^^ rotr x 18) ^^^ x / 8
def sg1 (y : Nat) : Nat := (rotr y 17 ^^^ rotr y 19) ^^^ y / 1024
def nextw (l : List Nat) (i : Nat) : Nat := (l.getD (i - 16) 0 + sg0 (l.getD (i - 15) 0) + l.getD (i - 7) 0 + sg1 (l.getD (i - 2) 0)) % 4294967296
def ext (bs : List UInt8) : Nat → List Nat
  | 0 => []
  | k + 1 => ext bs k ++ [if k < 16 then word bs k else nextw (ext bs k) k]
structure St where
  (a b c d e f g h : Nat)
def St.list (s : St) : List Nat := [s.a, s.b, s.c, s.d, s.e, s.f, s.g, s.h]
def big1 (e : Nat) : Nat := (rotr e 6 ^^^ rotr e 11) ^^^ rotr e 25
def big0 (a : Nat) : Nat := (rotr a 2 ^^^ rotr a 13) ^^^ rotr a 22
def ch (e f g : Nat) : Nat := (e &&& f) ^^^ ((4294967295 - e) &&& g)
def maj (a b c : Nat) : Nat := ((a &&& b) ^^^ (a &&& c)) ^^^ (b &&& c)
def tee (s : St) (k w : Nat) : Nat := (s.h + big1 s.e + ch s.e s.f s.g + k + w) % 4294967296
def you (s : St) : Nat := (big0 s.a + maj s.a s.b s.c) % 4294967296
def St.step (s : St) (k w : Nat) : St := ⟨(tee s k w + you s) % 4294967296, s.a, s.b, s.c, (s.d + tee s k w) % 4294967296, s.e, s.f, s.g⟩
def keys : List Nat := [
  0x428a2f98, 0x71374491, 0xb5c0fbcf, 0xe9b5dba5, 0x3956c25b, 0x59f111f1, 0x923f82a4, 0xab1c5ed5,
  0xd807aa98, 0x12835b01, 0x243185be, 0x550c7dc3, 0x72be5d74, 0x80deb1fe, 0x9bdc06a7, 0xc19bf174,
  0xe49b69c1, 0xefbe4786, 0x0fc19dc6, 0x240ca1cc, 0x2de92c6f, 0x4a7484aa, 0x5cb0a9dc, 0x76f988da,
  0x983e5152, 0xa831c66d, 0xb00327c8, 0xbf597fc7, 0xc6e00bf3, 0xd5a79147, 0x06ca6351, 0x14292967,
  0x27b70a85, 0x2e1b2138, 0x4d2c6dfc, 0x53380d13, 0x650a7354, 0x766a0abb, 0x81c2c92e, 0x92722c85,
  0xa2bfe8a1, 0xa81a664b, 0xc24b8b70, 0xc76c51a3, 0xd192e819, 0xd6990624, 0xf40e3585, 0x106aa070,
  0x19a4c116, 0x1e376c08, 0x2748774c, 0x34b0bcb5, 0x391c0cb3, 0x4ed8aa4a, 0x5b9cca4f, 0x682e6ff3,
  0x748f82ee, 0x78a5636f, 0x84c87814, 0x8cc70208, 0x90befffa, 0xa4506ceb, 0xbef9a3f7, 0xc67178f2]
def rounds (w : List Nat) (s : St) : Nat → St
  | 0 => s
  | i + 1 => (rounds w s i).step (keys.getD i 0) (w.getD i 0)
def St.more (s r : St) : St := ⟨(s.a + r.a) % 4294967296, (s.b + r.b) % 4294967296, (s.c + r.c) % 4294967296, (s.d + r.d) % 4294967296, (s.e + r.e) % 4294967296, (s.f + r.f) % 4294967296, (s.g + r.g) % 4294967296, (s.h + r.h) % 4294967296⟩
def mix (s : St) (w : List Nat) : St := s.more (rounds w s 64)
def first : St := ⟨0x6a09e667, 0xbb67ae85, 0x3c6ef372, 0xa54ff53a, 0x510e527f, 0x9b05688c, 0x1f83d9ab, 0x5be0cd19⟩
def blocks (t : List UInt8) : Nat → St
  | 0 => first
  | n + 1 => mix (blocks t n) (ext ((t.drop (64 * n)).take 64) 64)
def state (t : List UInt8) : St := blocks t (t.length / 64)
def zeros (n : Nat) : Nat := (64 - (n + 9) % 64) % 64
def bits8 (n k : Nat) : List UInt8 := (List.range k).map fun i => UInt8.ofNat (n * 8 / 256 ^ (7 - i))
def pad (n : Nat) : List UInt8 := [128] ++ List.replicate (zeros n) 0 ++ bits8 n 8
def four (x : Nat) : List UInt8 := [UInt8.ofNat (x / 16777216), UInt8.ofNat (x / 65536), UInt8.ofNat (x / 256), UInt8.ofNat x]
def St.bytes (s : St) : List UInt8 := s.list.flatMap four
def sha (t : List UInt8) : List UInt8 := (state (t ++ pad t.length)).bytes

theorem sha_abc : sha [97, 98, 99] = [0xba, 0x78, 0x16, 0xbf, 0x8f, 0x01, 0xcf, 0xea, 0x41, 0x41, 0x40, 0xde, 0x5d, 0xae, 0x22, 0x23, 0xb0, 0x03, 0x61, 0xa3, 0x96, 0x17, 0x7a, 0x9c, 0xb4, 0x10, 0xff, 0x61, 0xf2, 0x00, 0x15, 0xad] := by decide +kernel

/-! sizes -/
open Kt
def St.ok (s : St) : Prop := s.a < 4294967296 ∧ s.b < 4294967296 ∧ s.c < 4294967296 ∧ s.d < 4294967296 ∧ s.e < 4294967296 ∧ s.f < 4294967296 ∧ s.g < 4294967296 ∧ s.h < 4294967296
theorem rotr_lt {x n : Nat} (h : x < 4294967296) : rotr x n < 4294967296 :=
  or_lt (Nat.lt_of_le_of_lt (Nat.div_le_self _ _) h) (Nat.mod_lt _ (by omega))
theorem word_lt (bs : List UInt8) (i : Nat) : word bs i < 4294967296 := by
  have h0 := toNat_lt (bs.getD (4 * i) 0)
  have h1 := toNat_lt (bs.getD (4 * i + 1) 0)
  have h2 := toNat_lt (bs.getD (4 * i + 2) 0)
  have h3 := toNat_lt (bs.getD (4 * i + 3) 0)
  exact or_lt (or_lt (or_lt (by omega) (by omega)) (by omega)) (by omega)
theorem sg0_lt {x : Nat} (h : x < 4294967296) : sg0 x < 4294967296 := xor_lt (xor_lt (rotr_lt h) (rotr_lt h)) (by omega)
theorem sg1_lt {x : Nat} (h : x < 4294967296) : sg1 x < 4294967296 := xor_lt (xor_lt (rotr_lt h) (rotr_lt h)) (by omega)
theorem big0_lt {x : Nat} (h : x < 4294967296) : big0 x < 4294967296 := xor_lt (xor_lt (rotr_lt h) (rotr_lt h)) (rotr_lt h)
theorem big1_lt {x : Nat} (h : x < 4294967296) : big1 x < 4294967296 := xor_lt (xor_lt (rotr_lt h) (rotr_lt h)) (rotr_lt h)
theorem ch_lt {e f g : Nat} (h : f < 4294967296) (h' : g < 4294967296) : ch e f g < 4294967296 := xor_lt (and_lt h) (and_lt h')
theorem maj_lt {a b c : Nat} (h : b < 4294967296) (h' : c < 4294967296) : maj a b c < 4294967296 := xor_lt (xor_lt (and_lt h) (and_lt h')) (and_lt h')
theorem step_ok {s : St} (h : s.ok) (k w : Nat) : (s.step k w).ok := by
  obtain ⟨ha, hb, hc, hd, he, hf, hg, hh⟩ := h
  exact ⟨Nat.mod_lt _ (by omega), ha, hb, hc, Nat.mod_lt _ (by omega), he, hf, hg⟩
theorem rounds_ok (w : List Nat) {s : St} (h : s.ok) : ∀ i, (rounds w s i).ok
  | 0 => h
  | i + 1 => step_ok (rounds_ok w h i) _ _
theorem more_ok (s r : St) : (s.more r).ok :=
  ⟨Nat.mod_lt _ (by omega), Nat.mod_lt _ (by omega), Nat.mod_lt _ (by omega), Nat.mod_lt _ (by omega), Nat.mod_lt _ (by omega), Nat.mod_lt _ (by omega), Nat.mod_lt _ (by omega), Nat.mod_lt _ (by omega)⟩
theorem first_ok : first.ok := by unfold St.ok first; simp
theorem blocks_ok (t : List UInt8) : ∀ n, (blocks t n).ok
  | 0 => first_ok
  | _ + 1 => more_ok _ _
theorem ext_len (bs : List UInt8) : ∀ k, (ext bs k).length = k
  | 0 => rfl
  | k + 1 => by simp [ext, ext_len bs k]
theorem nextw_lt (l : List Nat) (i : Nat) : nextw l i < 4294967296 := Nat.mod_lt _ (by omega)
theorem ext_lt (bs : List UInt8) : ∀ k, ∀ x ∈ ext bs k, x < 4294967296
  | 0 => fun _ h => by cases h
  | k + 1 => fun x h => by
    simp only [ext, List.mem_append, List.mem_singleton] at h
    rcases h with h | rfl
    · exact ext_lt bs k x h
    · split
      · exact word_lt _ _
      · exact nextw_lt _ _
theorem getD_lt {l : List Nat} (h : ∀ x ∈ l, x < 4294967296) (i : Nat) : l.getD i 0 < 4294967296 := by
  rw [List.getD_eq_getElem?_getD]
  cases e : l[i]? with
  | none => simp
  | some v => exact h v (List.mem_of_getElem? e)
theorem ext_getD_lt (bs : List UInt8) (k i : Nat) : (ext bs k).getD i 0 < 4294967296 := getD_lt (ext_lt bs k) i
theorem ext_succ (bs : List UInt8) (k : Nat) : ext bs (k + 1) = ext bs k ++ [if k < 16 then word bs k else nextw (ext bs k) k] := rfl
theorem set_at {l : List Nat} {k : Nat} (h : l.length = k) (v : Nat) (hk : k < 64) :
    (l ++ List.replicate (64 - k) 0).set k v = (l ++ [v]) ++ List.replicate (64 - (k + 1)) 0 := by
  have e : 64 - k = (64 - (k + 1)) + 1 := by omega
  rw [e, List.replicate_succ, List.set_append, if_neg (by omega), show k - l.length = 0 from by omega]
  simp
theorem keys_lt (i : Nat) : keys.getD i 0 < 4294967296 := getD_lt (by decide) i
theorem sha_len (t : List UInt8) : (sha t).length = 32 := rfl
end Go.Proofs.YtabgkfkjnpcbkaaDoor.Sha
namespace Go.Proofs.YtabgkfkjnpcbkaaDoor.Dg
open Go Go.RowKit Kt Sha

theorem turn_any (x : Nat) (n : Int) (w : World) (h : x < 4294967296) (n0 : 0 ≤ n) (n1 : n ≤ 32) :
    Calls Tryd.prog 92 #[.int .u32 x, .int .u64 n] w fun e w' => e = .returned (.int .u32 (rotr x n.toNat : Nat)) ∧ w = w' := by
  go_enter Tryd.func92, Tryd.ntmps92
  go_wp2
  go_ret
  refine ⟨?_, rfl⟩
  obtain ⟨m, rfl⟩ := Int.eq_ofNat_of_zero_le n0
  have hm : m ≤ 32 := by omega
  have e1 : ((32 : Int) - (m : Int)).toNat = 32 - m := by omega
  have e2 : (x : Int) / 2 ^ ((m : Int)).toNat = ((x / 2 ^ m : Nat) : Int) := by simp
  have e3 : (x : Int) * 2 ^ ((32 : Int) - (m : Int)).toNat % 4294967296 = ((x * 2 ^ (32 - m) % 4294967296 : Nat) : Int) := by rw [e1]; simp
  have e4 := u32_or_nat (x / 2 ^ m) (x * 2 ^ (32 - m) % 4294967296) (Nat.lt_of_le_of_lt (Nat.div_le_self _ _) h) (Nat.mod_lt _ (by omega))
  show Ending.returned (.int .u32 (bits .or .u32 _ _)) = _
  rw [e2, e3, e4]
  rfl

/-- the words of a block, as the loops lay them -/
def arr (bs : List UInt8) (k : Nat) : List Value := u32s (ext bs k ++ List.replicate (64 - k) 0)
theorem arr_len (bs : List UInt8) (k : Nat) (h : k ≤ 64) : (arr bs k).length = 64 := by simp [arr, u32s_len, ext_len]; omega
theorem arr_get (bs : List UInt8) (k i : Nat) (h : i < k) (_ : k ≤ 64) : (arr bs k)[i]? = some (.int .u32 (((ext bs k).getD i 0 : Nat) : Int)) := by
  unfold arr
  rw [u32s_append, List.getElem?_append_left (by rw [u32s_len, ext_len]; exact h), u32s_get _ _ (by rw [ext_len]; exact h)]
theorem arr_some (bs : List UInt8) (k : Nat) (hk : k < 64) : (arr bs k)[k]? = some (.int .u32 0) := by
  unfold arr
  rw [u32s_append, List.getElem?_append_right (by rw [u32s_len, ext_len]; omega), u32s_len, ext_len, Nat.sub_self, u32s_get _ _ (by simp; omega)]
  rw [List.getD_eq_getElem?_getD, List.getElem?_replicate]
  split <;> rfl
theorem arr_set (bs : List UInt8) (k : Nat) (hk : k < 64) (v : Nat) (hv : v = if k < 16 then word bs k else nextw (ext bs k) k) :
    (arr bs k).set k (.int .u32 (v : Int)) = arr bs (k + 1) := by
  unfold arr
  rw [ext_succ, ← hv, ← set_at (ext_len bs k) v hk]
  simp [u32s, List.map_set]

theorem size64 : (Tryd.prog.info? 84).map (·.size) = some 64 := by kernel_rfl
theorem arr_size (bs : List UInt8) (k : Nat) (h : k ≤ 64) : (arr bs k).toArray.size = 64 := by simp [arr_len bs k h]
theorem u32s_all (l : List Nat) : (u32s l).toArray.all (·.oneCell') = true := all_oneCell_toArray (u32s_one l)
theorem sg0_val {x : Nat} (h : x < 4294967296) : bits BinOp.xor .u32 (bits BinOp.xor .u32 (rotr x 7 : Nat) (rotr x 18 : Nat)) ((x : Int) / 8) = (sg0 x : Nat) := by
  rw [u32_xor_nat _ _ (rotr_lt h) (rotr_lt h), show ((x : Int) / 8) = ((x / 8 : Nat) : Int) from by omega, u32_xor_nat _ _ (xor_lt (rotr_lt h) (rotr_lt h)) (by omega)]; rfl
theorem sg1_val {x : Nat} (h : x < 4294967296) : bits BinOp.xor .u32 (bits BinOp.xor .u32 (rotr x 17 : Nat) (rotr x 19 : Nat)) ((x : Int) / 1024) = (sg1 x : Nat) := by
  rw [u32_xor_nat _ _ (rotr_lt h) (rotr_lt h), show ((x : Int) / 1024) = ((x / 1024 : Nat) : Int) from by omega, u32_xor_nat _ _ (xor_lt (rotr_lt h) (rotr_lt h)) (by omega)]; rfl
/-- What the loops of spread keep. -/
structure Mid (w : World) (bs : List UInt8) (k : Nat) (wr : World) : Prop where
  box : Row wr w.heap.size 106 (u8s bs)
  res : Row wr (w.heap.size + 1) 84 (u32s (List.replicate 64 0))
  row : Row wr (w.heap.size + 1 + 1) 84 (arr bs k)
  size : wr.heap.size = w.heap.size + 1 + 1 + 1
  below : Below w.heap.size w wr

theorem Mid.next {w wr : World} {bs : List UInt8} {k : Nat} (h : Mid w bs k wr) (hk : k < 64) {v : Nat} (hv : v = if k < 16 then word bs k else nextw (ext bs k) k) :
    Mid w bs (k + 1) (wr.setCell ⟨w.heap.size + 1 + 1, k, none⟩ (.int .u32 (v : Int))).drew where
  box := (h.box.off (by omega) _).drew
  res := (h.res.off (by omega) _).drew
  row := by have := (h.row.put k (.int .u32 (v : Int))).drew; rwa [arr_set bs k hk v hv] at this
  size := by simpa [World.setCell] using h.size
  below := (below_put h.below (by omega) _).drew

theorem Mid.drew {w wr : World} {bs : List UInt8} {k : Nat} (h : Mid w bs k wr) : Mid w bs k wr.drew := ⟨h.box.drew, h.res.drew, h.row.drew, h.size, h.below.drew⟩

theorem word_val (bs : List UInt8) (k : Nat) :
    bits BinOp.or .u32 (bits BinOp.or .u32 (bits BinOp.or .u32 (((bs[4 * k]?.getD 0).toNat : Int) % 4294967296 * 16777216 % 4294967296)
      (((bs[4 * k + 1]?.getD 0).toNat : Int) % 4294967296 * 65536 % 4294967296)) (((bs[4 * k + 2]?.getD 0).toNat : Int) % 4294967296 * 256 % 4294967296))
      (((bs[4 * k + 3]?.getD 0).toNat : Int) % 4294967296) = ((word bs k : Nat) : Int) := by
  unfold word
  simp only [List.getD_eq_getElem?_getD]
  generalize bs[4 * k]?.getD 0 = x0
  generalize bs[4 * k + 1]?.getD 0 = x1
  generalize bs[4 * k + 2]?.getD 0 = x2
  generalize bs[4 * k + 3]?.getD 0 = x3
  have h0 := toNat_lt x0
  have h1 := toNat_lt x1
  have h2 := toNat_lt x2
  have h3 := toNat_lt x3
  rw [show ((x0.toNat : Int) % 4294967296 * 16777216 % 4294967296) = ((x0.toNat * 16777216 : Nat) : Int) from by omega,
    show ((x1.toNat : Int) % 4294967296 * 65536 % 4294967296) = ((x1.toNat * 65536 : Nat) : Int) from by omega,
    show ((x2.toNat : Int) % 4294967296 * 256 % 4294967296) = ((x2.toNat * 256 : Nat) : Int) from by omega,
    show ((x3.toNat : Int) % 4294967296) = ((x3.toNat : Nat) : Int) from by omega]
  rw [u32_or_nat _ _ (by omega) (by omega), u32_or_nat _ _ (or_lt (by omega) (by omega)) (by omega), u32_or_nat _ _ (or_lt (or_lt (by omega) (by omega)) (by omega)) (by omega)]

set_option maxHeartbeats 1000000 in
theorem spread_any (bs : List UInt8) (w : World) (hl : bs.length = 64) :
    Calls Tryd.prog 77 #[.agg (u8s bs).toArray] w fun e w' => e = .returned (.agg (u32s (ext bs 64)).toArray) ∧ Below w.heap.size w w' := by
  have Hl := hide hl
  clear hl
  go_enter Tryd.func77, Tryd.ntmps77
  go_wp2
  go_loopw [10] (fun i wr => ∃ k : Nat, k ≤ 16 ∧ i = .int .i64 k ∧ Mid w bs k wr) (fun i _ => 16 - (intOf i).toNat)
  case atStart =>
    refine ⟨0, by omega, rfl, ⟨?_, ?_, ?_, ?_, ?_⟩⟩
    · exact ((Row.new w _ rfl rfl).alloc _).alloc _
    · exact (Row.new _ _ (by simp) rfl).alloc _
    · exact Row.new _ _ (by simp) rfl
    · simp
    · exact (((Below.refl _ _).alloc (Nat.le_refl _) _).alloc (by simp) _).alloc (by simp; omega) _
  case round =>
    obtain ⟨k, hk, rfl, hm⟩ := hrel
    by_cases hlt : k < 16
    · have hl := Hl.out
      have c0 : wr.cell? ⟨w.heap.size, 4 * k, none⟩ = some (.int .u8 (bs.getD (4 * k) 0).toNat) := by rw [hm.box.cell, u8s_get _ _ (by omega)]
      have c1 : wr.cell? ⟨w.heap.size, 4 * k + 1, none⟩ = some (.int .u8 (bs.getD (4 * k + 1) 0).toNat) := by rw [hm.box.cell, u8s_get _ _ (by omega)]
      have c2 : wr.cell? ⟨w.heap.size, 4 * k + 2, none⟩ = some (.int .u8 (bs.getD (4 * k + 2) 0).toNat) := by rw [hm.box.cell, u8s_get _ _ (by omega)]
      have c3 : wr.cell? ⟨w.heap.size, 4 * k + 3, none⟩ = some (.int .u8 (bs.getD (4 * k + 3) 0).toNat) := by rw [hm.box.cell, u8s_get _ _ (by omega)]
      have c4 : wr.cell? ⟨w.heap.size + 1 + 1, k, none⟩ = some (.int .u32 0) := by rw [hm.row.cell, arr_some _ _ (by omega)]
      have f4 : wr.frozen? ⟨w.heap.size + 1 + 1, k, none⟩ = false := hm.row.free _
      clear hl
      go_wp2
      go_region
      go_wp2
      go_roundw
      case rel =>
        refine ⟨k + 1, by omega, by go_num, ?_⟩
        rw [word_val bs k]
        exact hm.next (by omega) (by rw [if_pos hlt])
      case measure => simp [intOf]; omega
    · obtain rfl : k = 16 := by omega
      rw [show ((16 : Nat) : Int) = 16 from rfl]
      go_wp2
      go_loopw [5] (fun i wr => ∃ k : Nat, 16 ≤ k ∧ k ≤ 64 ∧ i = .int .i64 k ∧ Mid w bs k wr) (fun i _ => 64 - (intOf i).toNat)
      case atStart => exact ⟨16, by omega, by omega, rfl, hm⟩
      case round =>
        obtain ⟨k, hk0, hk, rfl, hm⟩ := hrel
        by_cases hlt : k < 64
        · have a15 : wr.cell? ⟨w.heap.size + 1 + 1, k - 15, none⟩ = some (.int .u32 ((ext bs k).getD (k - 15) 0 : Nat)) := by
            rw [hm.row.cell, arr_get _ _ _ (by omega) hk]
          have a2 : wr.cell? ⟨w.heap.size + 1 + 1, k - 2, none⟩ = some (.int .u32 ((ext bs k).getD (k - 2) 0 : Nat)) := by
            rw [hm.row.cell, arr_get _ _ _ (by omega) hk]
          have a16 : wr.cell? ⟨w.heap.size + 1 + 1, k - 16, none⟩ = some (.int .u32 ((ext bs k).getD (k - 16) 0 : Nat)) := by
            rw [hm.row.cell, arr_get _ _ _ (by omega) hk]
          have a7 : wr.cell? ⟨w.heap.size + 1 + 1, k - 7, none⟩ = some (.int .u32 ((ext bs k).getD (k - 7) 0 : Nat)) := by
            rw [hm.row.cell, arr_get _ _ _ (by omega) hk]
          have b15 := ext_getD_lt bs k (k - 15)
          have b2 := ext_getD_lt bs k (k - 2)
          have b16 := ext_getD_lt bs k (k - 16)
          have b7 := ext_getD_lt bs k (k - 7)
          have c4 : wr.cell? ⟨w.heap.size + 1 + 1, k, none⟩ = some (.int .u32 0) := by rw [hm.row.cell, arr_some _ _ (by omega)]
          have f4 : wr.frozen? ⟨w.heap.size + 1 + 1, k, none⟩ = false := hm.row.free _
          have Hn : Hid (nextw (ext bs k) k = ((ext bs k).getD (k - 16) 0 + sg0 ((ext bs k).getD (k - 15) 0) + (ext bs k).getD (k - 7) 0 + sg1 ((ext bs k).getD (k - 2) 0)) % 4294967296) := rfl
          generalize (ext bs k).getD (k - 15) 0 = x15 at *
          generalize (ext bs k).getD (k - 16) 0 = x16 at *
          generalize (ext bs k).getD (k - 7) 0 = x7 at *
          generalize (ext bs k).getD (k - 2) 0 = x2 at *
          have i15 : 0 ≤ (k : Int) - 15 := by omega
          have j15 : (k : Int) - 15 < 64 := by omega
          have i2 : 0 ≤ (k : Int) - 2 := by omega
          have j2 : (k : Int) - 2 < 64 := by omega
          have i16 : 0 ≤ (k : Int) - 16 := by omega
          have j16 : (k : Int) - 16 < 64 := by omega
          have i7 : 0 ≤ (k : Int) - 7 := by omega
          have j7 : (k : Int) - 7 < 64 := by omega
          go_wp2
          go_region
          go_wp2_with (go_at_call 92; refine (turn_any _ _ _ (by assumption) (by omega) (by omega)).mono ?_; rintro e w' ⟨rfl, rfl⟩)
          rw [sg0_val b15, sg1_val b2]
          go_region
          go_wp2
          go_roundw
          case rel =>
            refine ⟨k + 1, by omega, by omega, by go_num, ?_⟩
            have hq := hm.next (wr := wr) (by omega) (v := nextw (ext bs k) k) (by rw [if_neg (by omega)])
            rw [Hn.out] at hq
            rw [show (((x16 : Int) + (sg0 x15 : Nat) + (x7 : Nat) + (sg1 x2 : Nat)) % 4294967296) = (((x16 + sg0 x15 + x7 + sg1 x2) % 4294967296 : Nat) : Int) from by omega]
            exact hq.drew
          case measure => simp [intOf]; omega
        · obtain rfl : k = 64 := by omega
          have hz := hide (arr_size bs 64 (Nat.le_refl _))
          have h1 := hide (u32s_all (ext bs 64 ++ List.replicate (64 - 64) 0))
          have hr := hide (hm.row)
          have hr2 := hide (hm.res)
          go_wp2_with (first
            | (refine wpList_load_row rfl 84 (.tmp 3) rfl (w.heap.size + 1 + 1) rfl 84 (arr bs 64).toArray (0, 0) _ hr.out Tryd.underlying84 rfl (size64.trans (by rw [hz.out])) ?_)
            | (refine wpList_store_row rfl 84 (.tmp 2) (.tmp 88) rfl (w.heap.size + 1) (arr bs 64).toArray rfl rfl 84 _ hr2.out (size64.trans (by rw [hz.out])) (by rw [hz.out]; simp [u32s_len]) h1.out ?_))
          have hf := hr2.out.all (arr bs 64)
          refine bodyPost_ret (results_cell_row rfl _ _ (w.heap.size + 1) 84 (arr bs 64).toArray (0, 0) _ rfl hf Tryd.underlying84 rfl (size64.trans (by rw [hz.out]))) rfl ⟨?_, below_all hm.below (by omega) _⟩
          simp [arr]
end Go.Proofs.YtabgkfkjnpcbkaaDoor.Dg
