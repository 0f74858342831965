/-
  What the document's digest is, as a function on lists of bytes: no program is named here.
-/
import Derived.Test.YtoppmagelkfhoaaDoorKit
namespace Go.Proofs.YtoppmagelkfhoaaDoor.Sha

def rotr (x n : Nat) : Nat := x / 2 ^ n ||| x * 2 ^ (32 - n) % 4294967296
def word (bs : List UInt8) (i : Nat) : Nat :=
  (((bs.getD (4 * i) 0).toNat * 16777216 ||| (bs.getD (4 * i + 1) 0).toNat * 65536) ||| (bs.getD (4 * i + 2) 0).toNat * 256) ||| (bs.getD (4 * i + 3) 0).toNat
def sg0 (x : Nat) : Nat := (rotr x 7 ^^^ rotr x 18) ^^^ x / 8
def sg1 (y : Nat) : Nat := (rotr y 17 ^^^ rotr y 19) ^^^ y / 1024
def nextw (l : List Nat) (i : Nat) : Nat := (l.getD (i - 16) 0 + sg0 (l.getD (i - 15) 0) + l.getD (i - 7) 0 + sg1 (l.getD (i - 2) 0)) % 4294967296
def ext (bs : List UInt8) : Nat → List Nat
  | 0 => []
  | k + 1 => ext bs k ++ [if k < 16 then word bs k else nextw (ext bs k) k]
structure St where
  (a b c d e f g h : Nat)
def St.list (s : St) : List Nat := [s.a, s.b, s.c, s.d, s.e, s.f, s.g, s.h]
def big1 (e : Nat) : Nat := (rotr e 6 ^^^ rotr e 11) ^^^ rotr e 25
def big0 (a : Nat) : Nat := (rotr a 2 ^^^ rotr a 13) ^^^ rotr a 22
def ch (e f g : Nat) : Nat := (e &&& f) ^^^ ((4294967295 - e) &&& g)
def maj (a b c : Nat) : Nat := ((a &&& b) ^^^ (a &&& c)) ^^^ (b &&& c)
def tee (s : St) (k w : Nat) : Nat := (s.h + big1 s.e + ch s.e s.f s.g + k + w) % 4294967296
def you (s : St) : Nat := (big0 s.a + maj s.a s.b s.c) % 4294967296
def St.step (s : St) (k w : Nat) : St := ⟨(tee s k w + you s) % 4294967296, s.a, s.b, s.c, (s.d + tee s k w) % 4294967296, s.e, s.f, s.g⟩
def keys : List Nat := [
  0x428a2f98, 0x71374491, 0xb5c0fbcf, 0xe9b5dba5, 0x3956c25b, 0x59f111f1, 0x923f82a4, 0xab1c5ed5,
  0xd807aa98, 0x12835b01, 0x243185be, 0x550c7dc3, 0x72be5d74, 0x80deb1fe, 0x9bdc06a7, 0xc19bf174,
  0xe49b69c1, 0xefbe4786, 0x0fc19dc6, 0x240ca1cc, 0x2de92c6f, 0x4a7484aa, 0x5cb0a9dc, 0x76f988da,
  0x983e5152, 0xa831c66d, 0xb00327c8, 0xbf597fc7, 0xc6e00bf3, 0xd5a79147, 0x06ca6351, 0x14292967,
  0x27b70a85, 0x2e1b2138, 0x4d2c6dfc, 0x53380d13, 0x650a7354, 0x766a0abb, 0x81c2c92e, 0x92722c85,
  0xa2bfe8a1, 0xa81a664b, 0xc24b8b70, 0xc76c51a3, 0xd192e819, 0xd6990624, 0xf40e3585, 0x106aa070,
  0x19a4c116, 0x1e376c08, 0x2748774c, 0x34b0bcb5, 0x391c0cb3, 0x4ed8aa4a, 0x5b9cca4f, 0x682e6ff3,
  0x748f82ee, 0x78a5636f, 0x84c87814, 0x8cc70208, 0x90befffa, 0xa4506ceb, 0xbef9a3f7, 0xc67178f2]
def rounds (w : List Nat) (s : St) : Nat → St
  | 0 => s
  | i + 1 => (rounds w s i).step (keys.getD i 0) (w.getD i 0)
def St.more (s r : St) : St := ⟨(s.a + r.a) % 4294967296, (s.b + r.b) % 4294967296, (s.c + r.c) % 4294967296, (s.d + r.d) % 4294967296, (s.e + r.e) % 4294967296, (s.f + r.f) % 4294967296, (s.g + r.g) % 4294967296, (s.h + r.h) % 4294967296⟩
def mix (s : St) (w : List Nat) : St := s.more (rounds w s 64)
def first : St := ⟨0x6a09e667, 0xbb67ae85, 0x3c6ef372, 0xa54ff53a, 0x510e527f, 0x9b05688c, 0x1f83d9ab, 0x5be0cd19⟩
def blocks (t : List UInt8) : Nat → St
  | 0 => first
  | n + 1 => mix (blocks t n) (ext ((t.drop (64 * n)).take 64) 64)
def state (t : List UInt8) : St := blocks t (t.length / 64)
def zeros (n : Nat) : Nat := (64 - (n + 9) % 64) % 64
def bits8 (n k : Nat) : List UInt8 := (List.range k).map fun i => UInt8.ofNat (n * 8 / 256 ^ (7 - i))
def pad (n : Nat) : List UInt8 := [128] ++ List.replicate (zeros n) 0 ++ bits8 n 8
def four (x : Nat) : List UInt8 := [UInt8.ofNat (x / 16777216), UInt8.ofNat (x / 65536), UInt8.ofNat (x / 256), UInt8.ofNat x]
def St.bytes (s : St) : List UInt8 := s.list.flatMap four
def sha (t : List UInt8) : List UInt8 := (state (t ++ pad t.length)).bytes

theorem sha_abc : sha [97, 98, 99] = [0xba, 0x78, 0x16, 0xbf, 0x8f, 0x01, 0xcf, 0xea, 0x41, 0x41, 0x40, 0xde, 0x5d, 0xae, 0x22, 0x23, 0xb0, 0x03, 0x61, 0xa3, 0x96, 0x17, 0x7a, 0x9c, 0xb4, 0x10, 0xff, 0x61, 0xf2, 0x00, 0x15, 0xad] := by decide +kernel

/-! sizes -/
open Kt
def St.ok (s : St) : Prop := s.a < 4294967296 ∧ s.b < 4294967296 ∧ s.c < 4294967296 ∧ s.d < 4294967296 ∧ s.e < 4294967296 ∧ s.f < 4294967296 ∧ s.g < 4294967296 ∧ s.h < 4294967296
theorem rotr_lt {x n : Nat} (h : x < 4294967296) : rotr x n < 4294967296 :=
  or_lt (Nat.lt_of_le_of_lt (Nat.div_le_self _ _) h) (Nat.mod_lt _ (by omega))
theorem word_lt (bs : List UInt8) (i : Nat) : word bs i < 4294967296 := by
  have h0 := toNat_lt (bs.getD (4 * i) 0)
  have h1 := toNat_lt (bs.getD (4 * i + 1) 0)
  have h2 := toNat_lt (bs.getD (4 * i + 2) 0)
  have h3 := toNat_lt (bs.getD (4 * i + 3) 0)
  exact or_lt (or_lt (or_lt (by omega) (by omega)) (by omega)) (by omega)
theorem sg0_lt {x : Nat} (h : x < 4294967296) : sg0 x < 4294967296 := xor_lt (xor_lt (rotr_lt h) (rotr_lt h)) (by omega)
theorem sg1_lt {x : Nat} (h : x < 4294967296) : sg1 x < 4294967296 := xor_lt (xor_lt (rotr_lt h) (rotr_lt h)) (by omega)
theorem big0_lt {x : Nat} (h : x < 4294967296) : big0 x < 4294967296 := xor_lt (xor_lt (rotr_lt h) (rotr_lt h)) (rotr_lt h)
theorem big1_lt {x : Nat} (h : x < 4294967296) : big1 x < 4294967296 := xor_lt (xor_lt (rotr_lt h) (rotr_lt h)) (rotr_lt h)
theorem ch_lt {e f g : Nat} (h : f < 4294967296) (h' : g < 4294967296) : ch e f g < 4294967296 := xor_lt (and_lt h) (and_lt h')
theorem maj_lt {a b c : Nat} (h : b < 4294967296) (h' : c < 4294967296) : maj a b c < 4294967296 := xor_lt (xor_lt (and_lt h) (and_lt h')) (and_lt h')
theorem step_ok {s : St} (h : s.ok) (k w : Nat) : (s.step k w).ok := by
  obtain ⟨ha, hb, hc, hd, he, hf, hg, hh⟩ := h
  exact ⟨Nat.mod_lt _ (by omega), ha, hb, hc, Nat.mod_lt _ (by omega), he, hf, hg⟩
theorem rounds_ok (w : List Nat) {s : St} (h : s.ok) : ∀ i, (rounds w s i).ok
  | 0 => h
  | i + 1 => step_ok (rounds_ok w h i) _ _
theorem more_ok (s r : St) : (s.more r).ok :=
  ⟨Nat.mod_lt _ (by omega), Nat.mod_lt _ (by omega), Nat.mod_lt _ (by omega), Nat.mod_lt _ (by omega), Nat.mod_lt _ (by omega), Nat.mod_lt _ (by omega), Nat.mod_lt _ (by omega), Nat.mod_lt _ (by omega)⟩
theorem first_ok : first.ok := by unfold St.ok first; simp
theorem blocks_ok (t : List UInt8) : ∀ n, (blocks t n).ok
  | 0 => first_ok
  | _ + 1 => more_ok _ _
theorem ext_len (bs : List UInt8) : ∀ k, (ext bs k).length = k
  | 0 => rfl
  | k + 1 => by simp [ext, ext_len bs k]
theorem nextw_lt (l : List Nat) (i : Nat) : nextw l i < 4294967296 := Nat.mod_lt _ (by omega)
theorem ext_lt (bs : List UInt8) : ∀ k, ∀ x ∈ ext bs k, x < 4294967296
  | 0 => fun _ h => by cases h
  | k + 1 => fun x h => by
    simp only [ext, List.mem_append, List.mem_singleton] at h
    rcases h with h | rfl
    · exact ext_lt bs k x h
    · split
      · exact word_lt _ _
      · exact nextw_lt _ _
theorem getD_lt {l : List Nat} (h : ∀ x ∈ l, x < 4294967296) (i : Nat) : l.getD i 0 < 4294967296 := by
  rw [List.getD_eq_getElem?_getD]
  cases e : l[i]? with
  | none => simp
  | some v => exact h v (List.mem_of_getElem? e)
theorem ext_getD_lt (bs : List UInt8) (k i : Nat) : (ext bs k).getD i 0 < 4294967296 := getD_lt (ext_lt bs k) i
theorem ext_succ (bs : List UInt8) (k : Nat) : ext bs (k + 1) = ext bs k ++ [if k < 16 then word bs k else nextw (ext bs k) k] := rfl
theorem set_at {l : List Nat} {k : Nat} (h : l.length = k) (v : Nat) (hk : k < 64) :
    (l ++ List.replicate (64 - k) 0).set k v = (l ++ [v]) ++ List.replicate (64 - (k + 1)) 0 := by
  have e : 64 - k = (64 - (k + 1)) + 1 := by omega
  rw [e, List.replicate_succ, List.set_append, if_neg (by omega), show k - l.length = 0 from by omega]
  simp
theorem keys_lt (i : Nat) : keys.getD i 0 < 4294967296 := getD_lt (by decide) i
theorem sha_len (t : List UInt8) : (sha t).length = 32 := rfl
end Go.Proofs.YtoppmagelkfhoaaDoor.Sha
