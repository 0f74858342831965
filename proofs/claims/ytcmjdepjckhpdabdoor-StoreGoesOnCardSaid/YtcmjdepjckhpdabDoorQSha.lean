/-
  What the document's digest is, as a function on lists of bytes: no program is named here.
-/
import Derived.Test.YtcmjdepjckhpdabDoorKit
import Derived.ProofKit
namespace Go.Proofs.YtcmjdepjckhpdabDoor.Sha

def rotr (x n : Nat) : Nat := x / 2 ^ n ||| x * 2 ^ (32 - n) % 4294967296
def word (bs : List UInt8) (i : Nat) : Nat :=
  (((bs.getD (4 * i) 0).toNat * 16777216 ||| (bs.getD (4 * i + 1) 0).toNat * 65536) ||| (bs.getD (4 * i + 2) 0).toNat * 256) ||| (bs.getD (4 * i + 3) 0).toNat
def sg0 (x : Nat) : Nat := (rotr x 7 ^^^ rotr x 18) ^^^ x / 8
def sg1 (y : Nat) : Nat := (rotr y 17 ^^^ rotr y 19) ^^^ y / 1024
def nextw (l : List Nat) (i : Nat) : Nat := (l.getD (i - 16) 0 + sg0 (l.getD (i - 15) 0) + l.getD (i - 7) 0 + sg1 (l.getD (i - 2) 0)) % 4294967296
def ext (bs : List UInt8) : Nat → List Nat
  | 0 => []
  | k + 1 => ext bs k ++ [if k < 16 then word bs k else nextw (ext bs k) k]
structure St where
  (a b c d e f g h : Nat)
def St.list (s : St) : List Nat := [s.a, s.b, s.c, s.d, s.e, s.f, s.g, s.h]
def big1 (e : Nat) : Nat := (rotr e 6 ^^^ rotr e 11) ^^^ rotr e 25
def big0 (a : Nat) : Nat := (rotr a 2 ^^^ rotr a 13) ^^^ rotr a 22
def ch (e f g : Nat) : Nat := (e &&& f) ^^^ ((4294967295 - e) &&& g)
def maj (a b c : Nat) : Nat := ((a &&& b) ^^^ (a &&& c)) ^^^ (b &&& c)
def tee (s : St) (k w : Nat) : Nat := (s.h + big1 s.e + ch s.e s.f s.g + k + w) % 4294967296
def you (s : St) : Nat := (big0 s.a + maj s.a s.b s.c) % 4294967296
def St.step (s : St) (k w : Nat) : St := ⟨(tee s k w + you s) % 4294967296, s.a, s.b, s.c, (s.d + tee s k w) % 4294967296, s.e, s.f, s.g⟩
def keys : List Nat := [
  0x428a2f98, 0x71374491, 0xb5c0fbcf, 0xe9b5dba5, 0x3956c25b, 0x59f111f1, 0x923f82a4, 0xab1c5ed5,
  0xd807aa98, 0x12835b01, 0x243185be, 0x550c7dc3, 0x72be5d74, 0x80deb1fe, 0x9bdc06a7, 0xc19bf174,
  0xe49b69c1, 0xefbe4786, 0x0fc19dc6, 0x240ca1cc, 0x2de92c6f, 0x4a7484aa, 0x5cb0a9dc, 0x76f988da,
  0x983e5152, 0xa831c66d, 0xb00327c8, 0xbf597fc7, 0xc6e00bf3, 0xd5a79147, 0x06ca6351, 0x14292967,
  0x27b70a85, 0x2e1b2138, 0x4d2c6dfc, 0x53380d13, 0x650a7354, 0x766a0abb, 0x81c2c92e, 0x92722c85,
  0xa2bfe8a1, 0xa81a664b, 0xc24b8b70, 0xc76c51a3, 0xd192e819, 0xd6990624, 0xf40e3585, 0x106aa070,
  0x19a4c116, 0x1e376c08, 0x2748774c, 0x34b0bcb5, 0x391c0cb3, 0x4ed8aa4a, 0x5b9cca4f, 0x682e6ff3,
  0x748f82ee, 0x78a5636f, 0x84c87814, 0x8cc70208, 0x90befffa, 0xa4506ceb, 0xbef9a3f7, 0xc67178f2]
def rounds (w : List Nat) (s : St) : Nat → St
  | 0 => s
  | i + 1 => (rounds w s i).step (keys.getD i 0) (w.getD i 0)
def St.more (s r : St) : St := ⟨(s.a + r.a) % 4294967296, (s.b + r.b) % 4294967296, (s.c + r.c) % 4294967296, (s.d + r.d) % 4294967296, (s.e + r.e) % 4294967296, (s.f + r.f) % 4294967296, (s.g + r.g) % 4294967296, (s.h + r.h) % 4294967296⟩
def mix (s : St) (w : List Nat) : St := s.more (rounds w s 64)
def first : St := ⟨0x6a09e667, 0xbb67ae85, 0x3c6ef372, 0xa54ff53a, 0x510e527f, 0x9b05688c, 0x1f83d9ab, 0x5be0cd19⟩
def blocks (t : List UInt8) : Nat → St
  | 0 => first
  | n + 1 => mix (blocks t n) (ext ((t.drop (64 * n)).take 64) 64)
def state (t : List UInt8) : St := blocks t (t.length / 64)
def zeros (n : Nat) : Nat := (64 - (n + 9) % 64) % 64
def bits8 (n k : Nat) : List UInt8 := (List.range k).map fun i => UInt8.ofNat (n * 8 / 256 ^ (7 - i))
def pad (n : Nat) : List UInt8 := [128] ++ List.replicate (zeros n) 0 ++ bits8 n 8
def four (x : Nat) : List UInt8 := [UInt8.ofNat (x / 16777216), UInt8.ofNat (x / 65536), UInt8.ofNat (x / 256), UInt8.ofNat x]
def St.bytes (s : St) : List UInt8 := s.list.flatMap four
def sha (t : List UInt8) : List UInt8 := (state (t ++ pad t.length)).bytes

theorem sha_abc : sha [97, 98, 99] = [0xba, 0x78, 0x16, 0xbf, 0x8f, 0x01, 0xcf, 0xea, 0x41, 0x41, 0x40, 0xde, 0x5d, 0xae, 0x22, 0x23, 0xb0, 0x03, 0x61, 0xa3, 0x96, 0x17, 0x7a, 0x9c, 0xb4, 0x10, 0xff, 0x61, 0xf2, 0x00, 0x15, 0xad] := by decide +kernel

/-! sizes -/
open Kt
def St.ok (s : St) : Prop := s.a < 4294967296 ∧ s.b < 4294967296 ∧ s.c < 4294967296 ∧ s.d < 4294967296 ∧ s.e < 4294967296 ∧ s.f < 4294967296 ∧ s.g < 4294967296 ∧ s.h < 4294967296
theorem rotr_lt {x n : Nat} (h : x < 4294967296) : rotr x n < 4294967296 :=
  or_lt (Nat.lt_of_le_of_lt (Nat.div_le_self _ _) h) (Nat.mod_lt _ (by omega))
theorem word_lt (bs : List UInt8) (i : Nat) : word bs i < 4294967296 := by
  have h0 := toNat_lt (bs.getD (4 * i) 0)
  have h1 := toNat_lt (bs.getD (4 * i + 1) 0)
  have h2 := toNat_lt (bs.getD (4 * i + 2) 0)
  have h3 := toNat_lt (bs.getD (4 * i + 3) 0)
  exact or_lt (or_lt (or_lt (by omega) (by omega)) (by omega)) (by omega)
theorem sg0_lt {x : Nat} (h : x < 4294967296) : sg0 x < 4294967296 := xor_lt (xor_lt (rotr_lt h) (rotr_lt h)) (by omega)
theorem sg1_lt {x : Nat} (h : x < 4294967296) : sg1 x < 4294967296 := xor_lt (xor_lt (rotr_lt h) (rotr_lt h)) (by omega)
theorem big0_lt {x : Nat} (h : x < 4294967296) : big0 x < 4294967296 := xor_lt (xor_lt (rotr_lt h) (rotr_lt h)) (rotr_lt h)
theorem big1_lt {x : Nat} (h : x < 4294967296) : big1 x < 4294967296 := xor_lt (xor_lt (rotr_lt h) (rotr_lt h)) (rotr_lt h)
theorem ch_lt {e f g : Nat} (h : f < 4294967296) (h' : g < 4294967296) : ch e f g < 4294967296 := xor_lt (and_lt h) (and_lt h')
theorem maj_lt {a b c : Nat} (h : b < 4294967296) (h' : c < 4294967296) : maj a b c < 4294967296 := xor_lt (xor_lt (and_lt h) (and_lt h')) (and_lt h')
theorem step_ok {s : St} (h : s.ok) (k w : Nat) : (s.step k w).ok := by
  obtain ⟨ha, hb, hc, hd, he, hf, hg, hh⟩ := h
  exact ⟨Nat.mod_lt _ (by omega), ha, hb, hc, Nat.mod_lt _ (by omega), he, hf, hg⟩
theorem rounds_ok (w : List Nat) {s : St} (h : s.ok) : ∀ i, (rounds w s i).ok
  | 0 => h
  | i + 1 => step_ok (rounds_ok w h i) _ _
theorem more_ok (s r : St) : (s.more r).ok :=
  ⟨Nat.mod_lt _ (by omega), Nat.mod_lt _ (by omega), Nat.mod_lt _ (by omega), Nat.mod_lt _ (by omega), Nat.mod_lt _ (by omega), Nat.mod_lt _ (by omega), Nat.mod_lt _ (by omega), Nat.mod_lt _ (by omega)⟩
theorem first_ok : first.ok := by unfold St.ok first; simp
theorem blocks_ok (t : List UInt8) : ∀ n, (blocks t n).ok
  | 0 => first_ok
  | _ + 1 => more_ok _ _
theorem ext_len (bs : List UInt8) : ∀ k, (ext bs k).length = k
  | 0 => rfl
  | k + 1 => by simp [ext, ext_len bs k]
theorem nextw_lt (l : List Nat) (i : Nat) : nextw l i < 4294967296 := Nat.mod_lt _ (by omega)
theorem ext_lt (bs : List UInt8) : ∀ k, ∀ x ∈ ext bs k, x < 4294967296
  | 0 => fun _ h => by cases h
  | k + 1 => fun x h => by
    simp only [ext, List.mem_append, List.mem_singleton] at h
    rcases h with h | rfl
    · exact ext_lt bs k x h
    · split
      · exact word_lt _ _
      · exact nextw_lt _ _
theorem getD_lt {l : List Nat} (h : ∀ x ∈ l, x < 4294967296) (i : Nat) : l.getD i 0 < 4294967296 := by
  rw [List.getD_eq_getElem?_getD]
  cases e : l[i]? with
  | none => simp
  | some v => exact h v (List.mem_of_getElem? e)
theorem ext_getD_lt (bs : List UInt8) (k i : Nat) : (ext bs k).getD i 0 < 4294967296 := getD_lt (ext_lt bs k) i
theorem ext_succ (bs : List UInt8) (k : Nat) : ext bs (k + 1) = ext bs k ++ [if k < 16 then word bs k else nextw (ext bs k) k] := rfl
theorem set_at {l : List Nat} {k : Nat} (h : l.length = k) (v : Nat) (hk : k < 64) :
    (l ++ List.replicate (64 - k) 0).set k v = (l ++ [v]) ++ List.replicate (64 - (k + 1)) 0 := by
  have e : 64 - k = (64 - (k + 1)) + 1 := by omega
  rw [e, List.replicate_succ, List.set_append, if_neg (by omega), show k - l.length = 0 from by omega]
  simp
theorem keys_lt (i : Nat) : keys.getD i 0 < 4294967296 := getD_lt (by decide) i
theorem sha_len (t : List UInt8) : (sha t).length = 32 := rfl
end Go.Proofs.YtcmjdepjckhpdabDoor.Sha
namespace Go.Proofs.YtcmjdepjckhpdabDoor.Dk

/-- a disk: its bytes, its room, its fuse (-1: none), whether it is dead -/
structure St where
  k : List UInt8
  room : Nat
  fuse : Int
  dead : Bool
structure Op where
  kind : Nat
  b : List UInt8
  n : Int
def St.fit (s : St) : Prop := s.k.length ≤ s.room ∧ s.room ≤ 16777216 ∧ -1 ≤ s.fuse ∧ s.fuse ≤ 9223372036854775807
def new (room : Nat) : St := ⟨[], room, -1, false⟩
def put (s : St) (b : List UInt8) : St × Nat :=
  if s.dead = true then (s, 9)
  else if s.room < s.k.length + b.length then (s, 8)
  else if s.fuse ≠ -1 ∧ s.fuse < (b.length : Int) then (⟨s.k ++ b.take s.fuse.toNat, s.room, -1, true⟩, 9)
  else (⟨s.k ++ b, s.room, if s.fuse = -1 then -1 else s.fuse - (b.length : Int), false⟩, 0)
def cut (s : St) (n : Int) : St × Nat :=
  if s.dead = true then (s, 9) else if n < 0 ∨ (s.k.length : Int) < n then (s, 1) else (⟨s.k.take n.toNat, s.room, s.fuse, false⟩, 0)
def fused (s : St) (n : Int) : St := ⟨s.k, s.room, if n < -1 then -1 else n, s.dead⟩
def begun (s : St) : St := ⟨s.k, s.room, -1, false⟩
def step (s : St) (o : Op) : St × Nat :=
  if o.kind = 0 then put s o.b else if o.kind = 1 then cut s o.n else if o.kind = 2 then (fused s o.n, 0) else if o.kind = 3 then (begun s, 0) else (s, 0)
def run (s : St) (l : List Op) : St := l.foldl (fun s o => (step s o).1) s
def Op.small (o : Op) : Prop := -9223372036854775808 ≤ o.n ∧ o.n ≤ 9223372036854775807
def few (l : List Op) : Bool := l.all (fun o => decide (o.b.length ≤ 40)) && decide (l.length ≤ 40)
theorem few_is {l : List Op} (h : few l = true) : l.length ≤ 40 ∧ ∀ o ∈ l, o.b.length ≤ 40 := by
  simp only [few, Bool.and_eq_true, List.all_eq_true, decide_eq_true_eq] at h
  exact ⟨h.2, h.1⟩

theorem new_fit {n : Nat} (h : n ≤ 16777216) : (new n).fit := ⟨Nat.zero_le _, h, by simp [new], by simp [new]⟩
theorem put_fit {s : St} {b : List UInt8} (h : s.fit) : (put s b).1.fit := by
  obtain ⟨h1, h2, h3, h4⟩ := h
  unfold put
  split
  · exact ⟨h1, h2, h3, h4⟩
  · split
    · exact ⟨h1, h2, h3, h4⟩
    · split
      · refine ⟨?_, h2, by simp, by simp⟩
        simp only [List.length_append, List.length_take]
        omega
      · refine ⟨?_, h2, ?_, ?_⟩
        · simp only [List.length_append]; omega
        · simp only []; split <;> omega
        · simp only []; split <;> omega
theorem cut_fit {s : St} {n : Int} (h : s.fit) : (cut s n).1.fit := by
  obtain ⟨h1, h2, h3, h4⟩ := h
  unfold cut
  split
  · exact ⟨h1, h2, h3, h4⟩
  · split
    · exact ⟨h1, h2, h3, h4⟩
    · refine ⟨?_, h2, h3, h4⟩
      simp only [List.length_take]
      omega
theorem fused_fit {s : St} {n : Int} (h : s.fit) (hn : n ≤ 9223372036854775807) : (fused s n).fit := by
  obtain ⟨h1, h2, h3, h4⟩ := h
  refine ⟨h1, h2, ?_, ?_⟩ <;> (simp only [fused]; split <;> omega)
theorem begun_fit {s : St} (h : s.fit) : (begun s).fit := ⟨h.1, h.2.1, by simp [begun], by simp [begun]⟩
theorem step_fit {s : St} {o : Op} (h : s.fit) (ho : o.small) : (step s o).1.fit := by
  unfold step
  split
  · exact put_fit h
  · split
    · exact cut_fit h
    · split
      · exact fused_fit h ho.2
      · split
        · exact begun_fit h
        · exact h
theorem put_room (s : St) (b : List UInt8) : (put s b).1.room = s.room := by
  unfold put; split
  · rfl
  · split
    · rfl
    · split <;> rfl
theorem step_room (s : St) (o : Op) : (step s o).1.room = s.room := by
  unfold step
  split
  · exact put_room s o.b
  · split
    · unfold cut; split
      · rfl
      · split <;> rfl
    · split
      · rfl
      · split <;> rfl
theorem run_snoc (s : St) (l : List Op) (o : Op) : run s (l ++ [o]) = (step (run s l) o).1 := by simp [run]
theorem run_fit {s : St} (h : s.fit) : ∀ (l : List Op), (∀ o ∈ l, o.small) → (run s l).fit := by
  intro l
  induction l generalizing s with
  | nil => intro _; exact h
  | cons o r ih => intro hl; exact ih (step_fit h (hl o (by simp))) fun x hx => hl x (by simp [hx])
theorem run_room (s : St) (l : List Op) : (run s l).room = s.room := by
  induction l generalizing s with
  | nil => rfl
  | cons o r ih => exact (ih _).trans (step_room s o)
/-- of a disk who appends is told that it is dead just if it is -/
theorem put_dead (s : St) (b : List UInt8) : decide ((put s b).2 = 9) = (put s b).1.dead := by
  unfold put
  by_cases h : s.dead = true
  · rw [if_pos h]; simp [h]
  · have h' : s.dead = false := by simpa using h
    rw [if_neg h]
    split
    · simp [h']
    · split <;> simp
theorem take_step (l : List Op) (i : Nat) (h : i < l.length) (s : St) : run s (l.take (i + 1)) = (step (run s (l.take i)) (l.getD i ⟨0, [], 0⟩)).1 := by
  rw [← run_snoc]
  congr 1
  rw [List.take_add_one, List.getElem?_eq_getElem h]
  simp [List.getD_eq_getElem?_getD, List.getElem?_eq_getElem h]

/-! ### The reference's disk -/
structure Rt where
  k : List UInt8
  room : Nat
  has : Bool
  fuse : Int
  dead : Bool
def rput (r : Rt) (b : List UInt8) : Rt × Nat :=
  if r.dead = true then (r, 9)
  else if r.room < r.k.length + b.length then (r, 8)
  else if r.has = true ∧ r.fuse < (b.length : Int) then (⟨r.k ++ b.take r.fuse.toNat, r.room, false, 0, true⟩, 9)
  else (⟨r.k ++ b, r.room, r.has, if r.has = true then r.fuse - (b.length : Int) else r.fuse, false⟩, 0)
def rcut (r : Rt) (n : Int) : Rt × Nat :=
  if r.dead = true then (r, 9) else if n < 0 ∨ (r.k.length : Int) < n then (r, 1) else (⟨r.k.take n.toNat, r.room, r.has, r.fuse, false⟩, 0)
def rfused (r : Rt) (n : Int) : Rt := ⟨r.k, r.room, decide (0 ≤ n), if 0 < n then n else 0, r.dead⟩
def rbegun (r : Rt) : Rt := ⟨r.k, r.room, false, r.fuse, false⟩
def rstep (r : Rt) (o : Op) : Rt × Nat :=
  if o.kind = 0 then rput r o.b else if o.kind = 1 then rcut r o.n else if o.kind = 2 then (rfused r o.n, 0) else if o.kind = 3 then (rbegun r, 0) else (r, 0)
def Rt.fit (r : Rt) : Prop := r.k.length ≤ r.room ∧ r.room ≤ 16777216 ∧ 0 ≤ r.fuse ∧ r.fuse ≤ 9223372036854775807
structure Rel (s : St) (r : Rt) : Prop where
  k : r.k = s.k
  room : r.room = s.room
  dead : r.dead = s.dead
  has : r.has = decide (s.fuse ≠ -1)
  fuse : r.has = true → r.fuse = s.fuse
  low : 0 ≤ r.fuse
  high : r.fuse ≤ 9223372036854775807
theorem Rel.fits {s : St} {r : Rt} (h : Rel s r) (hs : s.fit) : r.fit := ⟨by rw [h.k, h.room]; exact hs.1, by rw [h.room]; exact hs.2.1, h.low, h.high⟩
theorem Rel.new (n : Nat) : Rel (new n) ⟨[], n, false, 0, false⟩ := ⟨rfl, rfl, rfl, by simp [Dk.new], by simp, by simp, by simp⟩
theorem Rel.put {s : St} {r : Rt} (h : Rel s r) (hs : s.fit) (b : List UInt8) : Rel (put s b).1 (rput r b).1 ∧ (put s b).2 = (rput r b).2 := by
  obtain ⟨_, _, f1, f2⟩ := hs
  obtain ⟨k, room, fuse, dead⟩ := s
  obtain ⟨k', room', has, fuse', dead'⟩ := r
  obtain ⟨h1, h2, h3, h4, h5, h6, h7⟩ := h
  simp only at h1 h2 h3 h4 h5 h6 h7 f1 f2
  subst h1 h2 h3 h4
  unfold Dk.put rput
  simp only []
  by_cases a : dead' = true
  · rw [if_pos a, if_pos a]
    exact ⟨⟨rfl, rfl, rfl, rfl, h5, h6, h7⟩, rfl⟩
  · rw [if_neg a, if_neg a]
    by_cases c : room' < k'.length + b.length
    · rw [if_pos c, if_pos c]
      exact ⟨⟨rfl, rfl, rfl, rfl, h5, h6, h7⟩, rfl⟩
    · rw [if_neg c, if_neg c]
      by_cases e : fuse = -1
      · subst e
        have e3 : decide ((-1 : Int) ≠ -1) = false := by decide
        rw [e3]
        rw [if_neg (show ¬ ((-1 : Int) ≠ -1 ∧ (-1 : Int) < (b.length : Int)) from fun x => x.1 rfl), if_neg (show ¬ (false = true ∧ fuse' < (b.length : Int)) from fun x => Bool.noConfusion x.1), if_pos rfl, if_neg Bool.noConfusion]
        exact ⟨⟨rfl, rfl, rfl, e3.symm, fun x => Bool.noConfusion x, h6, h7⟩, rfl⟩
      · have e2 : decide (fuse ≠ -1) = true := by simpa using e
        have h8 := h5 e2
        subst h8
        rw [e2]
        by_cases g : fuse' < (b.length : Int)
        · rw [if_pos (show fuse' ≠ -1 ∧ fuse' < (b.length : Int) from ⟨e, g⟩), if_pos (show true = true ∧ fuse' < (b.length : Int) from ⟨rfl, g⟩)]
          exact ⟨⟨rfl, rfl, rfl, by simp, by simp, by simp, by simp⟩, rfl⟩
        · rw [if_neg (show ¬ (fuse' ≠ -1 ∧ fuse' < (b.length : Int)) from fun x => g x.2), if_neg (show ¬ (true = true ∧ fuse' < (b.length : Int)) from fun x => g x.2), if_neg e, if_pos (show true = true from rfl)]
          exact ⟨⟨rfl, rfl, rfl, by simp; omega, by simp, by simp only []; omega, by simp only []; omega⟩, rfl⟩
theorem Rel.step {s : St} {r : Rt} (h : Rel s r) (hs : s.fit) (o : Op) (ho : o.small) : Rel (step s o).1 (rstep r o).1 ∧ (step s o).2 = (rstep r o).2 := by
  unfold Dk.step rstep
  split
  · exact h.put hs o.b
  · split
    · unfold cut rcut
      obtain ⟨k, room, fuse, dead⟩ := s
      obtain ⟨k', room', has, fuse', dead'⟩ := r
      obtain ⟨h1, h2, h3, h4, h5, h6, h7⟩ := h
      simp only at h1 h2 h3 h4 h5 h6 h7
      subst h1 h2 h3 h4
      simp only []
      split
      · exact ⟨⟨rfl, rfl, rfl, rfl, h5, h6, h7⟩, rfl⟩
      · split
        · exact ⟨⟨rfl, rfl, rfl, rfl, h5, h6, h7⟩, rfl⟩
        · exact ⟨⟨rfl, rfl, rfl, rfl, h5, h6, h7⟩, rfl⟩
    · split
      · refine ⟨⟨h.k, h.room, h.dead, ?_, ?_, ?_, ?_⟩, rfl⟩
        · show decide (0 ≤ o.n) = decide ((if o.n < -1 then -1 else o.n) ≠ -1)
          by_cases h0 : o.n < -1
          · rw [if_pos h0, decide_eq_false (show ¬ 0 ≤ o.n by omega)]; rfl
          · rw [if_neg h0]
            by_cases h1 : 0 ≤ o.n
            · rw [decide_eq_true h1, decide_eq_true (show o.n ≠ -1 by omega)]
            · rw [decide_eq_false h1, decide_eq_false (show ¬ o.n ≠ -1 by omega)]
        · simp only [rfused, fused, decide_eq_true_eq]
          intro h0
          rw [if_neg (by omega : ¬ o.n < -1)]
          split <;> omega
        · simp only [rfused]; split <;> omega
        · have := ho.2
          simp only [rfused]; split <;> omega
      · split
        · exact ⟨⟨h.k, h.room, rfl, by simp [rbegun, begun], by simp [rbegun], h.low, h.high⟩, rfl⟩
        · exact ⟨h, rfl⟩
def rrun (r : Rt) (l : List Op) : Rt := l.foldl (fun r o => (rstep r o).1) r
theorem rtake_step (l : List Op) (i : Nat) (h : i < l.length) (r : Rt) : rrun r (l.take (i + 1)) = (rstep (rrun r (l.take i)) (l.getD i ⟨0, [], 0⟩)).1 := by
  rw [List.take_add_one, List.getElem?_eq_getElem h, show l.getD i ⟨0, [], 0⟩ = l[i] from by simp [List.getD_eq_getElem?_getD, List.getElem?_eq_getElem h]]
  unfold rrun
  rw [List.foldl_append]
  rfl
theorem Rel.run {s : St} {r : Rt} (h : Rel s r) (hs : s.fit) : ∀ (l : List Op), (∀ o ∈ l, o.small) → Rel (run s l) (rrun r l) := by
  intro l
  induction l generalizing s r with
  | nil => intro _; exact h
  | cons o t ih => intro hl; exact ih (h.step hs o (hl o (by simp))).1 (step_fit hs (hl o (by simp))) fun x hx => hl x (by simp [hx])
/-! ### What the laws say -/
/-- P13.4: behind a start, with a fuse -/
theorem tears (s : St) (b : List UInt8) (f : Nat) :
    (put (fused (begun s) f) b) = if s.room < s.k.length + b.length then (⟨s.k, s.room, f, false⟩, 8) else if f < b.length then (⟨s.k ++ b.take f, s.room, -1, true⟩, 9) else (⟨s.k ++ b, s.room, (f : Int) - b.length, false⟩, 0) := by
  unfold put fused begun
  simp only []
  rw [if_neg (by simp), if_neg (show ¬ (f : Int) < -1 by omega)]
  split
  · rfl
  · by_cases h : f < b.length
    · rw [if_pos h, if_pos ⟨by omega, by omega⟩]; simp
    · rw [if_neg h, if_neg (fun x => h (by omega)), if_neg (show ¬ (f : Int) = -1 by omega)]
/-- P13.2: no fuse -/
theorem put_plain (k b : List UInt8) (n : Nat) : put ⟨k, n, -1, false⟩ b = if n < k.length + b.length then (⟨k, n, -1, false⟩, 8) else (⟨k ++ b, n, -1, false⟩, 0) := by
  unfold put
  simp only []
  rw [if_neg (by simp)]
  split
  · rfl
  · rw [if_neg (show ¬ ((-1 : Int) ≠ -1 ∧ (-1 : Int) < (b.length : Int)) from fun x => x.1 rfl), if_pos trivial]
end Go.Proofs.YtcmjdepjckhpdabDoor.Dk
