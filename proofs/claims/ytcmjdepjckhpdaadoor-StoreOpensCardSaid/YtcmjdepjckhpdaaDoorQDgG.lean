/-
  What digest.Hex comes to.
-/
import Derived.Test.YtcmjdepjckhpdaaDoorQDgE
import Derived.Lib.Bytealg
import Derived.Lib.SlBytesConst
namespace Go.Proofs.YtcmjdepjckhpdaaDoor.Dg
open Go Go.RowKit Kt Sha

def hexd (n : Nat) : UInt8 := if n < 10 then UInt8.ofNat (48 + n) else UInt8.ofNat (87 + n)
def hexs (l : List UInt8) : List UInt8 := l.flatMap fun b => [hexd (b.toNat / 16), hexd (b.toNat % 16)]
def hexOf (l : List UInt8) : List UInt8 := if l.length = 32 then hexs l else []
theorem hexs_take (l : List UInt8) (i : Nat) (h : i < l.length) : hexs (l.take (i + 1)) = hexs (l.take i) ++ [hexd ((l.getD i 0).toNat / 16), hexd ((l.getD i 0).toNat % 16)] := by
  unfold hexs
  rw [List.take_succ_eq_append_getElem h, List.flatMap_append, List.flatMap_cons, List.flatMap_nil, List.append_nil]
  simp [List.getElem?_eq_getElem h]
theorem hexs_len (l : List UInt8) : (hexs l).length = 2 * l.length := by
  induction l with
  | nil => rfl
  | cons b r ih =>
    have e : hexs (b :: r) = [hexd (b.toNat / 16), hexd (b.toNat % 16)] ++ hexs r := rfl
    rw [e, List.length_append, ih]
    simp; omega

def digits : ByteArray := ⟨#[48, 49, 50, 51, 52, 53, 54, 55, 56, 57, 97, 98, 99, 100, 101, 102]⟩
theorem digit_at (n : Nat) (h : n < 16) (w : World) : (Instr.index 9 (.string ⟨#[48, 49, 50, 51, 52, 53, 54, 55, 56, 57, 97, 98, 99, 100, 101, 102]⟩) (.int .u8 (n : Int))).run Tryd.prog w = .ok (.int .u8 ((hexd n).toNat : Int)) w := by
  rcases n with _ | _ | _ | _ | _ | _ | _ | _ | _ | _ | _ | _ | _ | _ | _ | _ | n
  all_goals first
    | omega
    | kernel_rfl
theorem make64 (w : World) : (Instr.makeSlice 38 (.int .i64 0) (.int .i64 64)).run Tryd.prog w = .ok (.slice (some ⟨w.heap.size, 0, none⟩) 0 64) (w.alloc (.cells (u8s (List.replicate 64 0)).toArray 5)) := by kernel_rfl

end Go.Proofs.YtcmjdepjckhpdaaDoor.Dg
namespace Go.Proofs.YtcmjdepjckhpdaaDoor.Dg
open Go Go.RowKit Kt Sha

def digitList : List UInt8 := [48, 49, 50, 51, 52, 53, 54, 55, 56, 57, 97, 98, 99, 100, 101, 102]
/-- what a digit is worth; -1: it is none -/
def hexv (c : UInt8) : Int := Lib.indexByte digitList c
def parseN (l : List UInt8) : Nat → Option (List UInt8)
  | 0 => some []
  | k + 1 => match parseN l k with
    | none => none
    | some r => if hexv (l.getD (2 * k) 0) < 0 ∨ hexv (l.getD (2 * k + 1) 0) < 0 then none else some (r ++ [UInt8.ofNat (hexv (l.getD (2 * k) 0) * 16 + hexv (l.getD (2 * k + 1) 0)).toNat])
def parseOf (l : List UInt8) : Option (List UInt8) := if l.length = 64 then parseN l 32 else none
def parsed (o : Option (List UInt8)) : Value := .tuple #[.string ⟨(o.getD []).toArray⟩, .bool o.isSome]
theorem parseN_len (l : List UInt8) : ∀ k r, parseN l k = some r → r.length = k
  | 0, r, h => by cases h; rfl
  | k + 1, r, h => by
    simp only [parseN] at h
    cases hk : parseN l k with
    | none => rw [hk] at h; cases h
    | some r' =>
      rw [hk] at h
      simp only at h
      split at h
      · cases h
      · cases h; simp [parseN_len l k r' hk]
theorem parseN_none (l : List UInt8) (k m : Nat) (h : parseN l k = none) (hkm : k ≤ m) : parseN l m = none := by
  induction m with
  | zero => obtain rfl : k = 0 := by omega
            exact h
  | succ m ih =>
    by_cases e : k = m + 1
    · subst e; exact h
    · simp only [parseN, ih (by omega)]
theorem hexv_le : ∀ c : UInt8, -1 ≤ hexv c ∧ hexv c ≤ 15 := by
  have h : ∀ n, n < 256 → -1 ≤ hexv (UInt8.ofNat n) ∧ hexv (UInt8.ofNat n) ≤ 15 := by decide +kernel
  intro c
  have := h c.toNat (toNat_lt c)
  rwa [UInt8.ofNat_toNat] at this
theorem or4 : ∀ a : Nat, a < 16 → ∀ b : Nat, b < 16 → bits BinOp.or .i64 ((a : Int) * 16) (b : Int) = (a : Int) * 16 + (b : Int) := by decide +kernel
theorem or4i (a b : Int) (ha : 0 ≤ a) (ha' : a ≤ 15) (hb : 0 ≤ b) (hb' : b ≤ 15) : bits BinOp.or .i64 (a * 16) b = a * 16 + b := by
  obtain ⟨m, rfl⟩ := Int.eq_ofNat_of_zero_le ha
  obtain ⟨n, rfl⟩ := Int.eq_ofNat_of_zero_le hb
  exact or4 m (by omega) n (by omega)

end Go.Proofs.YtcmjdepjckhpdaaDoor.Dg
namespace Go.Proofs.YtcmjdepjckhpdaaDoor.Dg
open Go Go.RowKit Kt Sha

def abcD : ByteArray := ⟨(sha [97, 98, 99]).toArray⟩
def abcL : List UInt8 := [98, 97, 55, 56, 49, 54, 98, 102, 56, 102, 48, 49, 99, 102, 101, 97, 52, 49, 52, 49, 52, 48, 100, 101, 53, 100, 97, 101, 50, 50, 50, 51, 98, 48, 48, 51, 54, 49, 97, 51, 57, 54, 49, 55, 55, 97, 57, 99, 98, 52, 49, 48, 102, 102, 54, 49, 102, 50, 48, 48, 49, 53, 97, 100]
theorem abc_hex : hexOf (sha [97, 98, 99]) = abcL := by decide +kernel
theorem abc_parse : parseOf abcL = some (sha [97, 98, 99]) := by decide +kernel
theorem of_abc (A : Option Addr) (c : Nat) (Pb : Nat → Prop) (w : World) (hs : Sl w Pb A c [97, 98, 99]) (ht : Tab w) :
    Calls Tryd.prog 37 #[.slice A 3 c] w fun e w' => e = .returned (.string abcD) ∧ Below w.heap.size w w' :=
  of_any [97, 98, 99] A c Pb w hs ht (by simp)
/-- the world in which the bytes "abc" lie in a new block -/
noncomputable def abcW (w : World) : World := w.alloc (.cells #[.int .u8 97, .int .u8 98, .int .u8 99] 5 (3, 4))
theorem abc_sl (w : World) : Sl (abcW w) (fun _ => True) (some ⟨w.heap.size, 0, none⟩) 3 [97, 98, 99] :=
  ⟨by simp, fun _ => ⟨w.heap.size, 0, rfl, trivial, fun j hj => by
    rw [Nat.zero_add, cell_of_row (abcW w) w.heap.size j _ _ (3, 4) (heap_alloc_new w _)]
    rcases j with _ | _ | _ | j
    · rfl
    · rfl
    · rfl
    · simp at hj; omega⟩⟩
theorem abc_below {B : Nat} {w0 w : World} (h : Below B w0 w) (hB : B ≤ w.heap.size) : Below B w0 (abcW w) := h.alloc hB _
theorem abc_conv (w : World) : (convert 38 38 (.slice (some ⟨w.heap.size, 0, none⟩) 3 3)).run Tryd.prog (w.alloc (.cells #[.int .u8 97, .int .u8 98, .int .u8 99] 5)) = .ok (.slice (some ⟨w.heap.size, 0, none⟩) 3 3) (abcW w) :=
  Lib.run_convert_bytes_const w _ _ _ 3 3 Tryd.underlying38 Tryd.underlying5

end Go.Proofs.YtcmjdepjckhpdaaDoor.Dg
