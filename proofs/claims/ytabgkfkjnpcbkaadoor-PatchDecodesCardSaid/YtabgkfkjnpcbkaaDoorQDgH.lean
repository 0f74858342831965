/-
  What digest.Parse comes to.
-/
import Derived.Test.YtabgkfkjnpcbkaaDoorQDgE
import Derived.Lib.Bytealg
import Derived.Lib.SlBytesConst
namespace Go.Proofs.YtabgkfkjnpcbkaaDoor.Dg
open Go Go.RowKit Kt Sha

def digitList : List UInt8 := [48, 49, 50, 51, 52, 53, 54, 55, 56, 57, 97, 98, 99, 100, 101, 102]
/-- what a digit is worth; -1: it is none -/
def hexv (c : UInt8) : Int := Lib.indexByte digitList c
def parseN (l : List UInt8) : Nat → Option (List UInt8)
  | 0 => some []
  | k + 1 => match parseN l k with
    | none => none
    | some r => if hexv (l.getD (2 * k) 0) < 0 ∨ hexv (l.getD (2 * k + 1) 0) < 0 then none else some (r ++ [UInt8.ofNat (hexv (l.getD (2 * k) 0) * 16 + hexv (l.getD (2 * k + 1) 0)).toNat])
def parseOf (l : List UInt8) : Option (List UInt8) := if l.length = 64 then parseN l 32 else none
def parsed (o : Option (List UInt8)) : Value := .tuple #[.string ⟨(o.getD []).toArray⟩, .bool o.isSome]
theorem parseN_len (l : List UInt8) : ∀ k r, parseN l k = some r → r.length = k
  | 0, r, h => by cases h; rfl
  | k + 1, r, h => by
    simp only [parseN] at h
    cases hk : parseN l k with
    | none => rw [hk] at h; cases h
    | some r' =>
      rw [hk] at h
      simp only at h
      split at h
      · cases h
      · cases h; simp [parseN_len l k r' hk]
theorem parseN_none (l : List UInt8) (k m : Nat) (h : parseN l k = none) (hkm : k ≤ m) : parseN l m = none := by
  induction m with
  | zero => obtain rfl : k = 0 := by omega
            exact h
  | succ m ih =>
    by_cases e : k = m + 1
    · subst e; exact h
    · simp only [parseN, ih (by omega)]
theorem hexv_le : ∀ c : UInt8, -1 ≤ hexv c ∧ hexv c ≤ 15 := by
  have h : ∀ n, n < 256 → -1 ≤ hexv (UInt8.ofNat n) ∧ hexv (UInt8.ofNat n) ≤ 15 := by decide +kernel
  intro c
  have := h c.toNat (toNat_lt c)
  rwa [UInt8.ofNat_toNat] at this
theorem or4 : ∀ a : Nat, a < 16 → ∀ b : Nat, b < 16 → bits BinOp.or .i64 ((a : Int) * 16) (b : Int) = (a : Int) * 16 + (b : Int) := by decide +kernel
theorem or4i (a b : Int) (ha : 0 ≤ a) (ha' : a ≤ 15) (hb : 0 ≤ b) (hb' : b ≤ 15) : bits BinOp.or .i64 (a * 16) b = a * 16 + b := by
  obtain ⟨m, rfl⟩ := Int.eq_ofNat_of_zero_le ha
  obtain ⟨n, rfl⟩ := Int.eq_ofNat_of_zero_le hb
  exact or4 m (by omega) n (by omega)

set_option maxRecDepth 100000 in
theorem lite_any (s : ByteArray) (c : Int) (w : World) :
    Calls Tryd.prog 106 #[.string s, .int .u8 c] w fun e w' => e = .returned (.int .i64 (Lib.indexByte s.data.toList c.toNat.toUInt8)) ∧ w = w' := by
  go_enter Tryd.func106, Tryd.ntmps106
  go_wp2
  rw [run_callFunc_extern Tryd.func110 (by kernel_rfl) (by kernel_rfl) (by kernel_rfl) (e := Extern.BytealgIndexByte.indexByte) (by kernel_rfl), Lib.run_indexByteString]
  simp only [Result.andThen]
  rw [Oper.upon_value]
  go_wp2
  go_ret
  exact ⟨rfl, rfl⟩
end Go.Proofs.YtabgkfkjnpcbkaaDoor.Dg
namespace Go.Proofs.YtabgkfkjnpcbkaaDoor.Dg
open Go Go.RowKit Kt Sha

def abcD : ByteArray := ⟨(sha [97, 98, 99]).toArray⟩
def abcL : List UInt8 := [98, 97, 55, 56, 49, 54, 98, 102, 56, 102, 48, 49, 99, 102, 101, 97, 52, 49, 52, 49, 52, 48, 100, 101, 53, 100, 97, 101, 50, 50, 50, 51, 98, 48, 48, 51, 54, 49, 97, 51, 57, 54, 49, 55, 55, 97, 57, 99, 98, 52, 49, 48, 102, 102, 54, 49, 102, 50, 48, 48, 49, 53, 97, 100]
theorem abc_hex : hexOf (sha [97, 98, 99]) = abcL := by decide +kernel
theorem abc_parse : parseOf abcL = some (sha [97, 98, 99]) := by decide +kernel
theorem of_abc (A : Option Addr) (c : Nat) (Pb : Nat → Prop) (w : World) (hs : Sl w Pb A c [97, 98, 99]) (ht : Tab w) :
    Calls Tryd.prog 36 #[.slice A 3 c] w fun e w' => e = .returned (.string abcD) ∧ Below w.heap.size w w' :=
  of_any [97, 98, 99] A c Pb w hs ht (by simp)
/-- the world in which the bytes "abc" lie in a new block -/
noncomputable def abcW (w : World) : World := w.alloc (.cells #[.int .u8 97, .int .u8 98, .int .u8 99] 5 (3, 4))
theorem abc_sl (w : World) : Sl (abcW w) (fun _ => True) (some ⟨w.heap.size, 0, none⟩) 3 [97, 98, 99] :=
  ⟨by simp, fun _ => ⟨w.heap.size, 0, rfl, trivial, fun j hj => by
    rw [Nat.zero_add, cell_of_row (abcW w) w.heap.size j _ _ (3, 4) (heap_alloc_new w _)]
    rcases j with _ | _ | _ | j
    · rfl
    · rfl
    · rfl
    · simp at hj; omega⟩⟩
theorem abc_below {B : Nat} {w0 w : World} (h : Below B w0 w) (hB : B ≤ w.heap.size) : Below B w0 (abcW w) := h.alloc hB _
theorem abc_conv (w : World) : (convert 28 28 (.slice (some ⟨w.heap.size, 0, none⟩) 3 3)).run Tryd.prog (w.alloc (.cells #[.int .u8 97, .int .u8 98, .int .u8 99] 5)) = .ok (.slice (some ⟨w.heap.size, 0, none⟩) 3 3) (abcW w) :=
  Lib.run_convert_bytes_const w _ _ _ 3 3 Tryd.underlying28 Tryd.underlying5

end Go.Proofs.YtabgkfkjnpcbkaaDoor.Dg
