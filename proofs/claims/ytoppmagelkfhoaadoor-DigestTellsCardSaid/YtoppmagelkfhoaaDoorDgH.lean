/-
  What digest.Parse comes to.
-/
import Derived.Test.YtoppmagelkfhoaaDoorDgG
import Derived.Lib.Bytealg
namespace Go.Proofs.YtoppmagelkfhoaaDoor.Dg
open Go Go.RowKit Kt Sha

def digitList : List UInt8 := [48, 49, 50, 51, 52, 53, 54, 55, 56, 57, 97, 98, 99, 100, 101, 102]
/-- what a digit is worth; -1: it is none -/
def hexv (c : UInt8) : Int := Lib.indexByte digitList c
def parseN (l : List UInt8) : Nat → Option (List UInt8)
  | 0 => some []
  | k + 1 => match parseN l k with
    | none => none
    | some r => if hexv (l.getD (2 * k) 0) < 0 ∨ hexv (l.getD (2 * k + 1) 0) < 0 then none else some (r ++ [UInt8.ofNat (hexv (l.getD (2 * k) 0) * 16 + hexv (l.getD (2 * k + 1) 0)).toNat])
def parseOf (l : List UInt8) : Option (List UInt8) := if l.length = 64 then parseN l 32 else none
def parsed (o : Option (List UInt8)) : Value := .tuple #[.string ⟨(o.getD []).toArray⟩, .bool o.isSome]
theorem parseN_len (l : List UInt8) : ∀ k r, parseN l k = some r → r.length = k
  | 0, r, h => by cases h; rfl
  | k + 1, r, h => by
    simp only [parseN] at h
    cases hk : parseN l k with
    | none => rw [hk] at h; cases h
    | some r' =>
      rw [hk] at h
      simp only at h
      split at h
      · cases h
      · cases h; simp [parseN_len l k r' hk]
theorem parseN_none (l : List UInt8) (k m : Nat) (h : parseN l k = none) (hkm : k ≤ m) : parseN l m = none := by
  induction m with
  | zero => obtain rfl : k = 0 := by omega
            exact h
  | succ m ih =>
    by_cases e : k = m + 1
    · subst e; exact h
    · simp only [parseN, ih (by omega)]
theorem hexv_le : ∀ c : UInt8, -1 ≤ hexv c ∧ hexv c ≤ 15 := by
  have h : ∀ n, n < 256 → -1 ≤ hexv (UInt8.ofNat n) ∧ hexv (UInt8.ofNat n) ≤ 15 := by decide +kernel
  intro c
  have := h c.toNat (toNat_lt c)
  rwa [UInt8.ofNat_toNat] at this
theorem or4 : ∀ a : Nat, a < 16 → ∀ b : Nat, b < 16 → bits BinOp.or .i64 ((a : Int) * 16) (b : Int) = (a : Int) * 16 + (b : Int) := by decide +kernel
theorem or4i (a b : Int) (ha : 0 ≤ a) (ha' : a ≤ 15) (hb : 0 ≤ b) (hb' : b ≤ 15) : bits BinOp.or .i64 (a * 16) b = a * 16 + b := by
  obtain ⟨m, rfl⟩ := Int.eq_ofNat_of_zero_le ha
  obtain ⟨n, rfl⟩ := Int.eq_ofNat_of_zero_le hb
  exact or4 m (by omega) n (by omega)

theorem lite_any (s : ByteArray) (c : Int) (w : World) :
    Calls Tryd.prog 19 #[.string s, .int .u8 c] w fun e w' => e = .returned (.int .i64 (Lib.indexByte s.data.toList c.toNat.toUInt8)) ∧ w = w' := by
  go_enter Tryd.func19, Tryd.ntmps19
  go_wp2
  rw [run_callFunc_extern Tryd.func21 (by kernel_rfl) (by kernel_rfl) (by kernel_rfl) (e := Extern.BytealgIndexByte.indexByte) (by kernel_rfl), Lib.run_indexByteString]
  simp only [Result.andThen]
  rw [Oper.upon_value]
  go_wp2
  go_ret
  exact ⟨rfl, rfl⟩
theorem index_any (c : UInt8) (w : World) :
    Calls Tryd.prog 15 #[.string ⟨#[48, 49, 50, 51, 52, 53, 54, 55, 56, 57, 97, 98, 99, 100, 101, 102]⟩, .int .u8 (c.toNat : Int)] w fun e w' => e = .returned (.int .i64 (hexv c)) ∧ w = w' := by
  go_enter Tryd.func15, Tryd.ntmps15
  go_wp2_with fail
  refine (lite_any _ _ _).mono ?_
  rintro e w' ⟨rfl, rfl⟩
  go_wp2
  go_ret
  refine ⟨?_, rfl⟩
  rfl

theorem parse_no (l : List UInt8) (w : World) (h : l.length ≠ 64) :
    Calls Tryd.prog 8 #[.string ⟨l.toArray⟩] w fun e w' => e = .returned (parsed (parseOf l)) ∧ Below w.heap.size w w' := by
  have hv : parseOf l = none := if_neg h
  have Hv := hide hv
  clear hv
  have hl : ((l.length : Int) != 64) = true := by rw [bne_iff_ne]; omega
  go_enter Tryd.func8, Tryd.ntmps8
  go_wp2
  go_ret2
  rw [Hv.out]
  exact ⟨rfl, Below.refl _ _⟩

set_option maxHeartbeats 1000000 in
set_option maxRecDepth 100000 in
theorem parse_yes (l : List UInt8) (w : World) (h : l.length = 64) :
    Calls Tryd.prog 8 #[.string ⟨l.toArray⟩] w fun e w' => e = .returned (parsed (parseOf l)) ∧ Below w.heap.size w w' := by
  have hv : parseOf l = parseN l 32 := if_pos h
  have Hv := hide hv
  clear hv
  have hl : ((l.length : Int) != 64) = false := by rw [bne_eq_false_iff_eq]; omega
  have H := hide h
  clear h
  have hmk := make32
  go_enter Tryd.func8, Tryd.ntmps8
  go_wp2
  clear hmk
  go_loopw [4, 12] (fun v i wr => ∃ (k : Nat) (r : List UInt8), k ≤ 32 ∧ i = .int .i64 k ∧ Hid (parseN l k = some r) ∧ Own wr w.heap.size 5 v r ∧ Below w.heap.size w wr) (fun _ i _ => 32 - (intOf i).toNat)
  case atStart => exact ⟨0, [], by omega, rfl, rfl, Own.made _ _ _ _ 32 (Nat.le_refl _) (by simp [u8s]) (by simp [maxLen]), (Below.refl _ _).alloc (Nat.le_refl _) _⟩
  case round =>
    obtain ⟨k, r, hk, rfl, Hp, hown, hb⟩ := hrel
    have Hown := hide hown
    have Hb := hide hb
    have Hlen := hide (parseN_len l k r Hp.out)
    clear hown hb
    by_cases hlt : k < 32
    · have hk0 : 2 * k < l.length := by have := H.out; omega
      have hk1 : 2 * k + 1 < l.length := by have := H.out; omega
      have Hn : Hid (parseN l (k + 1) = if hexv (l.getD (2 * k) 0) < 0 ∨ hexv (l.getD (2 * k + 1) 0) < 0 then none else some (r ++ [UInt8.ofNat (hexv (l.getD (2 * k) 0) * 16 + hexv (l.getD (2 * k + 1) 0)).toNat])) := by
        show parseN l (k + 1) = _
        simp only [parseN, Hp.out]
      obtain ⟨b, hb⟩ : ∃ b, ({ data := l.toArray } : ByteArray)[2 * k]'(by simpa [ByteArray.size] using hk0) = b := ⟨_, rfl⟩
      have hbl : l.getD (2 * k) 0 = b := by
        rw [← hb]
        simp [List.getElem?_eq_getElem hk0]
        rfl
      obtain ⟨c, hc⟩ : ∃ c, ({ data := l.toArray } : ByteArray)[2 * k + 1]'(by simpa [ByteArray.size] using hk1) = c := ⟨_, rfl⟩
      have hcl : l.getD (2 * k + 1) 0 = c := by
        rw [← hc]
        simp [List.getElem?_eq_getElem hk1]
        rfl
      rw [hbl, hcl] at Hn
      clear hbl hcl
      have v1 := hexv_le b
      have v2 := hexv_le c
      have C1 := fun W => index_any b W
      have C2 := fun W => index_any c W
      generalize hexv b = x at *
      generalize hexv c = y at *
      obtain ⟨x1, x2⟩ := v1
      obtain ⟨y1, y2⟩ := v2
      have HC1 := hide C1
      have HC2 := hide C2
      clear C1 C2
      go_wp2_with fail
      refine (HC1.out _).mono ?_
      rintro e w' ⟨rfl, rfl⟩
      go_wp2_with fail
      refine (HC2.out _).mono ?_
      rintro e w' ⟨rfl, rfl⟩
      by_cases hx : x < 0
      · have Hnone : Hid (parseN l 32 = none) := parseN_none l (k + 1) 32 (by rw [Hn.out, if_pos (.inl hx)]) (by omega)
        go_wp2
        go_ret2
        rw [Hv.out, Hnone.out]
        exact ⟨rfl, Hb.out⟩
      · by_cases hy : y < 0
        · have Hnone : Hid (parseN l 32 = none) := parseN_none l (k + 1) 32 (by rw [Hn.out, if_pos (.inr hy)]) (by omega)
          have hx0 : decide (x < 0) = false := by simpa using hx
          go_wp2
          go_ret2
          rw [Hv.out, Hnone.out]
          exact ⟨rfl, Hb.out⟩
        · have hsome : parseN l (k + 1) = some (r ++ [UInt8.ofNat (x * 16 + y).toNat]) := by rw [Hn.out, if_neg (by omega)]
          have Hsome := hide hsome
          clear hsome
          have hx0 : 0 ≤ x := by omega
          have hy0 : 0 ≤ y := by omega
          have hor := or4i x y hx0 x2 hy0 y2
          have hcs : Hid ((#[Value.int .u8 (x * 16 + y)] : Array Value) = (u8s [UInt8.ofNat (x * 16 + y).toNat]).toArray) := by
            simp only [Hid, u8s, List.map_cons, List.map_nil, UInt8.toNat_ofNat']
            rw [show (((x * 16 + y).toNat % 2 ^ 8 : Nat) : Int) = x * 16 + y from by omega]
          go_wp2_with (refine wpList_push rfl (.tmp 32) (.tmp 38) 22 rfl Tryd.underlying22 info8 w.heap.size w _ r [UInt8.ofNat (x * 16 + y).toNat] 1 1 rfl rfl Hown.out hcs.out rfl (by rw [Hlen.out]; simp; omega) Hb.out Hb.out.size ?_; intro v1 w1 hown1 hb1 _)
          go_roundw
          case rel => exact ⟨k + 1, _, by omega, by go_num, Hsome, hown1, hb1⟩
          case measure => simp [intOf]; omega
    · obtain rfl : k = 32 := by omega
      have hcv := Hown.out.text 22 24 5 Tryd.underlying22 Tryd.underlying5 Tryd.underlying24
      go_wp2
      go_ret2
      refine ⟨?_, Hb.out⟩
      rw [Hv.out, Hp.out]
      rfl
end Go.Proofs.YtoppmagelkfhoaaDoor.Dg
