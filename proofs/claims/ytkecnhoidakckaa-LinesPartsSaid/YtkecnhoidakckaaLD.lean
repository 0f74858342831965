/-
  lines.Closed, Binary, Join; the reference's Closed, Binary.
-/
import Derived.Test.YtkecnhoidakckaaLC
namespace Go.Proofs.Ytkecnhoidakckaa.Li
open Go Go.RowKit Kt Lw

theorem size_of (l : List UInt8) : (ByteArray.mk l.toArray).size = l.length := rfl
theorem get_at (l : List UInt8) (k : Nat) (h : k < (ByteArray.mk l.toArray).size) : (ByteArray.mk l.toArray)[k] = l.getD k 0 := by
  have h' : k < l.length := h
  have : (ByteArray.mk l.toArray)[k] = l[k]'h' := rfl
  rw [this]
  simp [List.getElem?_eq_getElem h']
theorem get_last (p : List UInt8) (b : UInt8) (h : p.length < (ByteArray.mk (p ++ [b]).toArray).size) : (ByteArray.mk (p ++ [b]).toArray)[p.length] = b := by
  rw [get_at]; simp
theorem ten_of (b : UInt8) : ((b.toNat : Int) == 10) = (b == 10) := by
  rw [Bool.eq_iff_iff, beq_iff_eq, beq_iff_eq, ← UInt8.toNat_inj]
  exact ⟨fun h => by simp; omega, fun h => by simp at h; omega⟩
set_option maxHeartbeats 400000 in
theorem closed_any (s : List UInt8) (w : World) (hl : s.length ≤ 9223372036854775807) :
    Calls Try.prog 13 #[.string ⟨s.toArray⟩] w fun e w' => e = .returned (.bool (closed s)) ∧ w' = w := by
  rcases List.eq_nil_or_concat s with rfl | ⟨p, b, rfl⟩
  · go_enter Try.func13, Try.ntmps13
    go_wp2
    go_ret
    exact ⟨rfl, rfl⟩
  · rw [List.concat_eq_append] at hl ⊢
    rw [closed_snoc]
    have hie : (p ++ [b]).isEmpty = false := by simp
    have hp : p.length + 1 ≤ 9223372036854775807 := by simpa using hl
    have eg := get_last p b (by simp [size_of])
    have Ht := hide (ten_of b)
    clear hl
    go_enter Try.func13, Try.ntmps13
    go_wp2
    go_ret
    exact ⟨by rw [← Ht.out]; rfl, rfl⟩
set_option maxHeartbeats 400000 in
theorem refClosed_any (s : List UInt8) (w : World) (hl : s.length ≤ 9223372036854775807) :
    Calls Try.prog 14 #[.string ⟨s.toArray⟩] w fun e w' => e = .returned (.bool (closed s)) ∧ w' = w := by
  rcases List.eq_nil_or_concat s with rfl | ⟨p, b, rfl⟩
  · go_enter Try.func14, Try.ntmps14
    go_wp2
    go_ret
    exact ⟨rfl, rfl⟩
  · rw [List.concat_eq_append] at hl ⊢
    rw [closed_snoc]
    have hie : ((p.length : Int) + 1 == 0) = false := by rw [beq_eq_false_iff_ne]; omega
    have hp : p.length + 1 ≤ 9223372036854775807 := by simpa using hl
    have eg := get_last p b (by simp [size_of])
    have Ht := hide (ten_of b)
    clear hl
    go_enter Try.func14, Try.ntmps14
    go_wp2
    go_ret
    exact ⟨by rw [← Ht.out]; rfl, rfl⟩
theorem index_zero (s : List UInt8) : decide (0 ≤ Lib.indexByte s 0) = binary s := by
  induction s with
  | nil => rfl
  | cons b r ih =>
    have hge := Lib.indexByte_ge r 0
    unfold Lib.indexByte
    by_cases hb : b = 0
    · simp [hb, binary]
    · have hb' : (b == 0) = false := by simpa using hb
      have e : binary (b :: r) = binary r := by simp [binary, Ne.symm hb]
      rw [e, ← ih]
      simp only [hb', Bool.false_eq_true, if_false]
      by_cases hm : Lib.indexByte r 0 = -1
      · simp [hm]
      · have hm' : (Lib.indexByte r 0 == -1) = false := by simpa using hm
        simp only [hm', Bool.false_eq_true, if_false]
        rw [decide_eq_decide]
        omega
set_option maxHeartbeats 400000 in
theorem binary_any (s : List UInt8) (w : World) :
    Calls Try.prog 15 #[.string ⟨s.toArray⟩] w fun e w' => e = .returned (.bool (binary s)) ∧ w' = w := by
  have hx := fun w => idx_any s 0 w
  have hz := index_zero s
  obtain ⟨x, hxe⟩ : ∃ x, x = Lib.indexByte s 0 := ⟨_, rfl⟩
  rw [← hxe] at hz
  have Hx := hide hx
  have Hxe := hide hxe
  have Hz := hide hz
  clear hx hxe hz
  go_enter Try.func15, Try.ntmps15
  go_wp2_with fail
  refine (Hx.out _).mono ?_
  rintro e w' ⟨rfl, rfl⟩
  rw [← Hxe.out]
  go_wp2
  go_ret
  exact ⟨by rw [← Hz.out]; rfl, rfl⟩
set_option maxHeartbeats 400000 in
theorem refBinary_any (s : List UInt8) (w : World) (hl : s.length ≤ 9223372036854775807) :
    Calls Try.prog 16 #[.string ⟨s.toArray⟩] w fun e w' => e = .returned (.bool (binary s)) ∧ w' = w := by
  go_enter Try.func16, Try.ntmps16
  go_wp2
  go_loop [3] (fun i => ∃ k : Nat, k ≤ s.length ∧ i = .int .i64 k ∧ binary (s.take k) = false) (fun i => s.length - (intOf i).toNat)
  case atStart => exact ⟨0, Nat.zero_le _, rfl, by simp [binary]⟩
  case round =>
    obtain ⟨k, hk, rfl, hb⟩ := hrel
    by_cases hlt : k < s.length
    · have eg := get_at s k (by rw [size_of]; exact hlt)
      have hts : s.take (k + 1) = s.take k ++ [s.getD k 0] := by
        rw [List.take_succ_eq_append_getElem hlt]; simp [List.getElem?_eq_getElem hlt]
      have hmem : s.getD k 0 ∈ s := by simp [List.getElem?_eq_getElem hlt]
      by_cases h0 : s.getD k 0 = 0
      · have e0 : (((s.getD k 0).toNat : Int) == 0) = true := by rw [h0]; rfl
        have e1 : binary s = true := by rw [h0] at hmem; simpa [binary] using hmem
        have E1 := hide e1
        clear h0 hts hmem e1 hb
        generalize s.getD k 0 = x at *
        go_wp2
        go_ret
        exact ⟨by rw [E1.out]; rfl, rfl⟩
      · have e0 : (((s.getD k 0).toNat : Int) == 0) = false := by
          rw [beq_eq_false_iff_ne]
          intro h
          exact h0 (UInt8.toNat_inj.1 (by simpa using h))
        have e1 : binary (s.take (k + 1)) = false := by
          rw [hts, binary_append, hb]
          simp [binary]
          exact fun h => h0 h.symm
        have E1 := hide e1
        clear h0 hts hmem e1 hb
        generalize s.getD k 0 = x at *
        go_wp2
        exact ⟨⟨k + 1, by omega, by go_num, E1.out⟩, by simp [intOf]; omega⟩
    · obtain rfl : k = s.length := by omega
      rw [List.take_length] at hb
      have Hb := hide hb
      clear hb
      go_wp2
      go_ret
      exact ⟨by rw [Hb.out]; rfl, rfl⟩
set_option maxHeartbeats 400000 in
theorem join_any (l : List (List UInt8)) (A : Option Addr) (c : Nat) (P : Nat → Prop) (w : World) (hs : Vs w P A c (texts l)) (hn : l.length ≤ 1000000) (hl : l.flatten.length ≤ 1000000) :
    Calls Try.prog 18 #[.slice A l.length c] w fun e w' => e = .returned (.string ⟨l.flatten.toArray⟩) ∧ Below w.heap.size w w' := by
  have key : Calls Try.prog 25 #[.slice A l.length c, .string ⟨#[]⟩] w fun e w' => e = .returned (.string ⟨l.flatten.toArray⟩) ∧ Below w.heap.size w w' := by
    cases l with
    | nil =>
      refine (Try.strings_Join_none A c ⟨#[]⟩ w).mono ?_
      rintro e w' ⟨rfl, rfl⟩
      exact ⟨rfl, Below.refl _ _⟩
    | cons x t =>
      obtain ⟨b, o, rfl, _, hc⟩ := hs.2 (by simp [texts])
      have e1 : (((x :: t).map fun y => (⟨y.toArray⟩ : ByteArray)).map (·.data.toList)) = x :: t := by rw [List.map_map]; exact List.map_id _
      have e2 : Lib.join (x :: t) [] = (x :: t).flatten := by
        rw [Lib.join_cons]; simp [Lib.joinTail]
      have h := Try.strings_Join b o c ((x :: t).map fun y => (⟨y.toArray⟩ : ByteArray)) ⟨#[]⟩ w (fun j y hy => hc j _ (by
          simp only [List.getElem?_map] at hy
          simp only [texts, List.getElem?_map]
          cases hj : (x :: t)[j]? with
          | none => rw [hj] at hy; cases hy
          | some z => rw [hj] at hy; simp at hy; simp [← hy]))
        (World.block_lt_of_cell? w ⟨b, o + 0, none⟩ (hc 0 (.string ⟨x.toArray⟩) (by simp [texts]))) (by simp at hn ⊢; omega) (by have := hs.1; simp [texts] at this ⊢; omega)
        (by rw [e1]; show (Lib.join (x :: t) []).length ≤ _; rw [e2]; omega)
      rw [e1, List.length_map] at h
      have e3 : Lib.join (x :: t) (ByteArray.mk #[]).data.toList = (x :: t).flatten := e2
      rw [e3] at h
      exact h
  have Hk := hide key
  clear key
  go_enter Try.func18, Try.ntmps18
  go_wp2_with fail
  refine Hk.out.mono ?_
  rintro e w' ⟨rfl, hb⟩
  go_wp2
  go_ret
  exact ⟨rfl, hb⟩
end Go.Proofs.Ytkecnhoidakckaa.Li
