/-
  lines: how long the first line is; the iterator's contract.
-/
import Derived.RangeFuncNested
import Derived.RangeFuncBound
import Derived.RangeFuncCalls
import Derived.RangeFuncLeaves
import Derived.RangeFuncBox
import Derived.Shelf.Abstract
import Derived.Shelf.RegionOpen
import Derived.WalkKit
import Derived.OwnWalkIn
import Derived.TacticsInMore
import Derived.LoopNIn
import Derived.LoopIn
import Derived.Maps.AppendAt
import Derived.Test.YtofccahgmkifjaaKit
import Derived.Test.YtofccahgmkifjaaLA
import Derived.Test.YtofccahgmkifjaaShelf
import Derived.Test.YtofccahgmkifjaaQ3
namespace Go.Proofs.Ytofccahgmkifjaa.Li
open Go Go.RowKit Go.Shelf Kt
attribute [local go_sem] Oper.semAt_some

theorem idx_any (l : List UInt8) (c : UInt8) (w : World) : Calls Try.prog 39 #[.string ⟨l.toArray⟩, .int .u8 (c.toNat : Int)] w fun e w' => e = .returned (.int .i64 (Lib.indexByte l c)) ∧ w' = w := by
  have h := Try.strings_IndexByte ⟨l.toArray⟩ (c.toNat : Int) w
  have e : ((c.toNat : Int)).toNat.toUInt8 = c := by simp
  rw [e] at h
  exact h

set_option maxHeartbeats 400000 in
theorem first_any (l : List UInt8) (w : World) (hl : l.length ≤ 9223372036854775807) : Calls Try.prog 59 #[.string ⟨l.toArray⟩] w fun e w' => e = .returned (.int .i64 (fst l : Int)) ∧ w' = w := by
  have hf := fst_index l
  have hge := Lib.indexByte_ge l 10
  have hle := fst_le l
  have hx := fun w => idx_any l 10 w
  obtain ⟨x, hxe⟩ : ∃ x, x = Lib.indexByte l 10 := ⟨_, rfl⟩
  rw [← hxe] at hf hge
  have Hx := hide hx
  have Hxe := hide hxe
  clear hx hxe
  by_cases h0 : 0 ≤ x
  · rw [if_pos h0] at hf
    have hb : x + 1 ≤ 9223372036854775807 := by omega
    have Hf := hide hf
    clear hf hle
    go_enter Try.func59, Try.ntmps59
    go_wp2_with fail
    refine (Hx.out _).mono ?_
    rintro e w' ⟨rfl, rfl⟩
    rw [← Hxe.out]
    go_wp2
    go_ret
    exact ⟨by rw [Hf.out]; rfl, rfl⟩
  · rw [if_neg h0] at hf
    have Hf := hide hf
    clear hf hle
    go_enter Try.func59, Try.ntmps59
    go_wp2_with fail
    refine (Hx.out _).mono ?_
    rintro e w' ⟨rfl, rfl⟩
    rw [← Hxe.out]
    go_wp2
    go_ret
    exact ⟨by rw [Hf.out]; rfl, rfl⟩

set_option maxHeartbeats 400000 in
theorem each_any (l : List UInt8) (w : World) :
    Calls Try.prog 40 #[.string ⟨l.toArray⟩] w fun e w' => e = .returned (.func (.func 58) #[] #[.pointer (some ⟨w.heap.size, 0, none⟩)]) ∧ w' = w.alloc (.cells #[.string ⟨l.toArray⟩] 9) := by
  go_enter Try.func40, Try.ntmps40
  go_wp2
  go_ret
  exact ⟨rfl, rfl⟩

theorem cut_front (l : List UInt8) (k : Nat) (_h : k ≤ l.length) : (ByteArray.mk l.toArray).extract 0 k = ⟨(l.take k).toArray⟩ := by
  apply ByteArray.ext
  simp
theorem cut_back (l : List UInt8) (k : Nat) (_h : k ≤ l.length) : (ByteArray.mk l.toArray).extract k l.length = ⟨(l.drop k).toArray⟩ := by
  apply ByteArray.ext
  simp [List.take_of_length_le]
def txtOf : Value → List UInt8 | .string s => s.data.toList | _ => []

set_option maxRecDepth 100000 in
set_option maxHeartbeats 1000000 in
theorem each_stops (n : Nat) (hn : 1 ≤ n) (Bs n₀ : Nat) (s : List UInt8) (hl : s.length ≤ 9223372036854775807) (w : World) (hBs : Bs < w.heap.size) (hc : w.cell? ⟨Bs, 0, none⟩ = some (.string ⟨s.toArray⟩)) :
    SeqStopsK Fence.wide n Try.prog 58 #[.pointer (some ⟨Bs, 0, none⟩)] (fun x : List UInt8 => #[Value.string ⟨x.toArray⟩]) (Below n₀) (fun ys => ys = lns s) (fun pre => pre <+: lns s) (lns s).length w := by
  intro l J Jx W hW hJ hJx hY h0
  have hc' := (hW.cell (p := ⟨Bs, 0, none⟩) hBs).trans hc
  clear hJ hJx hW hc
  refine callsIn_of_wp Try.func58 rfl trivial ?_ rfl
  simp only [Try.ntmps58, List.size_toArray, List.length_cons, List.length_nil, Nat.reduceAdd, Nat.reduceSub, Array.replicate_succ, Array.replicate_zero, List.push_toArray, List.append_toArray, List.nil_append, List.cons_append]
  gi_wp2
  gi_loopw [3] (fun v wr => ∃ (pre : List (List UInt8)) (rest : List UInt8), v = .string ⟨rest.toArray⟩ ∧ lns s = pre ++ lns rest ∧ rest.length ≤ 9223372036854775807 ∧ J pre wr) (fun v _ => (txtOf v).length)
  case atStart => exact ⟨[], s, rfl, rfl, hl, h0⟩
  case round =>
    obtain ⟨pre, rest, rfl, he, hlr, hJs⟩ := hrel
    by_cases hr : rest = []
    · subst hr
      gi_wp2
      go_end0
      exact ⟨⟨_, rfl⟩, .inl ⟨_, rfl, by rw [he, lns_nil, List.append_nil]; exact hJs⟩⟩
    · have hcut := lns_cut hr
      obtain ⟨fn, tmps, assign, body, hy, hR⟩ := hY pre (rest.take (fst rest)) wr hJs (by rw [he, hcut]; simp)
      have hie : rest.isEmpty = false := by simpa using hr
      have hfl := fst_le rest
      have hfp := fst_pos hr
      have Hcut := hide hcut
      have He := hide he
      have Hr := hide hr
      clear hcut he hr
      obtain ⟨k, hk⟩ : ∃ k, k = fst rest := ⟨_, rfl⟩
      rw [← hk] at hfl hfp hy hR
      have ex := cut_front rest k hfl
      have ey := cut_back rest k hfl
      have Hk := hide hk
      clear hk
      gi_wp2_with (refine ⟨trivial, ?_⟩; gi_at_call 59; refine (callsIn_wide.2 (first_any _ _ hlr)).mono ?_; rintro e w' ⟨rfl, rfl⟩; rw [← Hk.out])
      refine hR.mono ?_
      rintro e W3 (⟨rfl, hJ3, hk3⟩ | ⟨rfl, hJx3⟩)
      · gi_wp2
        go_roundw
        case rel => exact ⟨pre ++ [rest.take k], rest.drop k, rfl, by rw [He.out, Hcut.out, ← Hk.out, List.append_assoc]; rfl, by rw [List.length_drop]; omega, hJ3⟩
        case measure => simp [txtOf]; omega
      · gi_wp2
        refine bodyPost_ret (results_none rfl _ _ _) rfl ?_
        exact ⟨⟨_, rfl⟩, .inr ⟨_, ⟨lns (rest.drop k), by rw [He.out, Hcut.out, Hk.out]; simp⟩, hJx3⟩⟩
end Go.Proofs.Ytofccahgmkifjaa.Li
namespace Go.Proofs.Ytofccahgmkifjaa.Li
open Go Go.RowKit Go.Shelf Kt Lw
attribute [local go_sem] Oper.semAt_some

theorem infoText : (Try.prog.info? 9).map (fun i => (i.zero, i.size, i.bytes)) = some (some (.string ⟨#[]⟩), 1, 16) := by kernel_rfl
theorem texts_snoc (l : List (List UInt8)) (x : List UInt8) : texts (l ++ [x]) = texts l ++ [.string ⟨x.toArray⟩] := by simp [texts]

set_option maxRecDepth 100000 in
set_option maxHeartbeats 2000000 in
theorem split_any (s : List UInt8) (w : World) (hl : s.length ≤ 1000000) :
    Calls Try.prog 20 #[.string ⟨s.toArray⟩] w fun e w' => ∃ v, e = .returned v ∧ w'.ownsRow w.heap.size 9 1 v (lns s).length (texts (lns s)) ∧ Below w.heap.size w w' := by
  obtain ⟨i0, hi, hz0, hz1, hz2⟩ := info_parts infoText
  have hlen := lns_len_le s
  have hls : s.length ≤ 9223372036854775807 := by omega
  have Hl := hide hl
  have Hlen := hide hlen
  clear hl hlen
  refine (callsIn_wide (n := 9)).1 ?_
  refine callsIn_of_wp_marks Try.func20 rfl trivial ?_ rfl
  simp only [Try.ntmps20, List.size_toArray, List.length_cons, List.length_nil, Nat.reduceAdd, Nat.reduceSub, Array.replicate_succ, Array.replicate_zero, List.push_toArray, List.append_toArray, List.nil_append, List.cons_append]
  gi_wp2_with (refine ⟨trivial, ?_⟩; gi_at_call 40; refine (callsIn_wide.2 (each_any s _)).mono ?_; rintro e w' ⟨rfl, rfl⟩)
  have bO := Boxed.new w 22 (.slice none 0 0)
  have bN := Boxed.new (w.alloc (.cells #[.slice none 0 0] 22)) 9 (.string ⟨s.toArray⟩)
  rw [World.size_alloc] at bN
  have hB0 : Below w.heap.size w ((w.alloc (.cells #[.slice none 0 0] 22)).alloc (.cells #[.string ⟨s.toArray⟩] 9)) := ((Below.refl _ w).alloc (Nat.le_refl _) _).alloc (by simp) _
  refine wpIn_rangeFunc_ownG rfl (by omega) (gf := 58) (lb := #[.pointer (some ⟨w.heap.size + 1, 0, none⟩)]) rfl trivial (enters_of Try.func58 (by kernel_rfl) rfl)
    (each_stops 8 (by omega) (w.heap.size + 1) w.heap.size s hls _ (by simp) bN.cell) belowK_t (belowK_b (by simp; omega)) (Below.refl _ _) (fun _ => rfl)
    (fun pre W => (∃ v, Boxed W w.heap.size 22 v ∧ W.ownsRow w.heap.size 9 1 v pre.length (texts pre) ∧ True) ∧ Below w.heap.size w W)
    (fun _ _ _ => False)
    (OwnFrom.and (Own.from (holdsRow_own w.heap.size w.heap.size 22 9 1 (fun pre => pre.length) (fun pre => texts pre) (fun _ _ => True)) _) (ownFrom_below (Nat.le_refl _) (by simp; omega)))
    (fun _ _ _ _ _ hs _ _ => hs)
    ⟨⟨_, bO.alloc _, World.ownsRow_nil _ _ _ _, trivial⟩, hB0⟩
    (fun x => { tmps := #[.string ⟨s.toArray⟩, undef, .slice none 0 0, .pointer (some ⟨w.heap.size, 0, none⟩), .string ⟨x.toArray⟩, .string ⟨s.toArray⟩, .func (.func 58) #[] #[.pointer (some ⟨w.heap.size + 1, 0, none⟩)], .string ⟨x.toArray⟩, undef, undef, undef, undef, undef], defers := [] }) ?assign ?body ?done ?stop
  case assign =>
    intro l x W K hK
    gi_wp2
    exact hK
  case body =>
    rintro l pre x W ⟨⟨v, hv, hrow, _⟩, hB⟩ hlt
    have hc := hv.cell
    have hpl : pre.length + 1 ≤ 1000000 := by have := Hl.out; have := Hlen.out; omega
    gi_wp2_with (gi_at_builtin; refine wpListIn_append_own _ rfl _ _ 22 rfl w.heap.size 9 i0 (.string ⟨#[]⟩) 1 16 Try.underlying22 hi hz0 hz1 hz2 rfl (by decide) _ _ _ rfl (hrow.alloc _) ⟨W.heap.size, 0, none⟩ 1 1 [.string ⟨x.toArray⟩] rfl rfl (cell_one_new _ _ _) (by simp [Value.oneCell']) (by unfold maxLen; omega) (by omega) (by have := hB.size; simp; omega) ?_; intro v' w1 hown' hgrow _; obtain ⟨g', cap', rfl⟩ := ownsRow_succ hown'; obtain ⟨hv1, hv2, hr2, hk2, hb2⟩ := hv.appended (by decide) hrow hB.size (Nat.le_refl _) hown' hgrow; have hc1 := hv1.cell; have hf1 := hv1.frozen)
    exact ⟨hk2.from _, hb2, ⟨_, hv2, by rw [texts_snoc, List.length_append]; exact hr2, trivial⟩, hB.trans hb2⟩
  case done =>
    rintro D ys W hD rfl ⟨⟨v, hv, hrow, _⟩, hB⟩ hK
    have hc := hv.cell
    gi_wp2
    refine ⟨by simp, .inl ⟨_, _, rfl, run_takeDeferred hK, ?_⟩⟩
    exact ⟨_, results_tmp rfl _ _ _, v, rfl, ownsRow_putObj hrow _ hK rfl, hB.trans (belowK_b (w := w) (Nat.le_refl _) W D _ _ (by simp at hD; omega) hK rfl rfl)⟩
  case stop =>
    rintro D c pre W _ _ h _
    exact h.elim

end Go.Proofs.Ytofccahgmkifjaa.Li
namespace Go.Proofs.Ytofccahgmkifjaa.Li
open Go Go.RowKit Kt Lw

theorem size_of (l : List UInt8) : (ByteArray.mk l.toArray).size = l.length := rfl
theorem get_at (l : List UInt8) (k : Nat) (h : k < (ByteArray.mk l.toArray).size) : (ByteArray.mk l.toArray)[k] = l.getD k 0 := by
  have h' : k < l.length := h
  have : (ByteArray.mk l.toArray)[k] = l[k]'h' := rfl
  rw [this]
  simp [List.getElem?_eq_getElem h']
theorem get_last (p : List UInt8) (b : UInt8) (h : p.length < (ByteArray.mk (p ++ [b]).toArray).size) : (ByteArray.mk (p ++ [b]).toArray)[p.length] = b := by
  rw [get_at]; simp
theorem ten_of (b : UInt8) : ((b.toNat : Int) == 10) = (b == 10) := by
  rw [Bool.eq_iff_iff, beq_iff_eq, beq_iff_eq, ← UInt8.toNat_inj]
  exact ⟨fun h => by simp; omega, fun h => by simp at h; omega⟩
theorem index_zero (s : List UInt8) : decide (0 ≤ Lib.indexByte s 0) = binary s := by
  induction s with
  | nil => rfl
  | cons b r ih =>
    have hge := Lib.indexByte_ge r 0
    unfold Lib.indexByte
    by_cases hb : b = 0
    · simp [hb, binary]
    · have hb' : (b == 0) = false := by simpa using hb
      have e : binary (b :: r) = binary r := by simp [binary, Ne.symm hb]
      rw [e, ← ih]
      simp only [hb', Bool.false_eq_true, if_false]
      by_cases hm : Lib.indexByte r 0 = -1
      · simp [hm]
      · have hm' : (Lib.indexByte r 0 == -1) = false := by simpa using hm
        simp only [hm', Bool.false_eq_true, if_false]
        rw [decide_eq_decide]
        omega
set_option maxHeartbeats 400000 in
theorem binary_any (s : List UInt8) (w : World) :
    Calls Try.prog 19 #[.string ⟨s.toArray⟩] w fun e w' => e = .returned (.bool (binary s)) ∧ w' = w := by
  have hx := fun w => idx_any s 0 w
  have hz := index_zero s
  obtain ⟨x, hxe⟩ : ∃ x, x = Lib.indexByte s 0 := ⟨_, rfl⟩
  rw [← hxe] at hz
  have Hx := hide hx
  have Hxe := hide hxe
  have Hz := hide hz
  clear hx hxe hz
  go_enter Try.func19, Try.ntmps19
  go_wp2_with fail
  refine (Hx.out _).mono ?_
  rintro e w' ⟨rfl, rfl⟩
  rw [← Hxe.out]
  go_wp2
  go_ret
  exact ⟨by rw [← Hz.out]; rfl, rfl⟩
set_option maxHeartbeats 400000 in
theorem refBinary_any (s : List UInt8) (w : World) (hl : s.length ≤ 9223372036854775807) :
    Calls Try.prog 22 #[.string ⟨s.toArray⟩] w fun e w' => e = .returned (.bool (binary s)) ∧ w' = w := by
  go_enter Try.func22, Try.ntmps22
  go_wp2
  go_loop [3] (fun i => ∃ k : Nat, k ≤ s.length ∧ i = .int .i64 k ∧ binary (s.take k) = false) (fun i => s.length - (intOf i).toNat)
  case atStart => exact ⟨0, Nat.zero_le _, rfl, by simp [binary]⟩
  case round =>
    obtain ⟨k, hk, rfl, hb⟩ := hrel
    by_cases hlt : k < s.length
    · have eg := get_at s k (by rw [size_of]; exact hlt)
      have hts : s.take (k + 1) = s.take k ++ [s.getD k 0] := by
        rw [List.take_succ_eq_append_getElem hlt]; simp [List.getElem?_eq_getElem hlt]
      have hmem : s.getD k 0 ∈ s := by simp [List.getElem?_eq_getElem hlt]
      by_cases h0 : s.getD k 0 = 0
      · have e0 : (((s.getD k 0).toNat : Int) == 0) = true := by rw [h0]; rfl
        have e1 : binary s = true := by rw [h0] at hmem; simpa [binary] using hmem
        have E1 := hide e1
        clear h0 hts hmem e1 hb
        generalize s.getD k 0 = x at *
        go_wp2
        go_ret
        exact ⟨by rw [E1.out]; rfl, rfl⟩
      · have e0 : (((s.getD k 0).toNat : Int) == 0) = false := by
          rw [beq_eq_false_iff_ne]
          intro h
          exact h0 (UInt8.toNat_inj.1 (by simpa using h))
        have e1 : binary (s.take (k + 1)) = false := by
          rw [hts, binary_append, hb]
          simp [binary]
          exact fun h => h0 h.symm
        have E1 := hide e1
        clear h0 hts hmem e1 hb
        generalize s.getD k 0 = x at *
        go_wp2
        exact ⟨⟨k + 1, by omega, by go_num, E1.out⟩, by simp [intOf]; omega⟩
    · obtain rfl : k = s.length := by omega
      rw [List.take_length] at hb
      have Hb := hide hb
      clear hb
      go_wp2
      go_ret
      exact ⟨by rw [Hb.out]; rfl, rfl⟩
set_option maxHeartbeats 400000 in
theorem join_any (l : List (List UInt8)) (A : Option Addr) (c : Nat) (P : Nat → Prop) (w : World) (hs : Vs w P A c (texts l)) (hn : l.length ≤ 1000000) (hl : l.flatten.length ≤ 1000000) :
    Calls Try.prog 21 #[.slice A l.length c] w fun e w' => e = .returned (.string ⟨l.flatten.toArray⟩) ∧ Below w.heap.size w w' := by
  have key : Calls Try.prog 41 #[.slice A l.length c, .string ⟨#[]⟩] w fun e w' => e = .returned (.string ⟨l.flatten.toArray⟩) ∧ Below w.heap.size w w' := by
    cases l with
    | nil =>
      refine (Try.strings_Join_none A c ⟨#[]⟩ w).mono ?_
      rintro e w' ⟨rfl, rfl⟩
      exact ⟨rfl, Below.refl _ _⟩
    | cons x t =>
      obtain ⟨b, o, rfl, _, hc⟩ := hs.2 (by simp [texts])
      have e1 : (((x :: t).map fun y => (⟨y.toArray⟩ : ByteArray)).map (·.data.toList)) = x :: t := by rw [List.map_map]; exact List.map_id _
      have e2 : Lib.join (x :: t) [] = (x :: t).flatten := by
        rw [Lib.join_cons]; simp [Lib.joinTail]
      have h := Try.strings_Join b o c ((x :: t).map fun y => (⟨y.toArray⟩ : ByteArray)) ⟨#[]⟩ w (fun j y hy => hc j _ (by
          simp only [List.getElem?_map] at hy
          simp only [texts, List.getElem?_map]
          cases hj : (x :: t)[j]? with
          | none => rw [hj] at hy; cases hy
          | some z => rw [hj] at hy; simp at hy; simp [← hy]))
        (World.block_lt_of_cell? w ⟨b, o + 0, none⟩ (hc 0 (.string ⟨x.toArray⟩) (by simp [texts]))) (by simp at hn ⊢; omega) (by have := hs.1; simp [texts] at this ⊢; omega)
        (by rw [e1]; show (Lib.join (x :: t) []).length ≤ _; rw [e2]; omega)
      rw [e1, List.length_map] at h
      have e3 : Lib.join (x :: t) (ByteArray.mk #[]).data.toList = (x :: t).flatten := e2
      rw [e3] at h
      exact h
  have Hk := hide key
  clear key
  go_enter Try.func21, Try.ntmps21
  go_wp2_with fail
  refine Hk.out.mono ?_
  rintro e w' ⟨rfl, hb⟩
  go_wp2
  go_ret
  exact ⟨rfl, hb⟩
end Go.Proofs.Ytofccahgmkifjaa.Li
