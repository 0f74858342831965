/-
  lines: how long the first line is; the iterator's contract.
-/
import Derived.RangeFuncNested
import Derived.RangeFuncBound
import Derived.RangeFuncCalls
import Derived.RangeFuncLeaves
import Derived.RangeFuncBox
import Derived.Shelf.Abstract
import Derived.Shelf.RegionOpen
import Derived.WalkKit
import Derived.OwnWalkIn
import Derived.TacticsInMore
import Derived.LoopNIn
import Derived.LoopIn
import Derived.Maps.AppendAt
import Derived.Test.YtnehgogajghefaaGreatDoorQ2
import Derived.Test.YtnehgogajghefaaGreatDoorQ1
import Derived.Test.YtnehgogajghefaaGreatDoorShelf
import Derived.Test.YtnehgogajghefaaGreatDoorHE
import Derived.Lib.AppendIntMem
namespace Go.Proofs.YtnehgogajghefaaGreatDoor.Li
open Go Go.RowKit Go.Shelf Kt
attribute [local go_sem] Oper.semAt_some

theorem idx_any (l : List UInt8) (c : UInt8) (w : World) : Calls Tryz.prog 47 #[.string ⟨l.toArray⟩, .int .u8 (c.toNat : Int)] w fun e w' => e = .returned (.int .i64 (Lib.indexByte l c)) ∧ w' = w := by
  have h := Tryz.strings_IndexByte ⟨l.toArray⟩ (c.toNat : Int) w
  have e : ((c.toNat : Int)).toNat.toUInt8 = c := by simp
  rw [e] at h
  exact h

set_option maxHeartbeats 400000 in
theorem first_any (l : List UInt8) (w : World) (hl : l.length ≤ 9223372036854775807) : Calls Tryz.prog 35 #[.string ⟨l.toArray⟩] w fun e w' => e = .returned (.int .i64 (fst l : Int)) ∧ w' = w := by
  have hf := fst_index l
  have hge := Lib.indexByte_ge l 10
  have hle := fst_le l
  have hx := fun w => idx_any l 10 w
  obtain ⟨x, hxe⟩ : ∃ x, x = Lib.indexByte l 10 := ⟨_, rfl⟩
  rw [← hxe] at hf hge
  have Hx := hide hx
  have Hxe := hide hxe
  clear hx hxe
  by_cases h0 : 0 ≤ x
  · rw [if_pos h0] at hf
    have hb : x + 1 ≤ 9223372036854775807 := by omega
    have Hf := hide hf
    clear hf hle
    go_enter Tryz.func35, Tryz.ntmps35
    go_wp2_with fail
    refine (Hx.out _).mono ?_
    rintro e w' ⟨rfl, rfl⟩
    rw [← Hxe.out]
    go_wp2
    go_ret
    exact ⟨by rw [Hf.out]; rfl, rfl⟩
  · rw [if_neg h0] at hf
    have Hf := hide hf
    clear hf hle
    go_enter Tryz.func35, Tryz.ntmps35
    go_wp2_with fail
    refine (Hx.out _).mono ?_
    rintro e w' ⟨rfl, rfl⟩
    rw [← Hxe.out]
    go_wp2
    go_ret
    exact ⟨by rw [Hf.out]; rfl, rfl⟩

set_option maxHeartbeats 400000 in
theorem each_any (l : List UInt8) (w : World) :
    Calls Tryz.prog 13 #[.string ⟨l.toArray⟩] w fun e w' => e = .returned (.func (.func 34) #[] #[.pointer (some ⟨w.heap.size, 0, none⟩)]) ∧ w' = w.alloc (.cells #[.string ⟨l.toArray⟩] 9) := by
  go_enter Tryz.func13, Tryz.ntmps13
  go_wp2
  go_ret
  exact ⟨rfl, rfl⟩

theorem cut_front (l : List UInt8) (k : Nat) (_h : k ≤ l.length) : (ByteArray.mk l.toArray).extract 0 k = ⟨(l.take k).toArray⟩ := by
  apply ByteArray.ext
  simp
theorem cut_back (l : List UInt8) (k : Nat) (_h : k ≤ l.length) : (ByteArray.mk l.toArray).extract k l.length = ⟨(l.drop k).toArray⟩ := by
  apply ByteArray.ext
  simp [List.take_of_length_le]
def txtOf : Value → List UInt8 | .string s => s.data.toList | _ => []

set_option maxRecDepth 100000 in
set_option maxHeartbeats 1000000 in
theorem each_stops (n : Nat) (hn : 1 ≤ n) (Bs n₀ : Nat) (s : List UInt8) (hl : s.length ≤ 9223372036854775807) (w : World) (hBs : Bs < w.heap.size) (hc : w.cell? ⟨Bs, 0, none⟩ = some (.string ⟨s.toArray⟩)) :
    SeqStopsK Fence.wide n Tryz.prog 34 #[.pointer (some ⟨Bs, 0, none⟩)] (fun x : List UInt8 => #[Value.string ⟨x.toArray⟩]) (Below n₀) (fun ys => ys = lns s) (fun pre => pre <+: lns s) (lns s).length w := by
  intro l J Jx W hW hJ hJx hY h0
  have hc' := (hW.cell (p := ⟨Bs, 0, none⟩) hBs).trans hc
  clear hJ hJx hW hc
  refine callsIn_of_wp Tryz.func34 rfl trivial ?_ rfl
  simp only [Tryz.ntmps34, List.size_toArray, List.length_cons, List.length_nil, Nat.reduceAdd, Nat.reduceSub, Array.replicate_succ, Array.replicate_zero, List.push_toArray, List.append_toArray, List.nil_append, List.cons_append]
  gi_wp2
  gi_loopw [3] (fun v wr => ∃ (pre : List (List UInt8)) (rest : List UInt8), v = .string ⟨rest.toArray⟩ ∧ lns s = pre ++ lns rest ∧ rest.length ≤ 9223372036854775807 ∧ J pre wr) (fun v _ => (txtOf v).length)
  case atStart => exact ⟨[], s, rfl, rfl, hl, h0⟩
  case round =>
    obtain ⟨pre, rest, rfl, he, hlr, hJs⟩ := hrel
    by_cases hr : rest = []
    · subst hr
      gi_wp2
      go_end0
      exact ⟨⟨_, rfl⟩, .inl ⟨_, rfl, by rw [he, lns_nil, List.append_nil]; exact hJs⟩⟩
    · have hcut := lns_cut hr
      obtain ⟨fn, tmps, assign, body, hy, hR⟩ := hY pre (rest.take (fst rest)) wr hJs (by rw [he, hcut]; simp)
      have hie : rest.isEmpty = false := by simpa using hr
      have hfl := fst_le rest
      have hfp := fst_pos hr
      have Hcut := hide hcut
      have He := hide he
      have Hr := hide hr
      clear hcut he hr
      obtain ⟨k, hk⟩ : ∃ k, k = fst rest := ⟨_, rfl⟩
      rw [← hk] at hfl hfp hy hR
      have ex := cut_front rest k hfl
      have ey := cut_back rest k hfl
      have Hk := hide hk
      clear hk
      gi_wp2_with (refine ⟨trivial, ?_⟩; gi_at_call 35; refine (callsIn_wide.2 (first_any _ _ hlr)).mono ?_; rintro e w' ⟨rfl, rfl⟩; rw [← Hk.out])
      refine hR.mono ?_
      rintro e W3 (⟨rfl, hJ3, hk3⟩ | ⟨rfl, hJx3⟩)
      · gi_wp2
        go_roundw
        case rel => exact ⟨pre ++ [rest.take k], rest.drop k, rfl, by rw [He.out, Hcut.out, ← Hk.out, List.append_assoc]; rfl, by rw [List.length_drop]; omega, hJ3⟩
        case measure => simp [txtOf]; omega
      · gi_wp2
        refine bodyPost_ret (results_none rfl _ _ _) rfl ?_
        exact ⟨⟨_, rfl⟩, .inr ⟨_, ⟨lns (rest.drop k), by rw [He.out, Hcut.out, Hk.out]; simp⟩, hJx3⟩⟩
end Go.Proofs.YtnehgogajghefaaGreatDoor.Li
namespace Go.Proofs.YtnehgogajghefaaGreatDoor.Li
open Go Go.RowKit Go.Shelf Kt Lw
attribute [local go_sem] Oper.semAt_some

theorem infoText : (Tryz.prog.info? 9).map (fun i => (i.zero, i.size, i.bytes)) = some (some (.string ⟨#[]⟩), 1, 16) := by kernel_rfl
theorem texts_snoc (l : List (List UInt8)) (x : List UInt8) : texts (l ++ [x]) = texts l ++ [.string ⟨x.toArray⟩] := by simp [texts]

set_option maxRecDepth 100000 in
set_option maxHeartbeats 2000000 in
theorem split_any (s : List UInt8) (w : World) (hl : s.length ≤ 1000000) :
    Calls Tryz.prog 5 #[.string ⟨s.toArray⟩] w fun e w' => ∃ v, e = .returned v ∧ w'.ownsRow w.heap.size 9 1 v (lns s).length (texts (lns s)) ∧ Below w.heap.size w w' := by
  obtain ⟨i0, hi, hz0, hz1, hz2⟩ := info_parts infoText
  have hlen := lns_len_le s
  have hls : s.length ≤ 9223372036854775807 := by omega
  have Hl := hide hl
  have Hlen := hide hlen
  clear hl hlen
  refine (callsIn_wide (n := 9)).1 ?_
  refine callsIn_of_wp_marks Tryz.func5 rfl trivial ?_ rfl
  simp only [Tryz.ntmps5, List.size_toArray, List.length_cons, List.length_nil, Nat.reduceAdd, Nat.reduceSub, Array.replicate_succ, Array.replicate_zero, List.push_toArray, List.append_toArray, List.nil_append, List.cons_append]
  gi_wp2_with (refine ⟨trivial, ?_⟩; gi_at_call 13; refine (callsIn_wide.2 (each_any s _)).mono ?_; rintro e w' ⟨rfl, rfl⟩)
  have bO := Boxed.new w 23 (.slice none 0 0)
  have bN := Boxed.new (w.alloc (.cells #[.slice none 0 0] 23)) 9 (.string ⟨s.toArray⟩)
  rw [World.size_alloc] at bN
  have hB0 : Below w.heap.size w ((w.alloc (.cells #[.slice none 0 0] 23)).alloc (.cells #[.string ⟨s.toArray⟩] 9)) := ((Below.refl _ w).alloc (Nat.le_refl _) _).alloc (by simp) _
  refine wpIn_rangeFunc_ownG rfl (by omega) (gf := 34) (lb := #[.pointer (some ⟨w.heap.size + 1, 0, none⟩)]) rfl trivial (enters_of Tryz.func34 (by kernel_rfl) rfl)
    (each_stops 8 (by omega) (w.heap.size + 1) w.heap.size s hls _ (by simp) bN.cell) belowK_t (belowK_b (by simp; omega)) (Below.refl _ _) (fun _ => rfl)
    (fun pre W => (∃ v, Boxed W w.heap.size 23 v ∧ W.ownsRow w.heap.size 9 1 v pre.length (texts pre) ∧ True) ∧ Below w.heap.size w W)
    (fun _ _ _ => False)
    (OwnFrom.and (Own.from (holdsRow_own w.heap.size w.heap.size 23 9 1 (fun pre => pre.length) (fun pre => texts pre) (fun _ _ => True)) _) (ownFrom_below (Nat.le_refl _) (by simp; omega)))
    (fun _ _ _ _ _ hs _ _ => hs)
    ⟨⟨_, bO.alloc _, World.ownsRow_nil _ _ _ _, trivial⟩, hB0⟩
    (fun x => { tmps := #[.string ⟨s.toArray⟩, undef, .slice none 0 0, .pointer (some ⟨w.heap.size, 0, none⟩), .string ⟨x.toArray⟩, .string ⟨s.toArray⟩, .func (.func 34) #[] #[.pointer (some ⟨w.heap.size + 1, 0, none⟩)], .string ⟨x.toArray⟩, undef, undef, undef, undef, undef], defers := [] }) ?assign ?body ?done ?stop
  case assign =>
    intro l x W K hK
    gi_wp2
    exact hK
  case body =>
    rintro l pre x W ⟨⟨v, hv, hrow, _⟩, hB⟩ hlt
    have hc := hv.cell
    have hpl : pre.length + 1 ≤ 1000000 := by have := Hl.out; have := Hlen.out; omega
    gi_wp2_with (gi_at_builtin; refine wpListIn_append_own _ rfl _ _ 23 rfl w.heap.size 9 i0 (.string ⟨#[]⟩) 1 16 Tryz.underlying23 hi hz0 hz1 hz2 rfl (by decide) _ _ _ rfl (hrow.alloc _) ⟨W.heap.size, 0, none⟩ 1 1 [.string ⟨x.toArray⟩] rfl rfl (cell_one_new _ _ _) (by simp [Value.oneCell']) (by unfold maxLen; omega) (by omega) (by have := hB.size; simp; omega) ?_; intro v' w1 hown' hgrow _; obtain ⟨g', cap', rfl⟩ := ownsRow_succ hown'; obtain ⟨hv1, hv2, hr2, hk2, hb2⟩ := hv.appended (by decide) hrow hB.size (Nat.le_refl _) hown' hgrow; have hc1 := hv1.cell; have hf1 := hv1.frozen)
    exact ⟨hk2.from _, hb2, ⟨_, hv2, by rw [texts_snoc, List.length_append]; exact hr2, trivial⟩, hB.trans hb2⟩
  case done =>
    rintro D ys W hD rfl ⟨⟨v, hv, hrow, _⟩, hB⟩ hK
    have hc := hv.cell
    gi_wp2
    refine ⟨by simp, .inl ⟨_, _, rfl, run_takeDeferred hK, ?_⟩⟩
    exact ⟨_, results_tmp rfl _ _ _, v, rfl, ownsRow_putObj hrow _ hK rfl, hB.trans (belowK_b (w := w) (Nat.le_refl _) W D _ _ (by simp at hD; omega) hK rfl rfl)⟩
  case stop =>
    rintro D c pre W _ _ h _
    exact h.elim

set_option maxRecDepth 100000 in
set_option maxHeartbeats 2000000 in
theorem count_any (s : List UInt8) (w : World) (hl : s.length ≤ 9223372036854775807) :
    Calls Tryz.prog 43 #[.string ⟨s.toArray⟩] w fun e w' => e = .returned (.int .i64 ((lns s).length : Int)) ∧ Below w.heap.size w w' := by
  have hlen := lns_len_le s
  have Hlen := hide hlen
  clear hlen
  refine (callsIn_wide (n := 9)).1 ?_
  refine callsIn_of_wp_marks Tryz.func43 rfl trivial ?_ rfl
  simp only [Tryz.ntmps43, List.size_toArray, List.length_cons, List.length_nil, Nat.reduceAdd, Nat.reduceSub, Array.replicate_succ, Array.replicate_zero, List.push_toArray, List.append_toArray, List.nil_append, List.cons_append]
  gi_wp2_with (refine ⟨trivial, ?_⟩; gi_at_call 13; refine (callsIn_wide.2 (each_any s _)).mono ?_; rintro e w' ⟨rfl, rfl⟩)
  have bO := Boxed.new w 3 (.int .i64 0)
  have bN := Boxed.new (w.alloc (.cells #[.int .i64 0] 3)) 9 (.string ⟨s.toArray⟩)
  rw [World.size_alloc] at bN
  have hB0 : Below w.heap.size w ((w.alloc (.cells #[.int .i64 0] 3)).alloc (.cells #[.string ⟨s.toArray⟩] 9)) := ((Below.refl _ w).alloc (Nat.le_refl _) _).alloc (by simp) _
  refine wpIn_rangeFunc_ownG rfl (by omega) (gf := 34) (lb := #[.pointer (some ⟨w.heap.size + 1, 0, none⟩)]) rfl trivial (enters_of Tryz.func34 (by kernel_rfl) rfl)
    (each_stops 8 (by omega) (w.heap.size + 1) w.heap.size s hl _ (by simp) bN.cell) belowK_t (belowK_b (by simp; omega)) (Below.refl _ _) (fun _ => rfl)
    (fun pre W => (W.cell? ⟨w.heap.size, 0, none⟩ = some (.int .i64 (pre.length : Int)) ∧ W.frozen? ⟨w.heap.size, 0, none⟩ = false) ∧ Below w.heap.size w W)
    (fun _ _ _ => False)
    (OwnFrom.and (Own.from (fun s A B row hs hg hr => ⟨cell_kept hs.1 hg hr, (frozen_kept hs.1 hg hr).trans hs.2⟩) _) (ownFrom_below (Nat.le_refl _) (by simp; omega)))
    (fun _ _ _ _ _ hs _ _ => hs)
    ⟨⟨(bO.alloc _).cell, (bO.alloc _).frozen⟩, hB0⟩
    (fun x => { tmps := #[.string ⟨s.toArray⟩, undef, .int .i64 0, .pointer (some ⟨w.heap.size, 0, none⟩), .string ⟨s.toArray⟩, .func (.func 34) #[] #[.pointer (some ⟨w.heap.size + 1, 0, none⟩)], .string ⟨x.toArray⟩, undef, undef, undef], defers := [] }) ?assign ?body ?done ?stop
  case assign =>
    intro l x W K hK
    gi_wp2
    simp
    exact hK
  case body =>
    rintro l pre x W ⟨⟨hc, hf⟩, hB⟩ hlt
    have hpl : pre.length + 1 ≤ 9223372036854775807 := by have := Hlen.out; omega
    gi_wp2
    refine ⟨(KeepsOthers.setCell _ _ _).from _, (Below.refl w.heap.size W).setCell (p := ⟨w.heap.size, 0, none⟩) (Nat.le_refl _) _, ⟨?_, by rw [World.frozen?_setCell]; exact hf⟩, hB.setCell (p := ⟨w.heap.size, 0, none⟩) (Nat.le_refl _) _⟩
    rw [World.cell?_setCell_same' _ _ _ (by rw [hc]; rfl), List.length_append]
    rfl
  case done =>
    rintro D ys W hD rfl ⟨⟨hc, _⟩, hB⟩ hK
    gi_wp2
    refine ⟨by simp, .inl ⟨_, _, rfl, run_takeDeferred hK, ?_⟩⟩
    exact ⟨_, results_tmp rfl _ _ _, rfl, hB.trans (belowK_b (w := w) (Nat.le_refl _) W D _ _ (by simp at hD; omega) hK rfl rfl)⟩
  case stop =>
    rintro D c pre W _ _ h _
    exact h.elim
end Go.Proofs.YtnehgogajghefaaGreatDoor.Li
namespace Go.Proofs.YtnehgogajghefaaGreatDoor.Li
open Go Go.RowKit Kt Lw

theorem size_of (l : List UInt8) : (ByteArray.mk l.toArray).size = l.length := rfl
theorem get_at (l : List UInt8) (k : Nat) (h : k < (ByteArray.mk l.toArray).size) : (ByteArray.mk l.toArray)[k] = l.getD k 0 := by
  have h' : k < l.length := h
  have : (ByteArray.mk l.toArray)[k] = l[k]'h' := rfl
  rw [this]
  simp [List.getElem?_eq_getElem h']
theorem get_last (p : List UInt8) (b : UInt8) (h : p.length < (ByteArray.mk (p ++ [b]).toArray).size) : (ByteArray.mk (p ++ [b]).toArray)[p.length] = b := by
  rw [get_at]; simp
theorem ten_of (b : UInt8) : ((b.toNat : Int) == 10) = (b == 10) := by
  rw [Bool.eq_iff_iff, beq_iff_eq, beq_iff_eq, ← UInt8.toNat_inj]
  exact ⟨fun h => by simp; omega, fun h => by simp at h; omega⟩
set_option maxHeartbeats 400000 in
theorem closed_any (s : List UInt8) (w : World) (hl : s.length ≤ 9223372036854775807) :
    Calls Tryz.prog 27 #[.string ⟨s.toArray⟩] w fun e w' => e = .returned (.bool (closed s)) ∧ w' = w := by
  rcases List.eq_nil_or_concat s with rfl | ⟨p, b, rfl⟩
  · go_enter Tryz.func27, Tryz.ntmps27
    go_wp2
    go_ret
    exact ⟨rfl, rfl⟩
  · rw [List.concat_eq_append] at hl ⊢
    rw [closed_snoc]
    have hie : (p ++ [b]).isEmpty = false := by simp
    have hp : p.length + 1 ≤ 9223372036854775807 := by simpa using hl
    have eg := get_last p b (by simp [size_of])
    have Ht := hide (ten_of b)
    clear hl
    go_enter Tryz.func27, Tryz.ntmps27
    go_wp2
    go_ret
    exact ⟨by rw [← Ht.out]; rfl, rfl⟩
theorem index_zero (s : List UInt8) : decide (0 ≤ Lib.indexByte s 0) = binary s := by
  induction s with
  | nil => rfl
  | cons b r ih =>
    have hge := Lib.indexByte_ge r 0
    unfold Lib.indexByte
    by_cases hb : b = 0
    · simp [hb, binary]
    · have hb' : (b == 0) = false := by simpa using hb
      have e : binary (b :: r) = binary r := by simp [binary, Ne.symm hb]
      rw [e, ← ih]
      simp only [hb', Bool.false_eq_true, if_false]
      by_cases hm : Lib.indexByte r 0 = -1
      · simp [hm]
      · have hm' : (Lib.indexByte r 0 == -1) = false := by simpa using hm
        simp only [hm', Bool.false_eq_true, if_false]
        rw [decide_eq_decide]
        omega
end Go.Proofs.YtnehgogajghefaaGreatDoor.Li
namespace Go.Proofs.YtnehgogajghefaaGreatDoor.Un
open Go Go.RowKit Kt Lw Li Df Hu

/-- what the library's variables hold -/
structure Env (w : World) : Prop where
  tab : Lib.TabIs Tryz.prog w "internal/strconv.uint64pow10" .u64 Lib.pow10Tab
  most : ∃ m, w.cell? ⟨0, 0, none⟩ = some (.int .i64 m)
  syn : ∃ t p, w.cell? ⟨2, 0, none⟩ = some (.iface t p)
  rng : ∃ t p, w.cell? ⟨3, 0, none⟩ = some (.iface t p)
theorem Env.keep {w w' : World} (h : Env w) (hb : Below w.heap.size w w') : Env w' := by
  obtain ⟨m, hm⟩ := h.most
  obtain ⟨t, p, hs⟩ := h.syn
  obtain ⟨t', p', hr⟩ := h.rng
  exact ⟨Lib.tabBelow_of_tabIs h.tab w' hb, ⟨m, cell_keep hb hm⟩, ⟨t, p, cell_keep hb hs⟩, ⟨t', p', cell_keep hb hr⟩⟩
theorem grow_below (w : World) (k : Nat) (os : Array Obj) : Below w.heap.size w (Sort.grow (w.drewN k) os) := Lib.below_grow _ w (Nat.le_refl _) k os
theorem run_max3 (P : Program) (ts : Array TypeId) (t : TypeId) (k : IntKind) (x y z : Int) (w : World) : (Builtin.max_ ts t #[.int k x, .int k y, .int k z]).run P w = .ok (.int k (max (max x y) z)) w := by
  have h : ∀ a b : Int, (Builtin.max2 (.int k a) (.int k b)).run P w = .ok (.int k (max a b)) w := fun a b => by
    have e : (if b > a then b else a) = max a b := by split <;> omega
    rw [← e]
    simp [Builtin.max2]
  simp only [Builtin.max_, List.foldlM_cons, List.foldlM_nil, Sem.run_bind, Sem.run_pure, h, Result.andThen]
set_option maxRecDepth 100000 in
set_option maxHeartbeats 400000 in
theorem place_any (p m : Int) (w : World) (hp : -4503599627370496 ≤ p ∧ p ≤ 4503599627370496) (hm : 0 ≤ m ∧ m ≤ 4503599627370496) :
    Calls Tryz.prog 52 #[.int .i64 p, .int .i64 m] w fun y w' => y = .returned (.int .i64 (plc p m)) ∧ w' = w := by
  have hpl : plc p m = p + min m 1 := rfl
  by_cases h : m < 1
  · have h0 : m = 0 := by omega
    subst h0
    have hw : IntKind.i64.wrap p = p := IntWalk.i64_in _ (by omega)
    rw [hpl]
    go_enter Tryz.func52, Tryz.ntmps52
    go_wp2
    go_ret
    exact ⟨by simp, rfl⟩
  · have h1 : min m 1 = 1 := by omega
    have h2 : ¬ m < 1 := h
    have hw : IntKind.i64.wrap (p + 1) = p + 1 := IntWalk.i64_in _ (by omega)
    rw [hpl, h1]
    go_enter Tryz.func52, Tryz.ntmps52
    go_wp2
    go_ret
    exact ⟨rfl, rfl⟩
set_option maxRecDepth 100000 in
set_option maxHeartbeats 400000 in
theorem small_any (p m : Int) (w : World) (hp : -4503599627370496 ≤ p ∧ p ≤ 4503599627370496) (hm : 0 ≤ m ∧ m ≤ 4503599627370496) :
    Calls Tryz.prog 42 #[.int .i64 p, .int .i64 m] w fun y w' => y = .returned (.bool (smlB p m)) ∧ w' = w := by
  have HP := hide (place_any p m w hp hm)
  have hs : smlB p m = decide (max (max p m) (plc p m) < 2147483648) := rfl
  have HS := hide hs
  clear hs hp hm
  generalize plc p m = x at *
  go_enter Tryz.func42, Tryz.ntmps42
  go_wp2_with fail
  refine HP.out.mono ?_
  rintro y w1 ⟨rfl, rfl⟩
  go_wp2
  rw [run_max3]
  simp only [Result.andThen]
  rw [Oper.upon_value]
  go_wp2
  go_ret
  exact ⟨by rw [HS.out, Int.max_assoc]; rfl, rfl⟩
end Go.Proofs.YtnehgogajghefaaGreatDoor.Un
