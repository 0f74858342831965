/-
  lines: how long the first line is; the iterator's contract.
-/
import Derived.RangeFuncNested
import Derived.RangeFuncBound
import Derived.RangeFuncCalls
import Derived.RangeFuncLeaves
import Derived.RangeFuncBox
import Derived.Shelf.Abstract
import Derived.Shelf.RegionOpen
import Derived.WalkKit
import Derived.OwnWalkIn
import Derived.TacticsInMore
import Derived.LoopNIn
import Derived.LoopIn
import Derived.Maps.AppendAt
import Derived.Test.YtghnieddokhagaaDoorKit
import Derived.Test.YtghnieddokhagaaDoorQTO
import Derived.Test.YtghnieddokhagaaDoorShelf
namespace Go.Proofs.YtghnieddokhagaaDoor.Li
open Go Go.RowKit Go.Shelf Kt
attribute [local go_sem] Oper.semAt_some

theorem idx_any (l : List UInt8) (c : UInt8) (w : World) : Calls Tryd.prog 34 #[.string ⟨l.toArray⟩, .int .u8 (c.toNat : Int)] w fun e w' => e = .returned (.int .i64 (Lib.indexByte l c)) ∧ w' = w := by
  have h := Tryd.strings_IndexByte ⟨l.toArray⟩ (c.toNat : Int) w
  have e : ((c.toNat : Int)).toNat.toUInt8 = c := by simp
  rw [e] at h
  exact h

set_option maxHeartbeats 400000 in
theorem first_any (l : List UInt8) (w : World) (hl : l.length ≤ 9223372036854775807) : Calls Tryd.prog 56 #[.string ⟨l.toArray⟩] w fun e w' => e = .returned (.int .i64 (fst l : Int)) ∧ w' = w := by
  have hf := fst_index l
  have hge := Lib.indexByte_ge l 10
  have hle := fst_le l
  have hx := fun w => idx_any l 10 w
  obtain ⟨x, hxe⟩ : ∃ x, x = Lib.indexByte l 10 := ⟨_, rfl⟩
  rw [← hxe] at hf hge
  have Hx := hide hx
  have Hxe := hide hxe
  clear hx hxe
  by_cases h0 : 0 ≤ x
  · rw [if_pos h0] at hf
    have hb : x + 1 ≤ 9223372036854775807 := by omega
    have Hf := hide hf
    clear hf hle
    go_enter Tryd.func56, Tryd.ntmps56
    go_wp2_with fail
    refine (Hx.out _).mono ?_
    rintro e w' ⟨rfl, rfl⟩
    rw [← Hxe.out]
    go_wp2
    go_ret
    exact ⟨by rw [Hf.out]; rfl, rfl⟩
  · rw [if_neg h0] at hf
    have Hf := hide hf
    clear hf hle
    go_enter Tryd.func56, Tryd.ntmps56
    go_wp2_with fail
    refine (Hx.out _).mono ?_
    rintro e w' ⟨rfl, rfl⟩
    rw [← Hxe.out]
    go_wp2
    go_ret
    exact ⟨by rw [Hf.out]; rfl, rfl⟩

set_option maxHeartbeats 400000 in
theorem each_any (l : List UInt8) (w : World) :
    Calls Tryd.prog 37 #[.string ⟨l.toArray⟩] w fun e w' => e = .returned (.func (.func 55) #[] #[.pointer (some ⟨w.heap.size, 0, none⟩)]) ∧ w' = w.alloc (.cells #[.string ⟨l.toArray⟩] 9) := by
  go_enter Tryd.func37, Tryd.ntmps37
  go_wp2
  go_ret
  exact ⟨rfl, rfl⟩

theorem cut_front (l : List UInt8) (k : Nat) (_h : k ≤ l.length) : (ByteArray.mk l.toArray).extract 0 k = ⟨(l.take k).toArray⟩ := by
  apply ByteArray.ext
  simp
theorem cut_back (l : List UInt8) (k : Nat) (_h : k ≤ l.length) : (ByteArray.mk l.toArray).extract k l.length = ⟨(l.drop k).toArray⟩ := by
  apply ByteArray.ext
  simp [List.take_of_length_le]
def txtOf : Value → List UInt8 | .string s => s.data.toList | _ => []

set_option maxRecDepth 100000 in
set_option maxHeartbeats 1000000 in
theorem each_stops (n : Nat) (hn : 1 ≤ n) (Bs n₀ : Nat) (s : List UInt8) (hl : s.length ≤ 9223372036854775807) (w : World) (hBs : Bs < w.heap.size) (hc : w.cell? ⟨Bs, 0, none⟩ = some (.string ⟨s.toArray⟩)) :
    SeqStopsK Fence.wide n Tryd.prog 55 #[.pointer (some ⟨Bs, 0, none⟩)] (fun x : List UInt8 => #[Value.string ⟨x.toArray⟩]) (Below n₀) (fun ys => ys = lns s) (fun pre => pre <+: lns s) (lns s).length w := by
  intro l J Jx W hW hJ hJx hY h0
  have hc' := (hW.cell (p := ⟨Bs, 0, none⟩) hBs).trans hc
  clear hJ hJx hW hc
  refine callsIn_of_wp Tryd.func55 rfl trivial ?_ rfl
  simp only [Tryd.ntmps55, List.size_toArray, List.length_cons, List.length_nil, Nat.reduceAdd, Nat.reduceSub, Array.replicate_succ, Array.replicate_zero, List.push_toArray, List.append_toArray, List.nil_append, List.cons_append]
  gi_wp2
  gi_loopw [3] (fun v wr => ∃ (pre : List (List UInt8)) (rest : List UInt8), v = .string ⟨rest.toArray⟩ ∧ lns s = pre ++ lns rest ∧ rest.length ≤ 9223372036854775807 ∧ J pre wr) (fun v _ => (txtOf v).length)
  case atStart => exact ⟨[], s, rfl, rfl, hl, h0⟩
  case round =>
    obtain ⟨pre, rest, rfl, he, hlr, hJs⟩ := hrel
    by_cases hr : rest = []
    · subst hr
      gi_wp2
      go_end0
      exact ⟨⟨_, rfl⟩, .inl ⟨_, rfl, by rw [he, lns_nil, List.append_nil]; exact hJs⟩⟩
    · have hcut := lns_cut hr
      obtain ⟨fn, tmps, assign, body, hy, hR⟩ := hY pre (rest.take (fst rest)) wr hJs (by rw [he, hcut]; simp)
      have hie : rest.isEmpty = false := by simpa using hr
      have hfl := fst_le rest
      have hfp := fst_pos hr
      have Hcut := hide hcut
      have He := hide he
      have Hr := hide hr
      clear hcut he hr
      obtain ⟨k, hk⟩ : ∃ k, k = fst rest := ⟨_, rfl⟩
      rw [← hk] at hfl hfp hy hR
      have ex := cut_front rest k hfl
      have ey := cut_back rest k hfl
      have Hk := hide hk
      clear hk
      gi_wp2_with (refine ⟨trivial, ?_⟩; gi_at_call 56; refine (callsIn_wide.2 (first_any _ _ hlr)).mono ?_; rintro e w' ⟨rfl, rfl⟩; rw [← Hk.out])
      refine hR.mono ?_
      rintro e W3 (⟨rfl, hJ3, hk3⟩ | ⟨rfl, hJx3⟩)
      · gi_wp2
        go_roundw
        case rel => exact ⟨pre ++ [rest.take k], rest.drop k, rfl, by rw [He.out, Hcut.out, ← Hk.out, List.append_assoc]; rfl, by rw [List.length_drop]; omega, hJ3⟩
        case measure => simp [txtOf]; omega
      · gi_wp2
        refine bodyPost_ret (results_none rfl _ _ _) rfl ?_
        exact ⟨⟨_, rfl⟩, .inr ⟨_, ⟨lns (rest.drop k), by rw [He.out, Hcut.out, Hk.out]; simp⟩, hJx3⟩⟩
end Go.Proofs.YtghnieddokhagaaDoor.Li
