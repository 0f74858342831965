/-
  Rows of ids: sorted by the library, made of a map's keys.
-/
import Derived.RangeFuncNested
import Derived.RangeFuncBound
import Derived.RangeFuncCalls
import Derived.RangeFuncLeaves
import Derived.RangeFuncBox
import Derived.RangeFuncFrom
import Derived.Shelf.Abstract
import Derived.Shelf.RegionOpen
import Derived.WalkKit
import Derived.OwnWalkIn
import Derived.TacticsInMore
import Derived.LoopNIn
import Derived.LoopIn
import Derived.Maps.AppendAt
import Derived.Test.YtlfncnnfpniigaaShelf
import Derived.Test.YtlfncnnfpniigaaXC
import Derived.Test.YtlfncnnfpniigaaXE
namespace Go.Proofs.Ytlfncnnfpniigaa.Dq
open Go Go.RowKit Kt Kg Lw Tr

theorem cut_len (cur : Array Value) (l : List Bs) (h : cur.toList.take l.length = texts l) (j : Nat) (hj : j < l.length) : cur[j]? = some (encStr (l.getD j [])) := by
  have : (cur.toList.take l.length)[j]? = cur.toList[j]? := by rw [List.getElem?_take, if_pos hj]
  rw [← Array.getElem?_toList, ← this, h, texts_at l j hj]
/-- a row's cells, for the library's contracts -/
theorem row_holds {w : World} {B g cap : Nat} {l : List Bs} (h : OwT w B tId (.slice (some ⟨g, 0, none⟩) l.length cap) l) : Go.Sort.Holds encStr w g 0 l.toArray ∧ g < w.heap.size ∧ l.length ≤ cap ∧ B ≤ g ∧ cap ≤ maxLen := by
  rcases h.2 with ⟨h1, _⟩ | ⟨g', cap', cur, hv, hB, hg, hnc, hcm, hs, ht⟩
  · cases h1
  · injection hv with e1 e2 e3
    injection e1 with e1
    injection e1 with e1 _ _
    subst e1
    subst e3
    rw [Nat.mul_one] at ht
    refine ⟨fun j hj => ?_, (Array.getElem?_eq_some_iff.1 hg).1, hnc, hB, hcm⟩
    have hj' : j < l.length := by simpa using hj
    refine ⟨?_, ?_⟩
    · rw [Nat.zero_add]
      have := cut_len cur l ht j hj'
      have e : l.toArray[j]! = l.getD j [] := by rw [List.getElem!_toArray, List.getD_eq_getElem?_getD, List.getElem!_eq_getElem?_getD]; rfl
      rw [e, ← this]
      simp [World.cell?, hg]
    · simp [World.frozen?, hg]
theorem row_put {w : World} {B g cap : Nat} {l l' : List Bs} (h : OwT w B tId (.slice (some ⟨g, 0, none⟩) l.length cap) l) (hl : l'.length = l.length) (q : Nat) (os : Array Obj) :
    OwT (Go.Sort.grow (Go.Sort.putRow encStr (Go.Sort.ahead w q) g 0 l'.toArray) os) B tId (.slice (some ⟨g, 0, none⟩) l'.length cap) l' ∧ w.grownBy (Go.Sort.grow (Go.Sort.putRow encStr (Go.Sort.ahead w q) g 0 l'.toArray) os) (some g) := by
  rcases h.2 with ⟨h1, _⟩ | ⟨g', cap', cur, hv, hB, hg, hnc, hcm, hs, ht⟩
  · cases h1
  · injection hv with e1 e2 e3
    injection e1 with e1
    injection e1 with e1 _ _
    subst e1
    subst e3
    have hgl := (Array.getElem?_eq_some_iff.1 hg).1
    have hsz : (Go.Sort.putRow encStr (Go.Sort.ahead w q) g 0 l'.toArray).heap.size = w.heap.size := by rw [Go.Sort.size_putRow]; rfl
    refine ⟨⟨by simp [texts_len], .inr ⟨g, cap, Go.Sort.putCells encStr 0 l'.toArray cur, rfl, hB, ?_, by omega, hcm, ?_, ?_⟩⟩, ⟨rfl, rfl, rfl, ?_, fun k hk hne => ?_⟩⟩
    · rw [Go.Sort.heap_grow_old _ _ (by rw [hsz]; exact hgl)]
      show (w.heap.modify g _)[g]? = _
      rw [Array.getElem?_modify, if_pos rfl, hg]
      rfl
    · rw [← hs]; simp [Go.Sort.putCells]
    · rw [Nat.mul_one]
      apply List.ext_getElem?
      intro j
      rw [List.getElem?_take]
      by_cases hj : j < l'.length
      · rw [if_pos hj, texts_at l' j hj, Array.getElem?_toList]
        unfold Go.Sort.putCells
        rw [Array.getElem?_mapIdx]
        have hjc : j < cur.size := by omega
        rw [Array.getElem?_eq_getElem hjc]
        have e : l'.toArray[j]! = l'.getD j [] := by rw [List.getElem!_toArray, List.getD_eq_getElem?_getD, List.getElem!_eq_getElem?_getD]; rfl
        simp only [Option.map_some, Nat.zero_le, Nat.zero_add, Nat.sub_zero, true_and, List.size_toArray, hj, if_true, e]
      · rw [if_neg hj, List.getElem?_eq_none (by rw [texts_len]; omega)]
    · show w.heap.size ≤ (_ ++ os).size
      rw [Array.size_append, hsz]
      exact Nat.le_add_right _ _
    · rw [Go.Sort.heap_grow_old _ _ (by rw [hsz]; exact hk)]
      show (w.heap.modify g _)[k]? = _
      rw [Array.getElem?_modify, if_neg (fun e => hne (by rw [e]))]
theorem OwT.cut {w : World} {B g cap : Nat} {E : TypeId} {l : List Bs} (h : OwT w B E (.slice (some ⟨g, 0, none⟩) l.length cap) l) {m : Nat} (hm : m ≤ l.length) : OwT w B E (.slice (some ⟨g, 0, none⟩) (l.take m).length cap) (l.take m) := by
  rcases h.2 with ⟨h1, _⟩ | ⟨g', cap', cur, hv, hB, hg, hnc, hcm, hs, ht⟩
  · cases h1
  · injection hv with e1 e2 e3
    injection e1 with e1
    injection e1 with e1 _ _
    subst e1
    subst e3
    have hl : (l.take m).length = m := by rw [List.length_take]; omega
    refine ⟨by simp [texts_len], .inr ⟨g, cap, cur, rfl, hB, hg, by omega, hcm, hs, ?_⟩⟩
    rw [hl, Nat.mul_one]
    rw [Nat.mul_one] at ht
    have : cur.toList.take m = (cur.toList.take l.length).take m := by rw [List.take_take, Nat.min_eq_left hm]
    rw [this, ht]
    simp [texts, List.map_take]
/-- slices.Sort at ids -/
theorem sort_any {w : World} {B : Nat} {v : Value} {l : List Bs} (h : OwT w B tId v l) (hl : l.length ≤ 1000000) :
    Calls Try.prog 33 #[v] w fun y w' => y = .returned (.tuple #[]) ∧ OwT w' B tId v (srt l) ∧ w.grownBy w' v.ownBlock := by
  by_cases h0 : l = []
  · subst h0
    have hv : ∃ p c, v = .slice p 0 c := by
      rcases h.2 with ⟨h1, _⟩ | ⟨g, cap, cur, hv, _⟩
      · exact ⟨_, _, h1⟩
      · exact ⟨_, _, hv⟩
    obtain ⟨p, c, rfl⟩ := hv
    have hc := AnyM.slices_Sort_string_none Try.sortI p c w
    refine Calls.mono hc ?_
    rintro y w' ⟨rfl, rfl⟩
    exact ⟨rfl, by rw [show srt [] = [] from by simp [srt]]; exact h, ⟨rfl, rfl, rfl, Nat.le_refl _, fun _ _ _ => rfl⟩⟩
  · have hv : ∃ g c, v = .slice (some ⟨g, 0, none⟩) l.length c := by
      rcases h.2 with ⟨_, h2⟩ | ⟨g, cap, cur, hv, _⟩
      · exact absurd (List.eq_nil_of_length_eq_zero h2) h0
      · exact ⟨_, _, hv⟩
    obtain ⟨g, c, rfl⟩ := hv
    obtain ⟨k1, k2, _⟩ := row_holds h
    have hc := AnyM.slices_Sort_string Try.sortI g 0 c l w k1 k2 (by omega)
    refine Calls.mono hc ?_
    rintro y w' ⟨rfl, n, os, rfl⟩
    obtain ⟨q1, q2⟩ := row_put (l' := srt l) h (srt_len l) n os
    rw [srt_len] at q1
    exact ⟨rfl, q1, q2⟩
end Go.Proofs.Ytlfncnnfpniigaa.Dq
