/-
  Ids that are sorted by the library, on lists: each once, rising.
-/
import Derived.Sort.Walk0
import Derived.Lib.SlicesCompact
import Derived.Lib.RowBridge
import Derived.Test.YtplmcpdlommmaaaQDC
import Derived.RangeFuncNested
import Derived.RangeFuncBound
import Derived.RangeFuncCalls
import Derived.RangeFuncLeaves
import Derived.RangeFuncBox
import Derived.RangeFuncFrom
import Derived.Shelf.Abstract
import Derived.Shelf.RegionOpen
import Derived.WalkKit
import Derived.OwnWalkIn
import Derived.TacticsInMore
import Derived.LoopNIn
import Derived.LoopIn
import Derived.Maps.AppendAt
import Derived.Test.YtplmcpdlommmaaaShelf
import Derived.Test.YtplmcpdlommmaaaQXA
namespace Go.Proofs.Ytplmcpdlommmaaa.Dq
open Go Tr

def srt (l : List Bs) : List Bs := l.mergeSort fun x y => decide (x ≤ y)
theorem lt_dec (x y : Bs) : lt x y = decide (x < y) := Go.Proofs.bytesLess_eq x y
theorem le_of {x y : Bs} (h : x ≤ y) (hne : x ≠ y) : lt x y = true := by
  rw [lt_dec, decide_eq_true_iff]
  by_cases k : x < y
  · exact k
  · exact absurd (List.le_antisymm h (List.not_lt.1 k)) hne
theorem srt_perm (l : List Bs) : (srt l).Perm l := List.mergeSort_perm l _
theorem srt_len (l : List Bs) : (srt l).length = l.length := (srt_perm l).length_eq
theorem srt_mem {l : List Bs} {x : Bs} : x ∈ srt l ↔ x ∈ l := (srt_perm l).mem_iff
theorem srt_le (l : List Bs) : (srt l).Pairwise fun x y => x ≤ y := by
  have tr : ∀ a b c : Bs, decide (a ≤ b) = true → decide (b ≤ c) = true → decide (a ≤ c) = true := fun a b c h1 h2 => by simp only [decide_eq_true_eq] at *; exact List.le_trans h1 h2
  have to : ∀ a b : Bs, (decide (a ≤ b) || decide (b ≤ a)) = true := fun a b => by simp only [Bool.or_eq_true, decide_eq_true_eq]; exact List.le_total a b
  exact (List.pairwise_mergeSort tr to l).imp fun h => by simpa using h
theorem srt_up {l : List Bs} (h : l.Nodup) : Up (srt l) := by
  have hn : (srt l).Pairwise fun x y => x ≠ y := (srt_perm l).nodup_iff.2 h
  exact ((srt_le l).and hn).imp fun h => le_of h.1 h.2
theorem putId_up {x : Bs} : ∀ {l : List Bs}, Up l → Up (putId l x)
  | [], _ => by simp [putId, Up]
  | y :: r, h => by
    obtain ⟨h1, h2⟩ := List.pairwise_cons.1 h
    unfold putId
    split
    · exact h
    · next hne =>
      split
      · next hl =>
        refine List.pairwise_cons.2 ⟨fun b hb => ?_, h⟩
        rcases List.mem_cons.1 hb with rfl | hb
        · exact hl
        · exact lt_trans hl (h1 b hb)
      · next hl =>
        refine List.pairwise_cons.2 ⟨fun b hb => ?_, putId_up h2⟩
        rcases putId_mem.1 hb with rfl | hb
        · rcases lt_tri b y with k | k | k
          · exact absurd k hl
          · exact absurd k.symm hne
          · exact k
        · exact h1 b hb
theorem foldPut_up : ∀ (l : List Bs) {o : List Bs}, Up o → Up (l.foldl putId o)
  | [], _, h => h
  | _ :: r, _, h => foldPut_up r (putId_up h)
theorem sortIds_up (l : List Bs) : Up (sortIds l) := foldPut_up l List.Pairwise.nil
/-- what is sorted, each once -/
theorem srt_sortIds {l m : List Bs} (h : l.Nodup) (hm : ∀ x, x ∈ l ↔ x ∈ m) : srt l = sortIds m :=
  up_ext (srt_up h) (sortIds_up m) fun x => by rw [srt_mem, hm, sortIds_mem]
theorem srt_is {l m : List Bs} (h : l.Nodup) (hu : Up m) (hm : ∀ x, x ∈ l ↔ x ∈ m) : srt l = m :=
  up_ext (srt_up h) hu fun x => by rw [srt_mem, hm]
theorem compact_srt (l : List Bs) : Lib.compact (srt l) = sortIds l := by
  obtain ⟨s, hs⟩ : ∃ s, s = srt l := ⟨_, rfl⟩
  have hle : s.Pairwise fun x y => x ≤ y := by rw [hs]; exact srt_le l
  have hge : ∀ i, i < s.length → s.toArray[i]! = s.getD i [] := fun i hi => by
    rw [List.getElem!_toArray, List.getD_eq_getElem?_getD, List.getElem!_eq_getElem?_getD]; rfl
  have hpw : ∀ i j, i < j → j < s.length → s.getD i [] ≤ s.getD j [] := fun i j hij hj => by
    have := List.pairwise_iff_getElem.1 hle i j (by omega) hj hij
    simpa [List.getD_eq_getElem?_getD, List.getElem?_eq_getElem (show i < s.length by omega), List.getElem?_eq_getElem hj] using this
  rw [← hs]
  refine up_ext ?_ (sortIds_up l) fun x => ?_
  · unfold Lib.compact Lib.compactUpTo Up
    rw [List.pairwise_map]
    refine List.Pairwise.imp_of_mem (R := fun i j => i < j) (fun {i j} hi hj hij => ?_) (List.Pairwise.filter _ List.pairwise_lt_range)
    rw [List.mem_filter, List.mem_range] at hi hj
    rw [hge i hi.1, hge j hj.1]
    have hk := hj.2
    unfold Lib.keeps at hk
    rw [decide_eq_true_iff] at hk
    rcases hk with hk | hk
    · omega
    · rw [hge j hj.1, hge (j - 1) (by omega)] at hk
      have h2 := le_of (hpw (j - 1) j (by omega) hj.1) (Ne.symm hk)
      by_cases e : i = j - 1
      · rw [e]; exact h2
      · have h1 := hpw i (j - 1) (by omega) (by omega)
        by_cases e2 : s.getD i [] = s.getD (j - 1) []
        · rw [e2]; exact h2
        · exact lt_trans (le_of h1 e2) h2
  · rw [sortIds_mem, show x ∈ l ↔ x ∈ s from by rw [hs, srt_mem]]
    unfold Lib.compact Lib.compactUpTo
    rw [List.mem_map]
    constructor
    · rintro ⟨i, hi, rfl⟩
      rw [List.mem_filter, List.mem_range] at hi
      rw [hge i hi.1, List.getD_eq_getElem?_getD, List.getElem?_eq_getElem hi.1]
      exact List.getElem_mem hi.1
    · intro hx
      obtain ⟨k, hk⟩ := List.mem_iff_getElem?.1 hx
      have key : ∀ k : Nat, s[k]? = some x → ∃ i, i < s.length ∧ s.getD i [] = x ∧ (i = 0 ∨ s.getD i [] ≠ s.getD (i - 1) []) := by
        intro k
        induction k with
        | zero => intro h; exact ⟨0, (List.getElem?_eq_some_iff.1 h).1, by rw [List.getD_eq_getElem?_getD, h]; rfl, .inl rfl⟩
        | succ k ih =>
          intro h
          have hl := (List.getElem?_eq_some_iff.1 h).1
          have hv : s.getD (k + 1) [] = x := by rw [List.getD_eq_getElem?_getD, h]; rfl
          by_cases e : s.getD k [] = x
          · refine ih ?_
            rw [List.getD_eq_getElem?_getD, List.getElem?_eq_getElem (show k < s.length by omega)] at e
            rw [List.getElem?_eq_getElem (show k < s.length by omega)]
            exact congrArg some e
          · exact ⟨k + 1, hl, hv, .inr (by rw [hv]; exact fun e2 => e e2.symm)⟩
      obtain ⟨i, hi, hv, hkp⟩ := key k hk
      refine ⟨i, ?_, by rw [hge i hi]; exact hv⟩
      rw [List.mem_filter, List.mem_range]
      refine ⟨hi, ?_⟩
      unfold Lib.keeps
      rw [decide_eq_true_iff]
      rcases hkp with hkp | hkp
      · exact .inl hkp
      · by_cases h0 : i = 0
        · exact .inl h0
        · right; rw [hge i hi, hge (i - 1) (by omega)]; exact hkp
end Go.Proofs.Ytplmcpdlommmaaa.Dq
namespace Go.Proofs.Ytplmcpdlommmaaa.Dq
open Go Go.RowKit Kt Kg Lw Tr

theorem cut_len (cur : Array Value) (l : List Bs) (h : cur.toList.take l.length = texts l) (j : Nat) (hj : j < l.length) : cur[j]? = some (encStr (l.getD j [])) := by
  have : (cur.toList.take l.length)[j]? = cur.toList[j]? := by rw [List.getElem?_take, if_pos hj]
  rw [← Array.getElem?_toList, ← this, h, texts_at l j hj]
/-- a row's cells, for the library's contracts -/
theorem row_holds {w : World} {B g cap : Nat} {l : List Bs} (h : OwT w B tId (.slice (some ⟨g, 0, none⟩) l.length cap) l) : Go.Sort.Holds encStr w g 0 l.toArray ∧ g < w.heap.size ∧ l.length ≤ cap ∧ B ≤ g ∧ cap ≤ maxLen := by
  rcases h.2 with ⟨h1, _⟩ | ⟨g', cap', cur, hv, hB, hg, hnc, hcm, hs, ht⟩
  · cases h1
  · injection hv with e1 e2 e3
    injection e1 with e1
    injection e1 with e1 _ _
    subst e1
    subst e3
    rw [Nat.mul_one] at ht
    refine ⟨fun j hj => ?_, (Array.getElem?_eq_some_iff.1 hg).1, hnc, hB, hcm⟩
    have hj' : j < l.length := by simpa using hj
    refine ⟨?_, ?_⟩
    · rw [Nat.zero_add]
      have := cut_len cur l ht j hj'
      have e : l.toArray[j]! = l.getD j [] := by rw [List.getElem!_toArray, List.getD_eq_getElem?_getD, List.getElem!_eq_getElem?_getD]; rfl
      rw [e, ← this]
      simp [World.cell?, hg]
    · simp [World.frozen?, hg]
theorem row_put {w : World} {B g cap : Nat} {l l' : List Bs} (h : OwT w B tId (.slice (some ⟨g, 0, none⟩) l.length cap) l) (hl : l'.length = l.length) (q : Nat) (os : Array Obj) :
    OwT (Go.Sort.grow (Go.Sort.putRow encStr (Go.Sort.ahead w q) g 0 l'.toArray) os) B tId (.slice (some ⟨g, 0, none⟩) l'.length cap) l' ∧ w.grownBy (Go.Sort.grow (Go.Sort.putRow encStr (Go.Sort.ahead w q) g 0 l'.toArray) os) (some g) := by
  rcases h.2 with ⟨h1, _⟩ | ⟨g', cap', cur, hv, hB, hg, hnc, hcm, hs, ht⟩
  · cases h1
  · injection hv with e1 e2 e3
    injection e1 with e1
    injection e1 with e1 _ _
    subst e1
    subst e3
    have hgl := (Array.getElem?_eq_some_iff.1 hg).1
    have hsz : (Go.Sort.putRow encStr (Go.Sort.ahead w q) g 0 l'.toArray).heap.size = w.heap.size := by rw [Go.Sort.size_putRow]; rfl
    refine ⟨⟨by simp [texts_len], .inr ⟨g, cap, Go.Sort.putCells encStr 0 l'.toArray cur, rfl, hB, ?_, by omega, hcm, ?_, ?_⟩⟩, ⟨rfl, rfl, rfl, ?_, fun k hk hne => ?_⟩⟩
    · rw [Go.Sort.heap_grow_old _ _ (by rw [hsz]; exact hgl)]
      show (w.heap.modify g _)[g]? = _
      rw [Array.getElem?_modify, if_pos rfl, hg]
      rfl
    · rw [← hs]; simp [Go.Sort.putCells]
    · rw [Nat.mul_one]
      apply List.ext_getElem?
      intro j
      rw [List.getElem?_take]
      by_cases hj : j < l'.length
      · rw [if_pos hj, texts_at l' j hj, Array.getElem?_toList]
        unfold Go.Sort.putCells
        rw [Array.getElem?_mapIdx]
        have hjc : j < cur.size := by omega
        rw [Array.getElem?_eq_getElem hjc]
        have e : l'.toArray[j]! = l'.getD j [] := by rw [List.getElem!_toArray, List.getD_eq_getElem?_getD, List.getElem!_eq_getElem?_getD]; rfl
        simp only [Option.map_some, Nat.zero_le, Nat.zero_add, Nat.sub_zero, true_and, List.size_toArray, hj, if_true, e]
      · rw [if_neg hj, List.getElem?_eq_none (by rw [texts_len]; omega)]
    · show w.heap.size ≤ (_ ++ os).size
      rw [Array.size_append, hsz]
      exact Nat.le_add_right _ _
    · rw [Go.Sort.heap_grow_old _ _ (by rw [hsz]; exact hk)]
      show (w.heap.modify g _)[k]? = _
      rw [Array.getElem?_modify, if_neg (fun e => hne (by rw [e]))]
theorem OwT.cut {w : World} {B g cap : Nat} {E : TypeId} {l : List Bs} (h : OwT w B E (.slice (some ⟨g, 0, none⟩) l.length cap) l) {m : Nat} (hm : m ≤ l.length) : OwT w B E (.slice (some ⟨g, 0, none⟩) (l.take m).length cap) (l.take m) := by
  rcases h.2 with ⟨h1, _⟩ | ⟨g', cap', cur, hv, hB, hg, hnc, hcm, hs, ht⟩
  · cases h1
  · injection hv with e1 e2 e3
    injection e1 with e1
    injection e1 with e1 _ _
    subst e1
    subst e3
    have hl : (l.take m).length = m := by rw [List.length_take]; omega
    refine ⟨by simp [texts_len], .inr ⟨g, cap, cur, rfl, hB, hg, by omega, hcm, hs, ?_⟩⟩
    rw [hl, Nat.mul_one]
    rw [Nat.mul_one] at ht
    have : cur.toList.take m = (cur.toList.take l.length).take m := by rw [List.take_take, Nat.min_eq_left hm]
    rw [this, ht]
    simp [texts, List.map_take]
/-- slices.Sort at ids -/
theorem sort_any {w : World} {B : Nat} {v : Value} {l : List Bs} (h : OwT w B tId v l) (hl : l.length ≤ 1000000) :
    Calls Try.prog 42 #[v] w fun y w' => y = .returned (.tuple #[]) ∧ OwT w' B tId v (srt l) ∧ w.grownBy w' v.ownBlock := by
  by_cases h0 : l = []
  · subst h0
    have hv : ∃ p c, v = .slice p 0 c := by
      rcases h.2 with ⟨h1, _⟩ | ⟨g, cap, cur, hv, _⟩
      · exact ⟨_, _, h1⟩
      · exact ⟨_, _, hv⟩
    obtain ⟨p, c, rfl⟩ := hv
    have hc := AnyM.slices_Sort_string_none Try.sortI p c w
    refine Calls.mono hc ?_
    rintro y w' ⟨rfl, rfl⟩
    exact ⟨rfl, by rw [show srt [] = [] from by simp [srt]]; exact h, ⟨rfl, rfl, rfl, Nat.le_refl _, fun _ _ _ => rfl⟩⟩
  · have hv : ∃ g c, v = .slice (some ⟨g, 0, none⟩) l.length c := by
      rcases h.2 with ⟨_, h2⟩ | ⟨g, cap, cur, hv, _⟩
      · exact absurd (List.eq_nil_of_length_eq_zero h2) h0
      · exact ⟨_, _, hv⟩
    obtain ⟨g, c, rfl⟩ := hv
    obtain ⟨k1, k2, _⟩ := row_holds h
    have hc := AnyM.slices_Sort_string Try.sortI g 0 c l w k1 k2 (by omega)
    refine Calls.mono hc ?_
    rintro y w' ⟨rfl, n, os, rfl⟩
    obtain ⟨q1, q2⟩ := row_put (l' := srt l) h (srt_len l) n os
    rw [srt_len] at q1
    exact ⟨rfl, q1, q2⟩
end Go.Proofs.Ytplmcpdlommmaaa.Dq
