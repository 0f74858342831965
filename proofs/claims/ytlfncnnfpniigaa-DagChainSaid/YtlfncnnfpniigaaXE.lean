/-
  Ids that are sorted by the library, on lists: each once, rising.
-/
import Derived.Sort.Walk0
import Derived.Lib.SlicesCompact
import Derived.Lib.RowBridge
import Derived.Test.YtlfncnnfpniigaaDH
namespace Go.Proofs.Ytlfncnnfpniigaa.Dq
open Go Tr

def srt (l : List Bs) : List Bs := l.mergeSort fun x y => decide (x ≤ y)
theorem lt_dec (x y : Bs) : lt x y = decide (x < y) := Go.Proofs.bytesLess_eq x y
theorem le_of {x y : Bs} (h : x ≤ y) (hne : x ≠ y) : lt x y = true := by
  rw [lt_dec, decide_eq_true_iff]
  by_cases k : x < y
  · exact k
  · exact absurd (List.le_antisymm h (List.not_lt.1 k)) hne
theorem srt_perm (l : List Bs) : (srt l).Perm l := List.mergeSort_perm l _
theorem srt_len (l : List Bs) : (srt l).length = l.length := (srt_perm l).length_eq
theorem srt_mem {l : List Bs} {x : Bs} : x ∈ srt l ↔ x ∈ l := (srt_perm l).mem_iff
theorem srt_le (l : List Bs) : (srt l).Pairwise fun x y => x ≤ y := by
  have tr : ∀ a b c : Bs, decide (a ≤ b) = true → decide (b ≤ c) = true → decide (a ≤ c) = true := fun a b c h1 h2 => by simp only [decide_eq_true_eq] at *; exact List.le_trans h1 h2
  have to : ∀ a b : Bs, (decide (a ≤ b) || decide (b ≤ a)) = true := fun a b => by simp only [Bool.or_eq_true, decide_eq_true_eq]; exact List.le_total a b
  exact (List.pairwise_mergeSort tr to l).imp fun h => by simpa using h
theorem srt_up {l : List Bs} (h : l.Nodup) : Up (srt l) := by
  have hn : (srt l).Pairwise fun x y => x ≠ y := (srt_perm l).nodup_iff.2 h
  exact ((srt_le l).and hn).imp fun h => le_of h.1 h.2
theorem putId_up {x : Bs} : ∀ {l : List Bs}, Up l → Up (putId l x)
  | [], _ => by simp [putId, Up]
  | y :: r, h => by
    obtain ⟨h1, h2⟩ := List.pairwise_cons.1 h
    unfold putId
    split
    · exact h
    · next hne =>
      split
      · next hl =>
        refine List.pairwise_cons.2 ⟨fun b hb => ?_, h⟩
        rcases List.mem_cons.1 hb with rfl | hb
        · exact hl
        · exact lt_trans hl (h1 b hb)
      · next hl =>
        refine List.pairwise_cons.2 ⟨fun b hb => ?_, putId_up h2⟩
        rcases putId_mem.1 hb with rfl | hb
        · rcases lt_tri b y with k | k | k
          · exact absurd k hl
          · exact absurd k.symm hne
          · exact k
        · exact h1 b hb
theorem foldPut_up : ∀ (l : List Bs) {o : List Bs}, Up o → Up (l.foldl putId o)
  | [], _, h => h
  | _ :: r, _, h => foldPut_up r (putId_up h)
theorem sortIds_up (l : List Bs) : Up (sortIds l) := foldPut_up l List.Pairwise.nil
/-- what is sorted, each once -/
theorem srt_sortIds {l m : List Bs} (h : l.Nodup) (hm : ∀ x, x ∈ l ↔ x ∈ m) : srt l = sortIds m :=
  up_ext (srt_up h) (sortIds_up m) fun x => by rw [srt_mem, hm, sortIds_mem]
theorem srt_is {l m : List Bs} (h : l.Nodup) (hu : Up m) (hm : ∀ x, x ∈ l ↔ x ∈ m) : srt l = m :=
  up_ext (srt_up h) hu fun x => by rw [srt_mem, hm]
theorem compact_srt (l : List Bs) : Lib.compact (srt l) = sortIds l := by
  obtain ⟨s, hs⟩ : ∃ s, s = srt l := ⟨_, rfl⟩
  have hle : s.Pairwise fun x y => x ≤ y := by rw [hs]; exact srt_le l
  have hge : ∀ i, i < s.length → s.toArray[i]! = s.getD i [] := fun i hi => by
    rw [List.getElem!_toArray, List.getD_eq_getElem?_getD, List.getElem!_eq_getElem?_getD]; rfl
  have hpw : ∀ i j, i < j → j < s.length → s.getD i [] ≤ s.getD j [] := fun i j hij hj => by
    have := List.pairwise_iff_getElem.1 hle i j (by omega) hj hij
    simpa [List.getD_eq_getElem?_getD, List.getElem?_eq_getElem (show i < s.length by omega), List.getElem?_eq_getElem hj] using this
  rw [← hs]
  refine up_ext ?_ (sortIds_up l) fun x => ?_
  · unfold Lib.compact Lib.compactUpTo Up
    rw [List.pairwise_map]
    refine List.Pairwise.imp_of_mem (R := fun i j => i < j) (fun {i j} hi hj hij => ?_) (List.Pairwise.filter _ List.pairwise_lt_range)
    rw [List.mem_filter, List.mem_range] at hi hj
    rw [hge i hi.1, hge j hj.1]
    have hk := hj.2
    unfold Lib.keeps at hk
    rw [decide_eq_true_iff] at hk
    rcases hk with hk | hk
    · omega
    · rw [hge j hj.1, hge (j - 1) (by omega)] at hk
      have h2 := le_of (hpw (j - 1) j (by omega) hj.1) (Ne.symm hk)
      by_cases e : i = j - 1
      · rw [e]; exact h2
      · have h1 := hpw i (j - 1) (by omega) (by omega)
        by_cases e2 : s.getD i [] = s.getD (j - 1) []
        · rw [e2]; exact h2
        · exact lt_trans (le_of h1 e2) h2
  · rw [sortIds_mem, show x ∈ l ↔ x ∈ s from by rw [hs, srt_mem]]
    unfold Lib.compact Lib.compactUpTo
    rw [List.mem_map]
    constructor
    · rintro ⟨i, hi, rfl⟩
      rw [List.mem_filter, List.mem_range] at hi
      rw [hge i hi.1, List.getD_eq_getElem?_getD, List.getElem?_eq_getElem hi.1]
      exact List.getElem_mem hi.1
    · intro hx
      obtain ⟨k, hk⟩ := List.mem_iff_getElem?.1 hx
      have key : ∀ k : Nat, s[k]? = some x → ∃ i, i < s.length ∧ s.getD i [] = x ∧ (i = 0 ∨ s.getD i [] ≠ s.getD (i - 1) []) := by
        intro k
        induction k with
        | zero => intro h; exact ⟨0, (List.getElem?_eq_some_iff.1 h).1, by rw [List.getD_eq_getElem?_getD, h]; rfl, .inl rfl⟩
        | succ k ih =>
          intro h
          have hl := (List.getElem?_eq_some_iff.1 h).1
          have hv : s.getD (k + 1) [] = x := by rw [List.getD_eq_getElem?_getD, h]; rfl
          by_cases e : s.getD k [] = x
          · refine ih ?_
            rw [List.getD_eq_getElem?_getD, List.getElem?_eq_getElem (show k < s.length by omega)] at e
            rw [List.getElem?_eq_getElem (show k < s.length by omega)]
            exact congrArg some e
          · exact ⟨k + 1, hl, hv, .inr (by rw [hv]; exact fun e2 => e e2.symm)⟩
      obtain ⟨i, hi, hv, hkp⟩ := key k hk
      refine ⟨i, ?_, by rw [hge i hi]; exact hv⟩
      rw [List.mem_filter, List.mem_range]
      refine ⟨hi, ?_⟩
      unfold Lib.keeps
      rw [decide_eq_true_iff]
      rcases hkp with hkp | hkp
      · exact .inl hkp
      · by_cases h0 : i = 0
        · exact .inl h0
        · right; rw [hge i hi, hge (i - 1) (by omega)]; exact hkp
end Go.Proofs.Ytlfncnnfpniigaa.Dq
