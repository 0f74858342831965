/-
  A text's lines, on lists of bytes alone: what splitting, joining, counting come to. No program is named here.
-/
import Derived.Lib.Bytealg
import Derived.Lib.Join
import Derived.RangeFuncNested
import Derived.RangeFuncBound
import Derived.RangeFuncCalls
import Derived.RangeFuncLeaves
import Derived.RangeFuncBox
import Derived.Shelf.Abstract
import Derived.Shelf.RegionOpen
import Derived.WalkKit
import Derived.OwnWalkIn
import Derived.TacticsInMore
import Derived.LoopNIn
import Derived.LoopIn
import Derived.Maps.AppendAt
import Derived.Test.YtghnieddokhagaaKit
import Derived.Test.YtghnieddokhagaaShelf
namespace Go.Proofs.Ytghnieddokhagaa.Li
open Go

/-- how many bytes the first line has -/
def fst : List UInt8 → Nat
  | [] => 0
  | b :: r => if b = 10 then 1 else fst r + 1
/-- the lines -/
def lns : List UInt8 → List (List UInt8)
  | [] => []
  | b :: r => if b = 10 then [b] :: lns r else match lns r with
    | [] => [[b]]
    | h :: t => (b :: h) :: t
def closed (s : List UInt8) : Bool := s.getLast?.getD 10 == 10
def binary (s : List UInt8) : Bool := s.contains 0
/-- is line i of l one line, closed if it isn't the last one? -/
def okAt (l : List (List UInt8)) (i : Nat) : Bool := (lns (l.getD i [])).length == 1 && (!decide (i + 1 < l.length) || closed (l.getD i []))
def right (l : List (List UInt8)) : Bool := (List.range l.length).all (okAt l)

theorem fst_le : ∀ s : List UInt8, fst s ≤ s.length
  | [] => Nat.le_refl _
  | b :: r => by have := fst_le r; unfold fst; split <;> simp <;> omega
theorem fst_pos {s : List UInt8} (h : s ≠ []) : 0 < fst s := by
  cases s with
  | nil => exact absurd rfl h
  | cons b r => unfold fst; split <;> omega
theorem fst_index : ∀ s : List UInt8, (fst s : Int) = if 0 ≤ Lib.indexByte s 10 then Lib.indexByte s 10 + 1 else (s.length : Int)
  | [] => by simp [fst, Lib.indexByte]
  | b :: r => by
    have ih := fst_index r
    have hge := Lib.indexByte_ge r 10
    unfold fst Lib.indexByte
    by_cases hb : b = 10
    · simp [hb]
    · have hb' : (b == 10) = false := by simpa using hb
      simp only [hb, hb', if_false, Bool.false_eq_true]
      by_cases hm : Lib.indexByte r 10 = -1
      · simp [hm] at ih ⊢; omega
      · have hm' : (Lib.indexByte r 10 == -1) = false := by simpa using hm
        simp only [hm', Bool.false_eq_true, if_false]
        have h0 : 0 ≤ Lib.indexByte r 10 := by omega
        rw [if_pos h0] at ih
        rw [if_pos (by omega)]
        push_cast
        omega

theorem lns_cons (b : UInt8) (r : List UInt8) : lns (b :: r) = if b = 10 then [b] :: lns r else match lns r with
    | [] => [[b]]
    | h :: t => (b :: h) :: t := rfl
theorem fst_cons (b : UInt8) (r : List UInt8) : fst (b :: r) = if b = 10 then 1 else fst r + 1 := rfl
theorem lns_cut : ∀ {s : List UInt8}, s ≠ [] → lns s = s.take (fst s) :: lns (s.drop (fst s))
  | [], h => absurd rfl h
  | b :: r, _ => by
    rw [lns_cons, fst_cons]
    by_cases hb : b = 10
    · simp [hb]
    · simp only [hb, if_false, List.take_succ_cons, List.drop_succ_cons]
      by_cases hr : r = []
      · subst hr; rfl
      · rw [lns_cut hr]
theorem lns_nil : lns [] = [] := rfl
theorem lns_ne {s : List UInt8} (h : s ≠ []) : lns s ≠ [] := by rw [lns_cut h]; simp
theorem lns_flat : ∀ s : List UInt8, (lns s).flatten = s
  | [] => rfl
  | b :: r => by
    have ih := lns_flat r
    unfold lns
    by_cases hb : b = 10
    · simp [hb, ih]
    · simp only [hb, if_false]
      cases hl : lns r with
      | nil => rw [hl] at ih; simp at ih; simp [← ih]
      | cons h t => rw [hl] at ih; simp at ih ⊢; exact ih
theorem lns_len_le : ∀ s : List UInt8, (lns s).length ≤ s.length
  | [] => Nat.le_refl _
  | b :: r => by
    have ih := lns_len_le r
    unfold lns
    by_cases hb : b = 10
    · simp [hb]; exact ih
    · simp only [hb, if_false]
      cases hl : lns r with
      | nil => simp
      | cons h t => rw [hl] at ih; simp at ih ⊢; omega
/-- a line's length is bounded by the text's -/
theorem lns_mem_le {s x : List UInt8} (h : x ∈ lns s) : x.length ≤ s.length := by
  have := lns_flat s
  rw [← this]
  exact List.Sublist.length_le (List.sublist_flatten_of_mem h)

/-- the line that a byte comes to, from behind -/
theorem lns_snoc_open : ∀ (p : List UInt8) (b : UInt8), closed p = false → ∃ q x, lns p = q ++ [x] ∧ lns (p ++ [b]) = q ++ [x ++ [b]]
  | [], _, h => by simp [closed] at h
  | c :: r, b, h => by
    by_cases hr : r = []
    · subst hr
      have hc : c ≠ 10 := by simpa [closed] using h
      exact ⟨[], [c], by simp [lns, hc], by by_cases hb : b = 10 <;> simp [lns, hc, hb]⟩
    · have h' : closed r = false := by simpa [closed, List.getLast?_cons_of_ne_nil, List.getLast?_cons, hr, List.getLast?_eq_some_getLast hr] using h
      obtain ⟨q, x, e1, e2⟩ := lns_snoc_open r b h'
      by_cases hc : c = 10
      · exact ⟨[c] :: q, x, by simp [lns, hc, e1], by simp [lns, hc, e2]⟩
      · cases q with
        | nil => exact ⟨[], c :: x, by simp [lns, hc, e1], by simp [lns, hc, e2]⟩
        | cons y q => exact ⟨(c :: y) :: q, x, by simp [lns, hc, e1], by simp [lns, hc, e2]⟩
theorem closed_cons {c : UInt8} {r : List UInt8} (hr : r ≠ []) : closed (c :: r) = closed r := by
  simp [closed, List.getLast?_cons, List.getLast?_eq_some_getLast hr]
theorem closed_nil : closed [] = true := rfl
theorem closed_snoc (p : List UInt8) (b : UInt8) : closed (p ++ [b]) = (b == 10) := by simp [closed]
theorem lns_append : ∀ (p t : List UInt8), closed p = true → lns (p ++ t) = lns p ++ lns t
  | [], _, _ => rfl
  | c :: r, t, h => by
    by_cases hr : r = []
    · subst hr
      have hc : c = 10 := by simpa [closed] using h
      simp [lns, hc]
    · rw [closed_cons hr] at h
      have ih := lns_append r t h
      by_cases hc : c = 10
      · simp [lns, hc, ih]
      · have hl := lns_ne hr
        cases hq : lns r with
        | nil => exact absurd hq hl
        | cons y q => simp [lns, hc, ih, hq]
theorem lns_append_open (p t : List UInt8) (h : closed p = false) : (lns (p ++ t)).length = (lns p).length + (lns t).length - (if t = [] then 0 else 1) := by
  induction p with
  | nil => simp [closed] at h
  | cons c r ih =>
    by_cases hr : r = []
    · subst hr
      have hc : c ≠ 10 := by simpa [closed] using h
      by_cases ht : t = []
      · subst ht; simp [lns, hc]
      · have := lns_ne ht
        cases hq : lns t with
        | nil => exact absurd hq this
        | cons y q => simp [lns, hc, hq, ht]
    · rw [closed_cons hr] at h
      have ih := ih h
      have hl := lns_ne hr
      have hl' : lns (r ++ t) ≠ [] := lns_ne (by simp [hr])
      by_cases hc : c = 10
      · simp [lns, hc]
        rw [ih]
        by_cases ht : t = []
        · simp [ht, lns]
        · have : 0 < (lns t).length := List.length_pos_iff.2 (lns_ne ht)
          simp [ht]; omega
      · cases hq : lns r with
        | nil => exact absurd hq hl
        | cons y q =>
          cases hq' : lns (r ++ t) with
          | nil => exact absurd hq' hl'
          | cons y' q' => rw [hq, hq'] at ih; simp [lns, hc, hq, hq'] at ih ⊢; exact ih
/-- how many: the bytes 10, and one more, if the last line is open -/
theorem lns_count : ∀ s : List UInt8, (lns s).length = s.count 10 + (if closed s then 0 else 1)
  | [] => by simp [lns, closed]
  | b :: r => by
    have ih := lns_count r
    by_cases hr : r = []
    · subst hr
      by_cases hb : b = 10 <;> simp [lns, closed, hb]
    · rw [closed_cons hr]
      by_cases hb : b = 10
      · simp [lns, hb, ih]; omega
      · have hl := lns_ne hr
        cases hq : lns r with
        | nil => exact absurd hq hl
        | cons y q => rw [hq] at ih; simp [lns, hb, hq] at ih ⊢; exact ih
theorem lns_each_ne (s : List UInt8) : ∀ x ∈ lns s, x ≠ [] := by
  induction s with
  | nil => simp [lns]
  | cons b r ih =>
    unfold lns
    by_cases hb : b = 10
    · simp [hb]; exact ih
    · simp only [hb, if_false]
      cases hl : lns r with
      | nil => simp
      | cons h t => rw [hl] at ih; simp at ih ⊢; exact ih.2
/-- one line alone -/
theorem one_iff : ∀ x : List UInt8, (lns x).length = 1 ↔ lns x = [x] := by
  intro x
  constructor
  · intro h
    obtain ⟨y, hy⟩ := List.length_eq_one_iff.1 h
    have := lns_flat x
    rw [hy] at this
    simp at this
    rw [hy, this]
  · intro h; rw [h]; rfl
theorem one_iff' (x : List UInt8) : (lns x).length = 1 ↔ x ≠ [] ∧ 10 ∉ x.dropLast := by
  induction x with
  | nil => simp [lns]
  | cons b r ih =>
    by_cases hr : r = []
    · subst hr
      by_cases hb : b = 10 <;> simp [lns, hb]
    · have hl := lns_ne hr
      rw [List.dropLast_cons_of_ne_nil hr]
      by_cases hb : b = 10
      · have : 0 < (lns r).length := List.length_pos_iff.2 hl
        simp [lns, hb]
        exact hl
      · cases hq : lns r with
        | nil => exact absurd hq hl
        | cons y q =>
          rw [hq] at ih
          simp [lns, hb, hq, hr] at ih ⊢
          rw [ih]
          simp [Ne.symm hb]
/-- each line of a text is one, closed if it isn't the last one -/
theorem lns_right : ∀ s : List UInt8, ∀ (q : List (List UInt8)) (x : List UInt8) (t : List (List UInt8)), lns s = q ++ x :: t → lns x = [x] ∧ (t ≠ [] → closed x = true)
  | [], q, x, t, h => by simp [lns] at h
  | b :: r, q, x, t, h => by
    have ih := lns_right r
    by_cases hb : b = 10
    · simp only [lns, hb, if_true] at h
      cases q with
      | nil =>
        simp at h
        obtain ⟨rfl, rfl⟩ := h
        exact ⟨by simp [lns], fun _ => by simp [closed]⟩
      | cons y q =>
        simp at h
        exact ih q x t h.2
    · simp only [lns, hb, if_false] at h
      cases hl : lns r with
      | nil =>
        rw [hl] at h
        cases q with
        | nil => simp at h; obtain ⟨rfl, rfl⟩ := h; exact ⟨by simp [lns, hb], fun h => absurd rfl h⟩
        | cons y q => simp at h
      | cons y u =>
        rw [hl] at h
        cases q with
        | nil =>
          simp at h
          obtain ⟨rfl, rfl⟩ := h
          obtain ⟨e1, e2⟩ := ih [] y u (by rw [hl]; rfl)
          have hy : y ≠ [] := lns_each_ne r y (by rw [hl]; simp)
          exact ⟨by simp [lns, hb, e1], fun hu => by rw [closed_cons hy]; exact e2 hu⟩
        | cons z q =>
          simp at h
          exact ih (y :: q) x t (by rw [hl, h.2]; rfl)
theorem right_lns (s : List UInt8) : right (lns s) = true := by
  unfold right
  rw [List.all_eq_true]
  intro i hi
  have hi := List.mem_range.1 hi
  have e : lns s = (lns s).take i ++ (lns s)[i] :: (lns s).drop (i + 1) := by
    rw [← List.drop_eq_getElem_cons hi, List.take_append_drop]
  obtain ⟨e1, e2⟩ := lns_right s _ _ _ e
  unfold okAt
  have eg : (lns s).getD i [] = (lns s)[i] := by simp [List.getD_eq_getElem?_getD, hi]
  rw [eg, e1]
  by_cases hl : i + 1 < (lns s).length
  · have hne : (lns s).drop (i + 1) ≠ [] := by
      intro h
      have := congrArg List.length h
      simp at this
      omega
    simp [e2 hne]
  · simp [hl]
theorem right_cons (x : List UInt8) (t : List (List UInt8)) : right (x :: t) = ((lns x).length == 1 && (t.isEmpty || closed x) && right t) := by
  unfold right
  rw [List.length_cons, List.range_succ_eq_map, List.all_cons, List.all_map]
  have e0 : okAt (x :: t) 0 = ((lns x).length == 1 && (t.isEmpty || closed x)) := by
    unfold okAt
    cases t <;> simp
  have e1 : (okAt (x :: t) ∘ Nat.succ) = okAt t := by
    funext i
    simp [okAt]
  rw [e0, e1]
/-- right lines, joined, are split; lines that come of a text are right -/
theorem right_iff (l : List (List UInt8)) : right l = decide (lns l.flatten = l) := by
  by_cases h : lns l.flatten = l
  · rw [decide_eq_true h, ← h]; exact right_lns _
  · rw [decide_eq_false h]
    rcases Bool.eq_false_or_eq_true (right l) with hr | hr
    · refine absurd ?_ h
      clear h
      induction l with
      | nil => rfl
      | cons x t ih =>
        rw [right_cons] at hr
        simp only [Bool.and_eq_true, beq_iff_eq, Bool.or_eq_true, List.isEmpty_iff] at hr
        have hx := (one_iff x).1 hr.1.1
        rcases hr.1.2 with ht | hc
        · subst ht; simp [hx]
        · rw [List.flatten_cons, lns_append _ _ hc, hx, ih hr.2]; rfl
    · exact hr
theorem binary_append (s t : List UInt8) : binary (s ++ t) = (binary s || binary t) := by simp [binary]
end Go.Proofs.Ytghnieddokhagaa.Li
namespace Go.Proofs.Ytghnieddokhagaa.Li
open Go Go.RowKit Go.Shelf Kt
attribute [local go_sem] Oper.semAt_some

theorem idx_any (l : List UInt8) (c : UInt8) (w : World) : Calls Try.prog 38 #[.string ⟨l.toArray⟩, .int .u8 (c.toNat : Int)] w fun e w' => e = .returned (.int .i64 (Lib.indexByte l c)) ∧ w' = w := by
  have h := Try.strings_IndexByte ⟨l.toArray⟩ (c.toNat : Int) w
  have e : ((c.toNat : Int)).toNat.toUInt8 = c := by simp
  rw [e] at h
  exact h

set_option maxHeartbeats 400000 in
theorem first_any (l : List UInt8) (w : World) (hl : l.length ≤ 9223372036854775807) : Calls Try.prog 62 #[.string ⟨l.toArray⟩] w fun e w' => e = .returned (.int .i64 (fst l : Int)) ∧ w' = w := by
  have hf := fst_index l
  have hge := Lib.indexByte_ge l 10
  have hle := fst_le l
  have hx := fun w => idx_any l 10 w
  obtain ⟨x, hxe⟩ : ∃ x, x = Lib.indexByte l 10 := ⟨_, rfl⟩
  rw [← hxe] at hf hge
  have Hx := hide hx
  have Hxe := hide hxe
  clear hx hxe
  by_cases h0 : 0 ≤ x
  · rw [if_pos h0] at hf
    have hb : x + 1 ≤ 9223372036854775807 := by omega
    have Hf := hide hf
    clear hf hle
    go_enter Try.func62, Try.ntmps62
    go_wp2_with fail
    refine (Hx.out _).mono ?_
    rintro e w' ⟨rfl, rfl⟩
    rw [← Hxe.out]
    go_wp2
    go_ret
    exact ⟨by rw [Hf.out]; rfl, rfl⟩
  · rw [if_neg h0] at hf
    have Hf := hide hf
    clear hf hle
    go_enter Try.func62, Try.ntmps62
    go_wp2_with fail
    refine (Hx.out _).mono ?_
    rintro e w' ⟨rfl, rfl⟩
    rw [← Hxe.out]
    go_wp2
    go_ret
    exact ⟨by rw [Hf.out]; rfl, rfl⟩

set_option maxHeartbeats 400000 in
theorem each_any (l : List UInt8) (w : World) :
    Calls Try.prog 41 #[.string ⟨l.toArray⟩] w fun e w' => e = .returned (.func (.func 61) #[] #[.pointer (some ⟨w.heap.size, 0, none⟩)]) ∧ w' = w.alloc (.cells #[.string ⟨l.toArray⟩] 9) := by
  go_enter Try.func41, Try.ntmps41
  go_wp2
  go_ret
  exact ⟨rfl, rfl⟩

theorem cut_front (l : List UInt8) (k : Nat) (_h : k ≤ l.length) : (ByteArray.mk l.toArray).extract 0 k = ⟨(l.take k).toArray⟩ := by
  apply ByteArray.ext
  simp
theorem cut_back (l : List UInt8) (k : Nat) (_h : k ≤ l.length) : (ByteArray.mk l.toArray).extract k l.length = ⟨(l.drop k).toArray⟩ := by
  apply ByteArray.ext
  simp [List.take_of_length_le]
def txtOf : Value → List UInt8 | .string s => s.data.toList | _ => []

set_option maxRecDepth 100000 in
set_option maxHeartbeats 1000000 in
theorem each_stops (n : Nat) (hn : 1 ≤ n) (Bs n₀ : Nat) (s : List UInt8) (hl : s.length ≤ 9223372036854775807) (w : World) (hBs : Bs < w.heap.size) (hc : w.cell? ⟨Bs, 0, none⟩ = some (.string ⟨s.toArray⟩)) :
    SeqStopsK Fence.wide n Try.prog 61 #[.pointer (some ⟨Bs, 0, none⟩)] (fun x : List UInt8 => #[Value.string ⟨x.toArray⟩]) (Below n₀) (fun ys => ys = lns s) (fun pre => pre <+: lns s) (lns s).length w := by
  intro l J Jx W hW hJ hJx hY h0
  have hc' := (hW.cell (p := ⟨Bs, 0, none⟩) hBs).trans hc
  clear hJ hJx hW hc
  refine callsIn_of_wp Try.func61 rfl trivial ?_ rfl
  simp only [Try.ntmps61, List.size_toArray, List.length_cons, List.length_nil, Nat.reduceAdd, Nat.reduceSub, Array.replicate_succ, Array.replicate_zero, List.push_toArray, List.append_toArray, List.nil_append, List.cons_append]
  gi_wp2
  gi_loopw [3] (fun v wr => ∃ (pre : List (List UInt8)) (rest : List UInt8), v = .string ⟨rest.toArray⟩ ∧ lns s = pre ++ lns rest ∧ rest.length ≤ 9223372036854775807 ∧ J pre wr) (fun v _ => (txtOf v).length)
  case atStart => exact ⟨[], s, rfl, rfl, hl, h0⟩
  case round =>
    obtain ⟨pre, rest, rfl, he, hlr, hJs⟩ := hrel
    by_cases hr : rest = []
    · subst hr
      gi_wp2
      go_end0
      exact ⟨⟨_, rfl⟩, .inl ⟨_, rfl, by rw [he, lns_nil, List.append_nil]; exact hJs⟩⟩
    · have hcut := lns_cut hr
      obtain ⟨fn, tmps, assign, body, hy, hR⟩ := hY pre (rest.take (fst rest)) wr hJs (by rw [he, hcut]; simp)
      have hie : rest.isEmpty = false := by simpa using hr
      have hfl := fst_le rest
      have hfp := fst_pos hr
      have Hcut := hide hcut
      have He := hide he
      have Hr := hide hr
      clear hcut he hr
      obtain ⟨k, hk⟩ : ∃ k, k = fst rest := ⟨_, rfl⟩
      rw [← hk] at hfl hfp hy hR
      have ex := cut_front rest k hfl
      have ey := cut_back rest k hfl
      have Hk := hide hk
      clear hk
      gi_wp2_with (refine ⟨trivial, ?_⟩; gi_at_call 62; refine (callsIn_wide.2 (first_any _ _ hlr)).mono ?_; rintro e w' ⟨rfl, rfl⟩; rw [← Hk.out])
      refine hR.mono ?_
      rintro e W3 (⟨rfl, hJ3, hk3⟩ | ⟨rfl, hJx3⟩)
      · gi_wp2
        go_roundw
        case rel => exact ⟨pre ++ [rest.take k], rest.drop k, rfl, by rw [He.out, Hcut.out, ← Hk.out, List.append_assoc]; rfl, by rw [List.length_drop]; omega, hJ3⟩
        case measure => simp [txtOf]; omega
      · gi_wp2
        refine bodyPost_ret (results_none rfl _ _ _) rfl ?_
        exact ⟨⟨_, rfl⟩, .inr ⟨_, ⟨lns (rest.drop k), by rw [He.out, Hcut.out, Hk.out]; simp⟩, hJx3⟩⟩
end Go.Proofs.Ytghnieddokhagaa.Li
