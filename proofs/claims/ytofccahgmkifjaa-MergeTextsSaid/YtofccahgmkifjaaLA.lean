/-
  A text's lines, on lists of bytes alone: what splitting, joining, counting come to. No program is named here.
-/
import Derived.Lib.Bytealg
import Derived.Lib.Join
namespace Go.Proofs.Ytofccahgmkifjaa.Li
open Go

/-- how many bytes the first line has -/
def fst : List UInt8 → Nat
  | [] => 0
  | b :: r => if b = 10 then 1 else fst r + 1
/-- the lines -/
def lns : List UInt8 → List (List UInt8)
  | [] => []
  | b :: r => if b = 10 then [b] :: lns r else match lns r with
    | [] => [[b]]
    | h :: t => (b :: h) :: t
def closed (s : List UInt8) : Bool := s.getLast?.getD 10 == 10
def binary (s : List UInt8) : Bool := s.contains 0
/-- is line i of l one line, closed if it isn't the last one? -/
def okAt (l : List (List UInt8)) (i : Nat) : Bool := (lns (l.getD i [])).length == 1 && (!decide (i + 1 < l.length) || closed (l.getD i []))
def right (l : List (List UInt8)) : Bool := (List.range l.length).all (okAt l)

theorem fst_le : ∀ s : List UInt8, fst s ≤ s.length
  | [] => Nat.le_refl _
  | b :: r => by have := fst_le r; unfold fst; split <;> simp <;> omega
theorem fst_pos {s : List UInt8} (h : s ≠ []) : 0 < fst s := by
  cases s with
  | nil => exact absurd rfl h
  | cons b r => unfold fst; split <;> omega
theorem fst_index : ∀ s : List UInt8, (fst s : Int) = if 0 ≤ Lib.indexByte s 10 then Lib.indexByte s 10 + 1 else (s.length : Int)
  | [] => by simp [fst, Lib.indexByte]
  | b :: r => by
    have ih := fst_index r
    have hge := Lib.indexByte_ge r 10
    unfold fst Lib.indexByte
    by_cases hb : b = 10
    · simp [hb]
    · have hb' : (b == 10) = false := by simpa using hb
      simp only [hb, hb', if_false, Bool.false_eq_true]
      by_cases hm : Lib.indexByte r 10 = -1
      · simp [hm] at ih ⊢; omega
      · have hm' : (Lib.indexByte r 10 == -1) = false := by simpa using hm
        simp only [hm', Bool.false_eq_true, if_false]
        have h0 : 0 ≤ Lib.indexByte r 10 := by omega
        rw [if_pos h0] at ih
        rw [if_pos (by omega)]
        push_cast
        omega

theorem lns_cons (b : UInt8) (r : List UInt8) : lns (b :: r) = if b = 10 then [b] :: lns r else match lns r with
    | [] => [[b]]
    | h :: t => (b :: h) :: t := rfl
theorem fst_cons (b : UInt8) (r : List UInt8) : fst (b :: r) = if b = 10 then 1 else fst r + 1 := rfl
theorem lns_cut : ∀ {s : List UInt8}, s ≠ [] → lns s = s.take (fst s) :: lns (s.drop (fst s))
  | [], h => absurd rfl h
  | b :: r, _ => by
    rw [lns_cons, fst_cons]
    by_cases hb : b = 10
    · simp [hb]
    · simp only [hb, if_false, List.take_succ_cons, List.drop_succ_cons]
      by_cases hr : r = []
      · subst hr; rfl
      · rw [lns_cut hr]
theorem lns_nil : lns [] = [] := rfl
theorem lns_ne {s : List UInt8} (h : s ≠ []) : lns s ≠ [] := by rw [lns_cut h]; simp
theorem lns_flat : ∀ s : List UInt8, (lns s).flatten = s
  | [] => rfl
  | b :: r => by
    have ih := lns_flat r
    unfold lns
    by_cases hb : b = 10
    · simp [hb, ih]
    · simp only [hb, if_false]
      cases hl : lns r with
      | nil => rw [hl] at ih; simp at ih; simp [← ih]
      | cons h t => rw [hl] at ih; simp at ih ⊢; exact ih
theorem lns_len_le : ∀ s : List UInt8, (lns s).length ≤ s.length
  | [] => Nat.le_refl _
  | b :: r => by
    have ih := lns_len_le r
    unfold lns
    by_cases hb : b = 10
    · simp [hb]; exact ih
    · simp only [hb, if_false]
      cases hl : lns r with
      | nil => simp
      | cons h t => rw [hl] at ih; simp at ih ⊢; omega
/-- a line's length is bounded by the text's -/
theorem lns_mem_le {s x : List UInt8} (h : x ∈ lns s) : x.length ≤ s.length := by
  have := lns_flat s
  rw [← this]
  exact List.Sublist.length_le (List.sublist_flatten_of_mem h)

/-- the line that a byte comes to, from behind -/
theorem lns_snoc_open : ∀ (p : List UInt8) (b : UInt8), closed p = false → ∃ q x, lns p = q ++ [x] ∧ lns (p ++ [b]) = q ++ [x ++ [b]]
  | [], _, h => by simp [closed] at h
  | c :: r, b, h => by
    by_cases hr : r = []
    · subst hr
      have hc : c ≠ 10 := by simpa [closed] using h
      exact ⟨[], [c], by simp [lns, hc], by by_cases hb : b = 10 <;> simp [lns, hc, hb]⟩
    · have h' : closed r = false := by simpa [closed, List.getLast?_cons_of_ne_nil, List.getLast?_cons, hr, List.getLast?_eq_some_getLast hr] using h
      obtain ⟨q, x, e1, e2⟩ := lns_snoc_open r b h'
      by_cases hc : c = 10
      · exact ⟨[c] :: q, x, by simp [lns, hc, e1], by simp [lns, hc, e2]⟩
      · cases q with
        | nil => exact ⟨[], c :: x, by simp [lns, hc, e1], by simp [lns, hc, e2]⟩
        | cons y q => exact ⟨(c :: y) :: q, x, by simp [lns, hc, e1], by simp [lns, hc, e2]⟩
theorem closed_cons {c : UInt8} {r : List UInt8} (hr : r ≠ []) : closed (c :: r) = closed r := by
  simp [closed, List.getLast?_cons, List.getLast?_eq_some_getLast hr]
theorem closed_nil : closed [] = true := rfl
theorem closed_snoc (p : List UInt8) (b : UInt8) : closed (p ++ [b]) = (b == 10) := by simp [closed]
theorem lns_append : ∀ (p t : List UInt8), closed p = true → lns (p ++ t) = lns p ++ lns t
  | [], _, _ => rfl
  | c :: r, t, h => by
    by_cases hr : r = []
    · subst hr
      have hc : c = 10 := by simpa [closed] using h
      simp [lns, hc]
    · rw [closed_cons hr] at h
      have ih := lns_append r t h
      by_cases hc : c = 10
      · simp [lns, hc, ih]
      · have hl := lns_ne hr
        cases hq : lns r with
        | nil => exact absurd hq hl
        | cons y q => simp [lns, hc, ih, hq]
theorem lns_append_open (p t : List UInt8) (h : closed p = false) : (lns (p ++ t)).length = (lns p).length + (lns t).length - (if t = [] then 0 else 1) := by
  induction p with
  | nil => simp [closed] at h
  | cons c r ih =>
    by_cases hr : r = []
    · subst hr
      have hc : c ≠ 10 := by simpa [closed] using h
      by_cases ht : t = []
      · subst ht; simp [lns, hc]
      · have := lns_ne ht
        cases hq : lns t with
        | nil => exact absurd hq this
        | cons y q => simp [lns, hc, hq, ht]
    · rw [closed_cons hr] at h
      have ih := ih h
      have hl := lns_ne hr
      have hl' : lns (r ++ t) ≠ [] := lns_ne (by simp [hr])
      by_cases hc : c = 10
      · simp [lns, hc]
        rw [ih]
        by_cases ht : t = []
        · simp [ht, lns]
        · have : 0 < (lns t).length := List.length_pos_iff.2 (lns_ne ht)
          simp [ht]; omega
      · cases hq : lns r with
        | nil => exact absurd hq hl
        | cons y q =>
          cases hq' : lns (r ++ t) with
          | nil => exact absurd hq' hl'
          | cons y' q' => rw [hq, hq'] at ih; simp [lns, hc, hq, hq'] at ih ⊢; exact ih
/-- how many: the bytes 10, and one more, if the last line is open -/
theorem lns_count : ∀ s : List UInt8, (lns s).length = s.count 10 + (if closed s then 0 else 1)
  | [] => by simp [lns, closed]
  | b :: r => by
    have ih := lns_count r
    by_cases hr : r = []
    · subst hr
      by_cases hb : b = 10 <;> simp [lns, closed, hb]
    · rw [closed_cons hr]
      by_cases hb : b = 10
      · simp [lns, hb, ih]; omega
      · have hl := lns_ne hr
        cases hq : lns r with
        | nil => exact absurd hq hl
        | cons y q => rw [hq] at ih; simp [lns, hb, hq] at ih ⊢; exact ih
theorem lns_each_ne (s : List UInt8) : ∀ x ∈ lns s, x ≠ [] := by
  induction s with
  | nil => simp [lns]
  | cons b r ih =>
    unfold lns
    by_cases hb : b = 10
    · simp [hb]; exact ih
    · simp only [hb, if_false]
      cases hl : lns r with
      | nil => simp
      | cons h t => rw [hl] at ih; simp at ih ⊢; exact ih.2
/-- one line alone -/
theorem one_iff : ∀ x : List UInt8, (lns x).length = 1 ↔ lns x = [x] := by
  intro x
  constructor
  · intro h
    obtain ⟨y, hy⟩ := List.length_eq_one_iff.1 h
    have := lns_flat x
    rw [hy] at this
    simp at this
    rw [hy, this]
  · intro h; rw [h]; rfl
theorem one_iff' (x : List UInt8) : (lns x).length = 1 ↔ x ≠ [] ∧ 10 ∉ x.dropLast := by
  induction x with
  | nil => simp [lns]
  | cons b r ih =>
    by_cases hr : r = []
    · subst hr
      by_cases hb : b = 10 <;> simp [lns, hb]
    · have hl := lns_ne hr
      rw [List.dropLast_cons_of_ne_nil hr]
      by_cases hb : b = 10
      · have : 0 < (lns r).length := List.length_pos_iff.2 hl
        simp [lns, hb]
        exact hl
      · cases hq : lns r with
        | nil => exact absurd hq hl
        | cons y q =>
          rw [hq] at ih
          simp [lns, hb, hq, hr] at ih ⊢
          rw [ih]
          simp [Ne.symm hb]
/-- each line of a text is one, closed if it isn't the last one -/
theorem lns_right : ∀ s : List UInt8, ∀ (q : List (List UInt8)) (x : List UInt8) (t : List (List UInt8)), lns s = q ++ x :: t → lns x = [x] ∧ (t ≠ [] → closed x = true)
  | [], q, x, t, h => by simp [lns] at h
  | b :: r, q, x, t, h => by
    have ih := lns_right r
    by_cases hb : b = 10
    · simp only [lns, hb, if_true] at h
      cases q with
      | nil =>
        simp at h
        obtain ⟨rfl, rfl⟩ := h
        exact ⟨by simp [lns], fun _ => by simp [closed]⟩
      | cons y q =>
        simp at h
        exact ih q x t h.2
    · simp only [lns, hb, if_false] at h
      cases hl : lns r with
      | nil =>
        rw [hl] at h
        cases q with
        | nil => simp at h; obtain ⟨rfl, rfl⟩ := h; exact ⟨by simp [lns, hb], fun h => absurd rfl h⟩
        | cons y q => simp at h
      | cons y u =>
        rw [hl] at h
        cases q with
        | nil =>
          simp at h
          obtain ⟨rfl, rfl⟩ := h
          obtain ⟨e1, e2⟩ := ih [] y u (by rw [hl]; rfl)
          have hy : y ≠ [] := lns_each_ne r y (by rw [hl]; simp)
          exact ⟨by simp [lns, hb, e1], fun hu => by rw [closed_cons hy]; exact e2 hu⟩
        | cons z q =>
          simp at h
          exact ih (y :: q) x t (by rw [hl, h.2]; rfl)
theorem right_lns (s : List UInt8) : right (lns s) = true := by
  unfold right
  rw [List.all_eq_true]
  intro i hi
  have hi := List.mem_range.1 hi
  have e : lns s = (lns s).take i ++ (lns s)[i] :: (lns s).drop (i + 1) := by
    rw [← List.drop_eq_getElem_cons hi, List.take_append_drop]
  obtain ⟨e1, e2⟩ := lns_right s _ _ _ e
  unfold okAt
  have eg : (lns s).getD i [] = (lns s)[i] := by simp [List.getD_eq_getElem?_getD, hi]
  rw [eg, e1]
  by_cases hl : i + 1 < (lns s).length
  · have hne : (lns s).drop (i + 1) ≠ [] := by
      intro h
      have := congrArg List.length h
      simp at this
      omega
    simp [e2 hne]
  · simp [hl]
theorem right_cons (x : List UInt8) (t : List (List UInt8)) : right (x :: t) = ((lns x).length == 1 && (t.isEmpty || closed x) && right t) := by
  unfold right
  rw [List.length_cons, List.range_succ_eq_map, List.all_cons, List.all_map]
  have e0 : okAt (x :: t) 0 = ((lns x).length == 1 && (t.isEmpty || closed x)) := by
    unfold okAt
    cases t <;> simp
  have e1 : (okAt (x :: t) ∘ Nat.succ) = okAt t := by
    funext i
    simp [okAt]
  rw [e0, e1]
/-- right lines, joined, are split; lines that come of a text are right -/
theorem right_iff (l : List (List UInt8)) : right l = decide (lns l.flatten = l) := by
  by_cases h : lns l.flatten = l
  · rw [decide_eq_true h, ← h]; exact right_lns _
  · rw [decide_eq_false h]
    rcases Bool.eq_false_or_eq_true (right l) with hr | hr
    · refine absurd ?_ h
      clear h
      induction l with
      | nil => rfl
      | cons x t ih =>
        rw [right_cons] at hr
        simp only [Bool.and_eq_true, beq_iff_eq, Bool.or_eq_true, List.isEmpty_iff] at hr
        have hx := (one_iff x).1 hr.1.1
        rcases hr.1.2 with ht | hc
        · subst ht; simp [hx]
        · rw [List.flatten_cons, lns_append _ _ hc, hx, ih hr.2]; rfl
    · exact hr
theorem binary_append (s t : List UInt8) : binary (s ++ t) = (binary s || binary t) := by simp [binary]
end Go.Proofs.Ytofccahgmkifjaa.Li
