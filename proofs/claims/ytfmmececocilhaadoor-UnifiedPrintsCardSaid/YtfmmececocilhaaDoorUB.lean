/-
  Hunks as a text, on lists alone: what is printed, and how a text's lines are read.
-/
import Derived.Test.YtfmmececocilhaaDoorUA
namespace Go.Proofs.YtfmmececocilhaaDoor.Un
open Go Df Li Hu

/-- the line behind one that has no end -/
def markB : List UInt8 := [92, 32, 78, 111, 32, 110, 101, 119, 108, 105, 110, 101, 32, 97, 116, 32, 101, 110, 100, 32, 111, 102, 32, 102, 105, 108, 101, 10]
def lineT (x : List UInt8) : List UInt8 := if closed x then x else x ++ 10 :: markB
def hkT (h : Hk) : List UInt8 := headT h.a h.an h.b h.bn ++ (h.lines.map lineT).flatten
def smlB (p many : Int) : Bool := decide (max (max p many) (plc p many) < 2147483648)
def tell (h : Hk) : Bool := (hright h && (smlB h.a h.an && smlB h.b h.bn)) && h.lines.all (fun x => (lns x).length == 1)
def prt (l : List Hk) : List UInt8 := if l.all tell then (l.map hkT).flatten else []

/-- a reader: its hunks, the last one ahead; how many lines the last one lacks -/
structure St where
  rv : List Hk
  old : Int
  fresh : Int
def ahd : List Hk → List UInt8
  | [] => []
  | e :: _ => e.lines.getLast?.getD []
def noEnd (s : St) (x : List UInt8) : Option St := match s.rv with
  | [] => none
  | e :: V => if x = markB ∧ Lib.hasSuffix (ahd (e :: V)) [10] = true then some ⟨⟨e.a, e.an, e.b, e.bn, e.lines.dropLast ++ [(ahd (e :: V)).dropLast]⟩ :: V, s.old, s.fresh⟩ else none
def sds (x : List UInt8) : Int × Int := if sg x = 32 then (1, 1) else if sg x = 45 then (1, 0) else if sg x = 43 then (0, 1) else (0, 0)
def stepH (s : St) (x : List UInt8) : Option St := match hd x with
  | some h => some ⟨h :: s.rv, h.an, h.bn⟩
  | none => noEnd s x
def stepL (s : St) (x : List UInt8) : Option St :=
  if (sds x).1 + (sds x).2 = 0 then noEnd s x else match s.rv with
  | [] => none
  | e :: V => if closed x = true ∧ ¬ (sg x = 45 ∧ sg (ahd (e :: V)) = 43) ∧ (sds x).1 ≤ s.old ∧ (sds x).2 ≤ s.fresh then some ⟨⟨e.a, e.an, e.b, e.bn, e.lines ++ [x]⟩ :: V, s.old - (sds x).1, s.fresh - (sds x).2⟩ else none
def step (s : St) (x : List UInt8) : Option St := if s.old = 0 ∧ s.fresh = 0 then stepH s x else stepL s x
def run : St → Ls → Nat → Nat × Option St
  | s, [], n => (n, some s)
  | s, x :: l, n => match step s x with
    | none => (n + 1, none)
    | some s' => run s' l (n + 1)
def fin (r : Nat × Option St) : List Hk × Nat × Nat := match r.2 with
  | none => ([], r.1, 3)
  | some s => if s.old = 0 ∧ s.fresh = 0 then (s.rv.reverse, 0, 0) else ([], r.1 + 1, 2)
def parse (t : List UInt8) : List Hk × Nat × Nat := fin (run ⟨[], 0, 0⟩ (lns t) 0)

/-- one line -/
theorem lns_one : ∀ (y : List UInt8) (b : UInt8), 10 ∉ y → lns (y ++ [b]) = [y ++ [b]]
  | [], b, _ => by by_cases hb : b = 10 <;> simp [lns, hb]
  | c :: y, b, h => by
    have hc : c ≠ 10 := fun e => h (by rw [e]; exact List.mem_cons_self)
    rw [List.cons_append, lns_cons, if_neg hc, lns_one y b (fun hm => h (List.mem_cons_of_mem _ hm))]
theorem one_parts : ∀ {x : List UInt8}, lns x = [x] → ∃ y b, x = y ++ [b] ∧ 10 ∉ y
  | [], h => by simp [lns] at h
  | c :: r, h => by
    by_cases hr : r = []
    · exact ⟨[], c, by rw [hr]; rfl, by simp⟩
    · rw [lns_cons] at h
      by_cases hc : c = 10
      · rw [if_pos hc] at h
        injection h with h1 h2
        exact absurd h2 (lns_ne hr)
      · rw [if_neg hc] at h
        cases hq : lns r with
        | nil => exact absurd hq (lns_ne hr)
        | cons u q =>
          rw [hq] at h
          injection h with h1 h2
          injection h1 with _ h1
          subst h1 h2
          obtain ⟨y, b, h3, h4⟩ := one_parts hq
          exact ⟨c :: y, b, by rw [h3]; rfl, by simp only [List.mem_cons, not_or]; exact ⟨fun e => hc e.symm, h4⟩⟩
theorem one_ne {x : List UInt8} (h : lns x = [x]) : x ≠ [] := by rintro rfl; simp [lns] at h
theorem one_len {x : List UInt8} : ((lns x).length == 1) = true ↔ lns x = [x] := by
  constructor
  · intro h
    have h1 := lns_flat x
    match hq : lns x, h with
    | [y], _ => rw [hq] at h1; simp at h1; rw [h1]
  · intro h; rw [h]; rfl
theorem closed_one {y : List UInt8} {b : UInt8} : closed (y ++ [b]) = (b == 10) := closed_snoc y b
def lineL (x : List UInt8) : Ls := if closed x then [x] else [x ++ [10], markB]
def hkL (h : Hk) : Ls := headT h.a h.an h.b h.bn :: (h.lines.map lineL).flatten
theorem mark_one : lns markB = [markB] := lns_one [92, 32, 78, 111, 32, 110, 101, 119, 108, 105, 110, 101, 32, 97, 116, 32, 101, 110, 100, 32, 111, 102, 32, 102, 105, 108, 101] 10 (by decide)
theorem mark_closed : closed markB = true := by decide
theorem lineL_flat (x : List UInt8) : (lineL x).flatten = lineT x := by
  unfold lineL lineT
  split
  · simp
  · simp
theorem lines_flat : ∀ l : Ls, ((l.map lineL).flatten).flatten = (l.map lineT).flatten
  | [] => rfl
  | x :: l => by simp only [List.map_cons, List.flatten_cons, List.flatten_append, lineL_flat, lines_flat l]
theorem hkL_flat (h : Hk) : (hkL h).flatten = hkT h := by rw [hkL, List.flatten_cons, lines_flat, hkT]
theorem hks_flat : ∀ l : List Hk, ((l.map hkL).flatten).flatten = (l.map hkT).flatten
  | [] => rfl
  | h :: l => by simp only [List.map_cons, List.flatten_cons, List.flatten_append, hkL_flat, hks_flat l]
theorem open_no {x : List UInt8} (h : lns x = [x]) (hc : closed x = false) : 10 ∉ x := by
  obtain ⟨y, b, rfl, hy⟩ := one_parts h
  rw [closed_one] at hc
  have hb : b ≠ 10 := by simpa using hc
  simp only [List.mem_append, List.mem_singleton, not_or]
  exact ⟨hy, fun e => hb e.symm⟩
theorem lineT_lns {x : List UInt8} (h : lns x = [x]) (r : List UInt8) : lns (lineT x ++ r) = lineL x ++ lns r := by
  unfold lineT lineL
  cases hc : closed x with
  | true => rw [if_pos rfl, if_pos rfl, lns_append x r hc, h]
  | false =>
    have e : x ++ 10 :: markB ++ r = (x ++ [10]) ++ (markB ++ r) := by simp
    rw [if_neg (by simp), if_neg (by simp), e, lns_append _ _ (by rw [closed_snoc]; rfl), lns_append _ _ mark_closed, mark_one, lns_one x 10 (open_no h hc)]
    rfl
theorem linesT_lns : ∀ (l : Ls) (r : List UInt8), (∀ x ∈ l, lns x = [x]) → lns ((l.map lineT).flatten ++ r) = (l.map lineL).flatten ++ lns r
  | [], r, _ => rfl
  | x :: l, r, h => by
    simp only [List.map_cons, List.flatten_cons, List.append_assoc]
    rw [lineT_lns (h x List.mem_cons_self), linesT_lns l r (fun y hy => h y (List.mem_cons_of_mem _ hy))]
theorem head_no {a an b bn : Int} (h : Sml a an) (h' : Sml b bn) : ∃ y, headT a an b bn = y ++ [10] ∧ 10 ∉ y := by
  refine ⟨opensB ++ (sideT a an ++ (plusB ++ (sideT b bn ++ [32, 64, 64]))), by simp [headT, closesB], ?_⟩
  simp only [List.mem_append, not_or]
  exact ⟨by decide, side_not h 10 (by decide), by decide, side_not h' 10 (by decide), by decide⟩
theorem head_lns {a an b bn : Int} (h : Sml a an) (h' : Sml b bn) (r : List UInt8) : lns (headT a an b bn ++ r) = headT a an b bn :: lns r := by
  obtain ⟨y, e, hy⟩ := head_no h h'
  rw [e, lns_append _ _ (by rw [closed_snoc]; rfl), lns_one y 10 hy]
  rfl
theorem smlB_iff {p m : Int} (h0 : 0 ≤ p) (h1 : 0 ≤ m) : smlB p m = true ↔ Sml p m := by
  unfold smlB Sml plc
  rw [decide_eq_true_iff]
  omega
theorem hright_parts {h : Hk} (e : hright h = true) : okF false h.lines = true ∧ 0 ≤ h.a ∧ 0 ≤ h.b ∧ h.an = many 45 h.lines ∧ h.bn = many 43 h.lines := by
  unfold hright at e
  simp only [Bool.and_eq_true, decide_eq_true_eq] at e
  exact ⟨e.1, e.2.1.1.1, e.2.1.1.2, e.2.1.2, e.2.2⟩
theorem tell_iff {h : Hk} : tell h = true ↔ okF false h.lines = true ∧ Sml h.a h.an ∧ Sml h.b h.bn ∧ h.an = many 45 h.lines ∧ h.bn = many 43 h.lines ∧ ∀ x ∈ h.lines, lns x = [x] := by
  constructor
  · intro e
    unfold tell at e
    rw [Bool.and_eq_true, Bool.and_eq_true, Bool.and_eq_true] at e
    obtain ⟨⟨e1, e2, e3⟩, e4⟩ := e
    obtain ⟨p1, p2, p3, p4, p5⟩ := hright_parts e1
    exact ⟨p1, (smlB_iff p2 (by omega)).1 e2, (smlB_iff p3 (by omega)).1 e3, p4, p5, fun x hx => one_len.1 (List.all_eq_true.1 e4 x hx)⟩
  · rintro ⟨p1, p2, p3, p4, p5, p6⟩
    have hr : hright h = true := by
      unfold hright
      simp only [Bool.and_eq_true, decide_eq_true_eq]
      exact ⟨p1, ⟨⟨p2.1, p3.1⟩, p4⟩, p5⟩
    rw [tell, hr, (smlB_iff p2.1 p2.2.1).2 p2, (smlB_iff p3.1 p3.2.1).2 p3, Bool.true_and, Bool.true_and, Bool.true_and]
    exact List.all_eq_true.2 fun x hx => one_len.2 (p6 x hx)
theorem hkT_lns {h : Hk} (e : tell h = true) (r : List UInt8) : lns (hkT h ++ r) = hkL h ++ lns r := by
  obtain ⟨_, p2, p3, _, _, p6⟩ := tell_iff.1 e
  rw [hkT, List.append_assoc, head_lns p2 p3, linesT_lns _ _ p6]
  rfl
theorem hksT_lns : ∀ (l : List Hk) (r : List UInt8), l.all tell = true → lns ((l.map hkT).flatten ++ r) = (l.map hkL).flatten ++ lns r
  | [], r, _ => rfl
  | h :: l, r, e => by
    rw [List.all_cons, Bool.and_eq_true] at e
    simp only [List.map_cons, List.flatten_cons, List.append_assoc]
    rw [hkT_lns e.1, hksT_lns l r e.2]
theorem prt_lns {l : List Hk} (e : l.all tell = true) : lns (prt l) = (l.map hkL).flatten := by
  have := hksT_lns l [] e
  rw [prt, if_pos e]
  simpa [lns] using this
end Go.Proofs.YtfmmececocilhaaDoor.Un
