/-
  Hunks, their parts, what they tell, the other way round: on lists alone.
-/
import Derived.Test.YtfmmececocilhaaEB
namespace Go.Proofs.Ytfmmececocilhaa.Hu
open Df

/-- a hunk -/
structure Hk where
  a : Int
  an : Int
  b : Int
  bn : Int
  lines : Ls
/-- a line's sign -/
def sg (x : List UInt8) : UInt8 := x.headD 0
/-- how many lines stay, or have a sign -/
def many (s : UInt8) : Ls → Nat
  | [] => 0
  | x :: l => (if sg x = 32 ∨ sg x = s then 1 else 0) + many s l
theorem many_append (s : UInt8) : ∀ l r : Ls, many s (l ++ r) = many s l + many s r
  | [], r => by simp [many]
  | x :: l, r => by rw [List.cons_append, many, many, many_append s l r]; omega
theorem many_le (s : UInt8) : ∀ l : Ls, many s l ≤ l.length
  | [] => Nat.le_refl _
  | x :: l => by rw [many, List.length_cons]; have := many_le s l; split <;> omega
theorem many_snoc (s : UInt8) (L : Ls) (k : Nat) (h : k < L.length) : many s (L.take (k + 1)) = many s (L.take k) + (if sg (L.getD k []) = 32 ∨ sg (L.getD k []) = s then 1 else 0) := by
  rw [List.take_succ_eq_append_getElem h, many_append]; simp [many, List.getElem?_eq_getElem h]
theorem many_take (s : UInt8) (L : Ls) (k : Nat) : many s (L.take k) ≤ many s L := by
  have h := many_append s (L.take k) (L.drop k)
  rw [List.take_append_drop] at h
  omega
/-- may lines stand so; p: is the one ahead one that comes? -/
def okF : Bool → Ls → Bool
  | _, [] => true
  | p, x :: l => (decide (sg x = 32 ∨ sg x = 45 ∨ sg x = 43) && !(decide (sg x = 45) && p)) && okF (decide (sg x = 43)) l
def hright (h : Hk) : Bool := okF false h.lines && (((decide (0 ≤ h.a) && decide (0 ≤ h.b)) && decide (h.an = many 45 h.lines)) && decide (h.bn = many 43 h.lines))

/-- lines that stay, go, and come, without signs -/
structure Pt where
  st : Ls
  gn : Ls
  cm : Ls
def mk (s : UInt8) (l : Ls) : Ls := l.map (s :: ·)
def layP (p : Pt) : Ls := mk 32 p.st ++ (mk 45 p.gn ++ mk 43 p.cm)
def lay : List Pt → Ls
  | [] => []
  | p :: r => layP p ++ lay r
theorem mk_len (s : UInt8) (l : Ls) : (mk s l).length = l.length := by simp [mk]
theorem mk_nil (s : UInt8) : mk s [] = [] := rfl
theorem mk_cons (s : UInt8) (x : List UInt8) (l : Ls) : mk s (x :: l) = (s :: x) :: mk s l := rfl
theorem mk_append (s : UInt8) (l r : Ls) : mk s (l ++ r) = mk s l ++ mk s r := by simp [mk]
theorem mk_eq_nil {s : UInt8} {l : Ls} : mk s l = [] ↔ l = [] := by simp [mk]
theorem sg_mk (s : UInt8) (x : List UInt8) : sg (s :: x) = s := rfl
theorem lay_append : ∀ p q : List Pt, lay (p ++ q) = lay p ++ lay q
  | [], q => rfl
  | x :: p, q => by rw [List.cons_append, lay, lay, lay_append p q, List.append_assoc]
theorem many_mk (s t : UInt8) (l : Ls) : many s (mk t l) = if t = 32 ∨ t = s then l.length else 0 := by
  induction l with
  | nil => rw [mk_nil, many]; split <;> rfl
  | cons x l ih => rw [mk_cons, many, sg_mk, ih]; split <;> simp <;> omega
theorem many_old (p : Pt) : many 45 (layP p) = p.st.length + p.gn.length := by
  rw [layP, many_append, many_append, many_mk, many_mk, many_mk]; simp
theorem many_new (p : Pt) : many 43 (layP p) = p.st.length + p.cm.length := by
  rw [layP, many_append, many_append, many_mk, many_mk, many_mk]; simp
/-- each part but the last has lines that go or come, each but the first lines that stay, and none is empty -/
def Good : List Pt → Prop
  | [] => True
  | p :: r => (p.st ≠ [] ∨ p.gn ≠ [] ∨ p.cm ≠ []) ∧ (∀ q t, r = q :: t → (p.gn ≠ [] ∨ p.cm ≠ []) ∧ q.st ≠ []) ∧ Good r
theorem Good.tail {p : Pt} {r : List Pt} (h : Good (p :: r)) : Good r := h.2.2
/-- a text of lines begins with one that stays, or is empty -/
def Stay : Ls → Prop
  | [] => True
  | x :: _ => sg x = 32
theorem Good.stay {p : Pt} {r : List Pt} (h : Good (p :: r)) : Stay (lay r) := by
  cases r with
  | nil => trivial
  | cons q t =>
    obtain ⟨_, h2⟩ := h.2.1 q t rfl
    rw [lay, layP]
    cases hq : q.st with
    | nil => exact absurd hq h2
    | cons x s => exact rfl
theorem Good.last {p : Pt} {r : List Pt} (h : Good (p :: r)) (hg : p.gn = []) (hc : p.cm = []) : r = [] := by
  cases r with
  | nil => rfl
  | cons q t =>
    obtain ⟨h1, _⟩ := h.2.1 q t rfl
    rcases h1 with h1 | h1
    · exact absurd hg h1
    · exact absurd hc h1
theorem okF_cons (p : Bool) (x : List UInt8) (l : Ls) : okF p (x :: l) = true ↔ ((sg x = 32 ∨ sg x = 45 ∨ sg x = 43) ∧ (sg x = 45 → p = false)) ∧ okF (decide (sg x = 43)) l = true := by
  rw [okF, Bool.and_eq_true, Bool.and_eq_true, decide_eq_true_eq, Bool.not_eq_true', Bool.and_eq_false_iff]
  simp only [decide_eq_false_iff_not]
  constructor
  · rintro ⟨⟨h1, h2⟩, h3⟩
    exact ⟨⟨h1, fun h => h2.resolve_left fun k => k h⟩, h3⟩
  · rintro ⟨⟨h1, h2⟩, h3⟩
    refine ⟨⟨h1, ?_⟩, h3⟩
    by_cases h : sg x = 45
    · exact .inr (h2 h)
    · exact .inl h
theorem sg_split {x : List UInt8} {s : UInt8} (h : sg x = s) (hs : s ≠ 0) : ∃ t, x = s :: t := by
  cases x with
  | nil => exact absurd h.symm hs
  | cons b t => exact ⟨t, by rw [show b = s from h]⟩
/-- lines that may stand are parts -/
theorem parts_of : ∀ (L : Ls) (p : Bool), okF p L = true → ∃ ps, Good ps ∧ L = lay ps ∧ (p = true → ∀ q t, ps = q :: t → q.st = [] → q.gn = [])
  | [], p, _ => ⟨[], trivial, rfl, fun _ q t h => by cases h⟩
  | x :: l, p, h => by
    obtain ⟨⟨h1, h2⟩, h3⟩ := (okF_cons p x l).1 h
    obtain ⟨ps, hg, hl, hp⟩ := parts_of l _ h3
    rcases h1 with h1 | h1 | h1
    · obtain ⟨t, rfl⟩ := sg_split h1 (by decide)
      cases ps with
      | nil => exact ⟨[⟨[t], [], []⟩], ⟨.inl (by simp), (fun q s h => by cases h), trivial⟩, by rw [hl]; rfl, fun _ q s h hq => by cases h; cases hq⟩
      | cons q r =>
        refine ⟨⟨t :: q.st, q.gn, q.cm⟩ :: r, ⟨.inl (by simp), fun q' s h => hg.2.1 q' s h, hg.2.2⟩, by rw [hl]; rfl, fun _ q s h hq => by cases h; cases hq⟩
    · obtain ⟨t, rfl⟩ := sg_split h1 (by decide)
      have hpf := h2 h1
      cases ps with
      | nil => exact ⟨[⟨[], [t], []⟩], ⟨.inr (.inl (by simp)), (fun q s h => by cases h), trivial⟩, by rw [hl]; rfl, fun h => by rw [hpf] at h; cases h⟩
      | cons q r =>
        cases hq : q.st with
        | nil =>
          refine ⟨⟨[], t :: q.gn, q.cm⟩ :: r, ⟨.inr (.inl (by simp)), fun q' s h => ⟨.inl (by simp), (hg.2.1 q' s h).2⟩, hg.2.2⟩, ?_, fun h => by rw [hpf] at h; cases h⟩
          rw [hl, lay, layP, hq]; rfl
        | cons y s =>
          exact ⟨⟨[], [t], []⟩ :: q :: r, ⟨.inr (.inl (by simp)), fun q' s' h => by cases h; exact ⟨.inl (by simp), by rw [hq]; simp⟩, hg⟩, by rw [hl]; rfl, fun h => by rw [hpf] at h; cases h⟩
    · obtain ⟨t, rfl⟩ := sg_split h1 (by decide)
      cases ps with
      | nil => exact ⟨[⟨[], [], [t]⟩], ⟨.inr (.inr (by simp)), (fun q s h => by cases h), trivial⟩, by rw [hl]; rfl, fun _ q s h _ => by cases h; rfl⟩
      | cons q r =>
        cases hq : q.st with
        | nil =>
          have hgn := hp (decide_eq_true h1) q r rfl hq
          refine ⟨⟨[], [], t :: q.cm⟩ :: r, ⟨.inr (.inr (by simp)), fun q' s h => ⟨.inr (by simp), (hg.2.1 q' s h).2⟩, hg.2.2⟩, ?_, fun _ q s h _ => by cases h; rfl⟩
          rw [hl, lay, layP, hq, hgn]; rfl
        | cons y s =>
          exact ⟨⟨[], [], [t]⟩ :: q :: r, ⟨.inr (.inr (by simp)), fun q' s' h => by cases h; exact ⟨.inr (by simp), by rw [hq]; simp⟩, hg⟩, by rw [hl]; rfl, fun _ q s h _ => by cases h; rfl⟩
theorem okF_stay : ∀ (l : Ls) (p : Bool) (X : Ls), okF p (mk 32 l ++ X) = match l with | [] => okF p X | _ :: _ => okF false X
  | [], _, _ => rfl
  | x :: l, p, X => by
    rw [mk_cons, List.cons_append, okF, sg_mk, okF_stay l]
    cases l <;> simp
theorem okF_gone : ∀ (l : Ls) (X : Ls), okF false (mk 45 l ++ X) = okF false X
  | [], _ => rfl
  | x :: l, X => by rw [mk_cons, List.cons_append, okF, sg_mk, show decide ((45 : UInt8) = 43) = false from rfl, okF_gone l]; rfl
theorem okF_come : ∀ (l : Ls) (p : Bool) (X : Ls), okF p (mk 43 l ++ X) = match l with | [] => okF p X | _ :: _ => okF true X
  | [], _, _ => rfl
  | x :: l, p, X => by
    rw [mk_cons, List.cons_append, okF, sg_mk, okF_come l]
    cases l <;> simp
theorem okF_false_of_stay {X : Ls} (h : Stay X) (p q : Bool) : okF p X = okF q X := by
  cases X with
  | nil => rfl
  | cons x l =>
    have hx : sg x = 32 := h
    rw [okF, okF, hx]; simp
/-- parts are lines that may stand -/
theorem okF_lay : ∀ ps : List Pt, Good ps → okF false (lay ps) = true
  | [], _ => rfl
  | p :: r, h => by
    have ih := okF_lay r h.tail
    have hs := h.stay
    rw [lay, layP, List.append_assoc, List.append_assoc, okF_stay]
    have e : okF false (mk 45 p.gn ++ (mk 43 p.cm ++ lay r)) = true := by
      rw [okF_gone, okF_come]
      cases p.cm with
      | nil => exact ih
      | cons x l => rw [← ih]; exact okF_false_of_stay hs _ _
    cases p.st <;> exact e

/-- the lines that have a sign, from the first one on, and what is behind them -/
theorem front_mk (s : UInt8) : ∀ (l X : Ls), (∀ x t, X = x :: t → sg x ≠ s) → (mk s l ++ X).takeWhile (fun x => decide (sg x = s)) = mk s l ∧ (mk s l ++ X).dropWhile (fun x => decide (sg x = s)) = X
  | [], X, h => by
    cases X with
    | nil => exact ⟨rfl, rfl⟩
    | cons x t =>
      have hd := decide_eq_false (h x t rfl)
      rw [mk_nil, List.nil_append, List.takeWhile_cons, List.dropWhile_cons, hd]
      exact ⟨rfl, rfl⟩
  | y :: l, X, h => by
    obtain ⟨h1, h2⟩ := front_mk s l X h
    rw [mk_cons, List.cons_append, List.takeWhile_cons, List.dropWhile_cons, sg_mk, h1, h2]
    simp
theorem ne_of_stay {X : Ls} (h : Stay X) {s : UInt8} (hs : s ≠ 32) : ∀ x t, X = x :: t → sg x ≠ s := by
  rintro x t rfl
  have hx : sg x = 32 := h
  rw [hx]
  exact fun e => hs e.symm
theorem ne_gone (cm X : Ls) (h : Stay X) : ∀ x t, mk 43 cm ++ X = x :: t → sg x ≠ 45 := by
  intro x t he
  cases cm with
  | nil => exact ne_of_stay h (by decide) x t he
  | cons c l =>
    rw [mk_cons, List.cons_append] at he
    injection he with h1 _
    rw [← h1, sg_mk]; decide
theorem ne_stay {p : Pt} {r : List Pt} (h : Good (p :: r)) : ∀ x t, mk 45 p.gn ++ (mk 43 p.cm ++ lay r) = x :: t → sg x ≠ 32 := by
  intro x t he
  cases hg : p.gn with
  | cons c l =>
    rw [hg, mk_cons, List.cons_append] at he
    injection he with h1 _
    rw [← h1, sg_mk]; decide
  | nil =>
    cases hc : p.cm with
    | cons c l =>
      rw [hg, hc, mk_nil, List.nil_append, mk_cons, List.cons_append] at he
      injection he with h1 _
      rw [← h1, sg_mk]; decide
    | nil =>
      rw [h.last hg hc, hg, hc] at he
      cases he

/-- what parts tell, from line 'at' on -/
def emitZ (pos del : Int) (ins : Ls) : List Ed := if del = 0 ∧ ins = [] then [] else [⟨pos, del, ins⟩]
def edP : Int → List Pt → List Ed
  | _, [] => []
  | z, p :: r => emitZ (z + p.st.length) p.gn.length p.cm ++ edP (z + p.st.length + p.gn.length) r
/-- the same, line by line; o: the edit that is being told -/
def edL : Int → Option Ed → Ls → List Ed
  | _, o, [] => o.toList
  | z, o, x :: l =>
    if sg x = 32 then o.toList ++ edL (z + 1) none l
    else if sg x = 45 then edL (z + 1) (some ⟨(o.getD ⟨z, 0, []⟩).pos, (o.getD ⟨z, 0, []⟩).del + 1, (o.getD ⟨z, 0, []⟩).ins⟩) l
    else edL z (some ⟨(o.getD ⟨z, 0, []⟩).pos, (o.getD ⟨z, 0, []⟩).del, (o.getD ⟨z, 0, []⟩).ins ++ [x.tail]⟩) l
theorem edL_stay : ∀ (l X : Ls) (z : Int), edL z none (mk 32 l ++ X) = edL (z + l.length) none X
  | [], X, z => by simp [mk_nil]
  | x :: l, X, z => by
    rw [mk_cons, List.cons_append, edL, sg_mk, if_pos rfl, edL_stay l]
    simp only [Option.toList_none, List.nil_append, List.length_cons]
    congr 1; omega
theorem edL_gone : ∀ (l X : Ls) (z : Int) (e : Ed), edL z (some e) (mk 45 l ++ X) = edL (z + l.length) (some ⟨e.pos, e.del + l.length, e.ins⟩) X
  | [], X, z, e => by simp [mk_nil]
  | x :: l, X, z, e => by
    rw [mk_cons, List.cons_append, edL, sg_mk, if_neg (by decide), if_pos rfl, edL_gone l]
    simp only [Option.getD_some, List.length_cons]
    congr 1
    · omega
    · congr 2; omega
theorem edL_come : ∀ (l X : Ls) (z : Int) (e : Ed), edL z (some e) (mk 43 l ++ X) = edL z (some ⟨e.pos, e.del, e.ins ++ l⟩) X
  | [], X, z, e => by simp [mk_nil]
  | x :: l, X, z, e => by
    rw [mk_cons, List.cons_append, edL, sg_mk, if_neg (by decide), if_neg (by decide), edL_come l]
    simp
theorem edL_open (X : Ls) (z : Int) (x : List UInt8) (h : sg x ≠ 32) : edL z none (x :: X) = edL z (some ⟨z, 0, []⟩) (x :: X) := by
  rw [edL, edL, if_neg h, if_neg h]; simp
theorem edL_shut {X : Ls} (h : Stay X) (z : Int) (e : Ed) : edL z (some e) X = e :: edL z none X := by
  cases X with
  | nil => rfl
  | cons x l =>
    have hx : sg x = 32 := h
    rw [edL, edL, if_pos hx, if_pos hx]; rfl
theorem edL_lay : ∀ (ps : List Pt) (z : Int), Good ps → edL z none (lay ps) = edP z ps
  | [], z, _ => rfl
  | p :: r, z, h => by
    have ih := edL_lay r
    have hs := h.stay
    rw [lay, layP, List.append_assoc, List.append_assoc, edL_stay, edP, ← ih _ h.tail]
    unfold emitZ
    by_cases hd : p.gn = [] ∧ p.cm = []
    · rw [if_pos ⟨by rw [hd.1]; rfl, hd.2⟩, hd.1, hd.2]
      simp [mk_nil]
    · have hne : ¬ ((p.gn.length : Int) = 0 ∧ p.cm = []) := by
        rintro ⟨h1, h2⟩
        exact hd ⟨List.eq_nil_of_length_eq_zero (by omega), h2⟩
      rw [if_neg hne]
      have ho : edL (z + p.st.length) none (mk 45 p.gn ++ (mk 43 p.cm ++ lay r)) = edL (z + p.st.length) (some ⟨z + p.st.length, 0, []⟩) (mk 45 p.gn ++ (mk 43 p.cm ++ lay r)) := by
        cases hX : mk 45 p.gn ++ (mk 43 p.cm ++ lay r) with
        | nil =>
          have hg : p.gn = [] := mk_eq_nil.1 (List.append_eq_nil_iff.1 hX).1
          have hc : p.cm = [] := mk_eq_nil.1 (List.append_eq_nil_iff.1 (List.append_eq_nil_iff.1 hX).2).1
          exact absurd ⟨hg, hc⟩ hd
        | cons x l => exact edL_open _ _ _ (ne_stay h x l hX)
      rw [ho, edL_gone, edL_come, edL_shut hs]
      simp
/-- the other way round -/
def swp (p : Pt) : Pt := ⟨p.st, p.cm, p.gn⟩
theorem swp_swp (ps : List Pt) : (ps.map swp).map swp = ps := by
  rw [List.map_map]
  conv => rhs; rw [← List.map_id ps]
  rfl
theorem Good.swp : ∀ {ps : List Pt}, Good ps → Good (ps.map swp)
  | [], _ => trivial
  | p :: r, h => by
    refine ⟨?_, ?_, Good.swp h.tail⟩
    · rcases h.1 with h1 | h1 | h1
      · exact .inl h1
      · exact .inr (.inr h1)
      · exact .inr (.inl h1)
    · intro q t he
      cases r with
      | nil => cases he
      | cons q' t' =>
        obtain ⟨h1, h2⟩ := h.2.1 q' t' rfl
        rw [List.map_cons] at he
        injection he with he1 he2
        subst he1
        exact ⟨h1.symm, h2⟩
theorem many_lay (ps : List Pt) : many 45 (lay (ps.map swp)) = many 43 (lay ps) ∧ many 43 (lay (ps.map swp)) = many 45 (lay ps) := by
  induction ps with
  | nil => exact ⟨rfl, rfl⟩
  | cons p r ih =>
    rw [List.map_cons, lay, lay, many_append, many_append, many_append, many_append, ih.1, ih.2, many_old, many_new, many_old, many_new]
    exact ⟨rfl, rfl⟩
/-- the same line by line; c, g: what came, and went, since a line stayed -/
def turnA : Ls → Ls → Ls → Ls
  | c, g, [] => mk 45 c ++ mk 43 g
  | c, g, x :: l => if sg x = 32 then (mk 45 c ++ mk 43 g) ++ x :: turnA [] [] l else if sg x = 43 then turnA (c ++ [x.tail]) g l else turnA c (g ++ [x.tail]) l
theorem turnA_stay : ∀ (l X : Ls), turnA [] [] (mk 32 l ++ X) = mk 32 l ++ turnA [] [] X
  | [], X => rfl
  | x :: l, X => by rw [mk_cons, List.cons_append, turnA, sg_mk, if_pos rfl, turnA_stay l]; rfl
theorem turnA_gone : ∀ (l X c g : Ls), turnA c g (mk 45 l ++ X) = turnA c (g ++ l) X
  | [], X, c, g => by simp [mk_nil]
  | x :: l, X, c, g => by rw [mk_cons, List.cons_append, turnA, sg_mk, if_neg (by decide), if_neg (by decide), turnA_gone l]; simp
theorem turnA_come : ∀ (l X c g : Ls), turnA c g (mk 43 l ++ X) = turnA (c ++ l) g X
  | [], X, c, g => by simp [mk_nil]
  | x :: l, X, c, g => by rw [mk_cons, List.cons_append, turnA, sg_mk, if_neg (by decide), if_pos rfl, turnA_come l]; simp
theorem turnA_shut {X : Ls} (h : Stay X) (c g : Ls) : turnA c g X = (mk 45 c ++ mk 43 g) ++ turnA [] [] X := by
  cases X with
  | nil => simp [turnA, mk_nil]
  | cons x l =>
    have hx : sg x = 32 := h
    rw [turnA, turnA, if_pos hx, if_pos hx]; simp [mk_nil]
theorem turnA_lay : ∀ (ps : List Pt), Good ps → turnA [] [] (lay ps) = lay (ps.map swp)
  | [], _ => rfl
  | p :: r, h => by
    rw [lay, layP, List.append_assoc, List.append_assoc, turnA_stay, turnA_gone, turnA_come, turnA_shut h.stay, turnA_lay r h.tail, List.map_cons, lay, layP, swp]
    simp
end Go.Proofs.Ytfmmececocilhaa.Hu
