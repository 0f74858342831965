/-
  Hunks done to lines; the hunks of edits: on lists alone.
-/
import Derived.Test.YtfmmececocilhaaHJ
namespace Go.Proofs.Ytfmmececocilhaa.Ap
open Df Hu

/-- what a hunk's lines are on the old side, and on the new one -/
def oldL (l : Ls) : Ls := (l.filter fun x => decide (sg x ≠ 43)).map List.tail
def newL (l : Ls) : Ls := (l.filter fun x => decide (sg x ≠ 45)).map List.tail
theorem oldL_cons (x : List UInt8) (l : Ls) : oldL (x :: l) = if sg x = 43 then oldL l else x.tail :: oldL l := by
  unfold oldL
  by_cases h : sg x = 43 <;> simp [h]
theorem newL_cons (x : List UInt8) (l : Ls) : newL (x :: l) = if sg x = 45 then newL l else x.tail :: newL l := by
  unfold newL
  by_cases h : sg x = 45 <;> simp [h]
theorem oldL_append (l r : Ls) : oldL (l ++ r) = oldL l ++ oldL r := by simp [oldL]
theorem newL_append (l r : Ls) : newL (l ++ r) = newL l ++ newL r := by simp [newL]
theorem old_len : ∀ (l : Ls) (p : Bool), okF p l = true → (oldL l).length = many 45 l
  | [], _, _ => rfl
  | x :: l, p, h => by
    obtain ⟨⟨h1, _⟩, h3⟩ := (okF_cons p x l).1 h
    have ih := old_len l _ h3
    rw [oldL_cons, many]
    rcases h1 with h1 | h1 | h1 <;> simp [h1, ih, Nat.add_comm]
theorem new_len : ∀ (l : Ls) (p : Bool), okF p l = true → (newL l).length = many 43 l
  | [], _, _ => rfl
  | x :: l, p, h => by
    obtain ⟨⟨h1, _⟩, h3⟩ := (okF_cons p x l).1 h
    have ih := new_len l _ h3
    rw [newL_cons, many]
    rcases h1 with h1 | h1 | h1 <;> simp [h1, ih, Nat.add_comm]
theorem oldL_mk (s : UInt8) (l : Ls) : oldL (mk s l) = if s = 43 then [] else l := by
  induction l with
  | nil => rw [mk_nil]; split <;> rfl
  | cons x l ih => rw [mk_cons, oldL_cons, sg_mk, ih]; split <;> rfl
theorem newL_mk (s : UInt8) (l : Ls) : newL (mk s l) = if s = 45 then [] else l := by
  induction l with
  | nil => rw [mk_nil]; split <;> rfl
  | cons x l ih => rw [mk_cons, newL_cons, sg_mk, ih]; split <;> rfl
theorem oldL_layP (p : Pt) : oldL (layP p) = p.st ++ p.gn := by
  rw [layP, oldL_append, oldL_append, oldL_mk, oldL_mk, oldL_mk]; simp
theorem newL_layP (p : Pt) : newL (layP p) = p.st ++ p.cm := by
  rw [layP, newL_append, newL_append, newL_mk, newL_mk, newL_mk]; simp
theorem swp_lay : ∀ ps : List Pt, oldL (lay (ps.map swp)) = newL (lay ps) ∧ newL (lay (ps.map swp)) = oldL (lay ps)
  | [] => ⟨rfl, rfl⟩
  | p :: r => by
    obtain ⟨h1, h2⟩ := swp_lay r
    rw [List.map_cons, lay, lay, oldL_append, newL_append, oldL_append, newL_append, h1, h2, oldL_layP, newL_layP, oldL_layP, newL_layP]
    exact ⟨rfl, rfl⟩

/-- a hunk's lines done to the lines that are left; out: what came of those ahead -/
def doL : Ls → Ls → Ls → Option (Ls × Ls)
  | r, out, [] => some (r, out)
  | r, out, x :: l => if sg x = 43 then doL r (out ++ [x.tail]) l else if r.head? = some x.tail then doL r.tail (if sg x = 45 then out else out ++ [x.tail]) l else none
theorem doL_yes : ∀ (l r out : Ls), doL (oldL l ++ r) out l = some (r, out ++ newL l)
  | [], r, out => by simp [doL, oldL, newL]
  | x :: l, r, out => by
    rw [oldL_cons, newL_cons, doL]
    by_cases h : sg x = 43
    · rw [if_pos h, if_pos h, if_neg (by rw [h]; decide), doL_yes l]; simp
    · rw [if_neg h, if_neg h, List.cons_append, List.head?_cons, if_pos rfl, List.tail_cons, doL_yes l]
      by_cases h2 : sg x = 45
      · rw [if_pos h2, if_pos h2]
      · rw [if_neg h2, if_neg h2]; simp
theorem doL_some : ∀ (l r out r' out' : Ls), doL r out l = some (r', out') → r = oldL l ++ r' ∧ out' = out ++ newL l
  | [], r, out, r', out', h => by
    rw [doL] at h
    injection h with h
    injection h with h1 h2
    exact ⟨by simp [oldL, h1], by simp [newL, h2]⟩
  | x :: l, r, out, r', out', h => by
    rw [doL] at h
    rw [oldL_cons, newL_cons]
    by_cases h1 : sg x = 43
    · rw [if_pos h1] at h ⊢
      obtain ⟨h2, h3⟩ := doL_some l _ _ _ _ h
      rw [if_neg (by rw [h1]; decide)]
      exact ⟨h2, by rw [h3]; simp⟩
    · rw [if_neg h1] at h ⊢
      by_cases h2 : r.head? = some x.tail
      · rw [if_pos h2] at h
        obtain ⟨h3, h4⟩ := doL_some l _ _ _ _ h
        cases r with
        | nil => cases h2
        | cons y r =>
          obtain rfl : y = x.tail := Option.some.inj h2
          refine ⟨congrArg (x.tail :: ·) h3, ?_⟩
          rw [h4]
          by_cases h5 : sg x = 45
          · rw [if_pos h5, if_pos h5]
          · rw [if_neg h5, if_neg h5]; simp
      · rw [if_neg h2] at h; cases h
/-- hunks done to the lines from 'at' on -/
def doH : Nat → Ls → Ls → List Hk → Option Ls
  | _, r, out, [] => some (out ++ r)
  | z, r, out, h :: t => if h.a.toNat - z ≤ r.length then match doL (r.drop (h.a.toNat - z)) (out ++ r.take (h.a.toNat - z)) h.lines with
      | none => none
      | some (r', out') => doH (h.a.toNat + (oldL h.lines).length) r' out' t
    else none
def Does : Nat → Ls → List Hk → Ls → Prop
  | _, r, [], x => x = r
  | z, r, h :: t, x => ∃ u r' x' : Ls, u.length = h.a.toNat - z ∧ r = u ++ (oldL h.lines ++ r') ∧ x = u ++ (newL h.lines ++ x') ∧ Does (h.a.toNat + (oldL h.lines).length) r' t x'
theorem doH_some : ∀ (l : List Hk) (z : Nat) (r out y : Ls), doH z r out l = some y ↔ ∃ x, Does z r l x ∧ y = out ++ x
  | [], z, r, out, y => by
    rw [doH]
    constructor
    · intro h; injection h with h; exact ⟨r, rfl, h.symm⟩
    · rintro ⟨x, h, rfl⟩; rw [show x = r from h]
  | h :: t, z, r, out, y => by
    rw [doH]
    constructor
    · intro hd
      split at hd
      · rename_i hk
        split at hd
        · cases hd
        · rename_i r' out' hL
          obtain ⟨h1, h2⟩ := doL_some _ _ _ _ _ hL
          obtain ⟨x, h3, h4⟩ := (doH_some t _ _ _ _).1 hd
          refine ⟨r.take (h.a.toNat - z) ++ (newL h.lines ++ x), ⟨r.take (h.a.toNat - z), r', x, by rw [List.length_take]; omega, ?_, rfl, h3⟩, ?_⟩
          · rw [← h1, List.take_append_drop]
          · rw [h4, h2]; simp
      · cases hd
    · rintro ⟨x, ⟨u, r', x', h1, rfl, rfl, h4⟩, rfl⟩
      rw [if_pos (by rw [List.length_append]; omega), ← h1, List.drop_left, List.take_left, doL_yes]
      simp only
      rw [(doH_some t _ _ _ _).2 ⟨x', h4, rfl⟩]
      simp
theorem doH_none {l : List Hk} {z : Nat} {r out : Ls} (h : ∀ x, ¬ Does z r l x) : doH z r out l = none := by
  cases hd : doH z r out l with
  | none => rfl
  | some y =>
    obtain ⟨x, h1, _⟩ := (doH_some l z r out y).1 hd
    exact absurd h1 (h x)

/-- are hunks right, one behind the other? e: where the one ahead ends, m: what those ahead have more -/
def okL : Int → Int → List Hk → Bool
  | _, _, [] => true
  | e, m, h :: t => (hright h && (decide (h.b - h.a = m) && decide (e ≤ h.a))) && okL (h.a + h.an) (m + (h.bn - h.an)) t
theorem okL_cons {e m : Int} {h : Hk} {t : List Hk} : okL e m (h :: t) = true ↔ (hright h = true ∧ h.b - h.a = m ∧ e ≤ h.a) ∧ okL (h.a + h.an) (m + (h.bn - h.an)) t = true := by
  rw [okL, Bool.and_eq_true, Bool.and_eq_true, Bool.and_eq_true, decide_eq_true_iff, decide_eq_true_iff]
/-- what lines become, and why not -/
def appl (a : Ls) (l : List Hk) : Ls × Nat := if okL 0 0 l then match doH 0 a [] l with
    | some x => (x, 0)
    | none => ([], 6)
  else ([], 3)
theorem appl_yes {a x : Ls} {l : List Hk} (h : okL 0 0 l = true) (hd : Does 0 a l x) : appl a l = (x, 0) := by
  rw [appl, if_pos h, (doH_some l 0 a [] x).2 ⟨x, hd, rfl⟩]
theorem appl_no {a : Ls} {l : List Hk} (h : okL 0 0 l = true) (hd : ∀ x, ¬ Does 0 a l x) : appl a l = ([], 6) := by
  rw [appl, if_pos h, doH_none hd]
theorem appl_ok {a x : Ls} {l : List Hk} (h : appl a l = (x, 0)) : okL 0 0 l = true ∧ Does 0 a l x := by
  unfold appl at h
  split at h
  · rename_i ho
    split at h
    · rename_i y hy
      injection h with h _
      subst h
      obtain ⟨x, h1, h2⟩ := (doH_some l 0 a [] y).1 hy
      rw [h2]
      exact ⟨ho, h1⟩
    · cases h
  · cases h
theorem right_facts {h : Hk} (hr : hright h = true) : ((oldL h.lines).length : Int) = h.an ∧ ((newL h.lines).length : Int) = h.bn ∧ 0 ≤ h.a ∧ 0 ≤ h.b ∧ oldL (hturn h).lines = newL h.lines ∧ newL (hturn h).lines = oldL h.lines := by
  obtain ⟨h1, h2, h3, h4, h5⟩ := (hright_iff h).1 hr
  obtain ⟨ps, _, hl, _, ht, _⟩ := hparts hr
  obtain ⟨k1, k2⟩ := swp_lay ps
  refine ⟨by rw [old_len _ _ h1, h4], by rw [new_len _ _ h1, h5], h2, h3, ?_, ?_⟩
  · rw [ht, hl]; exact k1
  · rw [ht, hl]; exact k2
/-- the other way round they lead back -/
theorem does_turn : ∀ (l : List Hk) (e m : Int) (z z' : Nat) (r x : Ls), okL e m l = true → (z : Int) = e → (z' : Int) = e + m → Does z r l x → Does z' x (l.map hturn) r
  | [], _, _, _, _, r, x, _, _, _, h => by rw [show x = r from h]; exact Eq.refl r
  | h :: t, e, m, z, z', r, x, ho, hz, hz', hd => by
    obtain ⟨⟨h1, h2, h3⟩, h4⟩ := okL_cons.1 ho
    obtain ⟨k1, k2, k3, k4, k5, k6⟩ := right_facts h1
    obtain ⟨u, r', x', d1, d2, d3, d4⟩ := hd
    have ih := does_turn t _ _ _ (h.b.toNat + (newL h.lines).length) r' x' h4 (by omega) (by omega) d4
    refine ⟨u, x', r', ?_, ?_, ?_, ?_⟩
    · rw [d1]; show h.a.toNat - z = h.b.toNat - z'; omega
    · rw [k5]; exact d3
    · rw [k6]; exact d2
    · rw [k5]; exact ih
theorem okL_turn : ∀ (l : List Hk) (e m : Int), okL e m l = true → okL (e + m) (-m) (l.map hturn) = true
  | [], _, _, _ => rfl
  | h :: t, e, m, ho => by
    obtain ⟨⟨h1, h2, h3⟩, h4⟩ := okL_cons.1 ho
    have ih := okL_turn t _ _ h4
    obtain ⟨_, _, _, _, _, ht, _⟩ := hparts h1
    rw [List.map_cons, okL_cons]
    refine ⟨⟨ht, ?_, ?_⟩, ?_⟩
    · show h.a - h.b = -m; omega
    · show e + m ≤ h.b; omega
    · show okL (h.b + h.bn) (-m + (h.an - h.bn)) (t.map hturn) = true
      have e1 : h.b + h.bn = h.a + h.an + (m + (h.bn - h.an)) := by omega
      have e2 : -m + (h.an - h.bn) = -(m + (h.bn - h.an)) := by omega
      rw [e1, e2]; exact ih
theorem turn_turn : ∀ (l : List Hk) (e m : Int), okL e m l = true → (l.map hturn).map hturn = l
  | [], _, _, _ => rfl
  | h :: t, e, m, ho => by
    obtain ⟨⟨h1, _, _⟩, h4⟩ := okL_cons.1 ho
    obtain ⟨_, _, _, _, _, _, ht, _⟩ := hparts h1
    rw [List.map_cons, List.map_cons, turn_turn t _ _ h4, ht]
/-- with lines behind -/
theorem does_behind : ∀ (l : List Hk) (z : Nat) (r x m : Ls), Does z r l x → Does z (r ++ m) l (x ++ m)
  | [], _, r, x, m, h => by rw [show x = r from h]; exact Eq.refl (r ++ m)
  | h :: t, z, r, x, m, hd => by
    obtain ⟨u, r', x', d1, d2, d3, d4⟩ := hd
    exact ⟨u, r' ++ m, x' ++ m, d1, by rw [d2]; simp, by rw [d3]; simp, does_behind t _ _ _ _ d4⟩
/-- further on -/
def shH (n : Nat) (h : Hk) : Hk := ⟨h.a + n, h.an, h.b + n, h.bn, h.lines⟩
theorem does_shift (n : Nat) : ∀ (l : List Hk) (e m : Int) (z : Nat) (r x : Ls), okL e m l = true → Does z r l x → Does (z + n) r (l.map (shH n)) x
  | [], _, _, _, _, _, _, h => h
  | h :: t, e, m, z, r, x, ho, hd => by
    obtain ⟨⟨h1, h2, h3⟩, h4⟩ := okL_cons.1 ho
    obtain ⟨_, _, k3, _⟩ := right_facts h1
    obtain ⟨u, r', x', d1, d2, d3, d4⟩ := hd
    have e1 : (h.a + n).toNat = h.a.toNat + n := by omega
    refine ⟨u, r', x', ?_, d2, d3, ?_⟩
    · show u.length = (h.a + n).toNat - (z + n); omega
    · have := does_shift n t _ _ _ _ _ h4 d4
      show Does ((h.a + n).toNat + (oldL h.lines).length) r' (t.map (shH n)) x'
      rw [e1, show h.a.toNat + n + (oldL h.lines).length = h.a.toNat + (oldL h.lines).length + n by omega]
      exact this
theorem does_ahead (p : Ls) : ∀ (l : List Hk) (e m : Int) (r x : Ls), okL e m l = true → Does 0 r l x → Does 0 (p ++ r) (l.map (shH p.length)) (p ++ x)
  | [], _, _, r, x, _, h => by rw [show x = r from h]; exact Eq.refl (p ++ r)
  | h :: t, e, m, r, x, ho, hd => by
    obtain ⟨⟨h1, h2, h3⟩, h4⟩ := okL_cons.1 ho
    obtain ⟨_, _, k3, _⟩ := right_facts h1
    obtain ⟨u, r', x', d1, d2, d3, d4⟩ := hd
    have e1 : (h.a + p.length).toNat = h.a.toNat + p.length := by omega
    refine ⟨p ++ u, r', x', ?_, ?_, ?_, ?_⟩
    · show (p ++ u).length = (h.a + p.length).toNat - 0
      rw [List.length_append]; omega
    · rw [d2, List.append_assoc]; rfl
    · rw [d3, List.append_assoc]; rfl
    · have := does_shift p.length t _ _ _ _ _ h4 d4
      show Does ((h.a + p.length).toNat + (oldL h.lines).length) r' (t.map (shH p.length)) x'
      rw [e1, show h.a.toNat + p.length + (oldL h.lines).length = h.a.toNat + (oldL h.lines).length + p.length by omega]
      exact this
theorem okL_shift (n : Nat) : ∀ (l : List Hk) (e m : Int), okL e m l = true → okL (e + n) m (l.map (shH n)) = true
  | [], _, _, _ => rfl
  | h :: t, e, m, ho => by
    obtain ⟨⟨h1, h2, h3⟩, h4⟩ := okL_cons.1 ho
    have ih := okL_shift n t _ _ h4
    obtain ⟨k1, k2, k3, k4, k5⟩ := (hright_iff h).1 h1
    rw [List.map_cons, okL_cons]
    refine ⟨⟨?_, ?_, ?_⟩, ?_⟩
    · rw [hright_iff]
      exact ⟨k1, by show 0 ≤ h.a + n; omega, by show 0 ≤ h.b + n; omega, k4, k5⟩
    · show h.b + n - (h.a + n) = m; omega
    · show e + n ≤ h.a + n; omega
    · show okL (h.a + n + h.an) (m + (h.bn - h.an)) (t.map (shH n)) = true
      rw [show h.a + n + h.an = h.a + h.an + n by omega]; exact ih
theorem okL_low : ∀ (l : List Hk) (e e' m : Int), okL e m l = true → e' ≤ e → okL e' m l = true
  | [], _, _, _, _, _ => rfl
  | h :: t, e, e', m, ho, he => by
    obtain ⟨⟨h1, h2, h3⟩, h4⟩ := okL_cons.1 ho
    rw [okL_cons]
    exact ⟨⟨h1, h2, by omega⟩, h4⟩
theorem okL_past : ∀ (l : List Hk) (e m : Int), okL e m l = true → ∀ h ∈ l, e ≤ h.a
  | h :: t, e, m, ho, g, hg => by
    obtain ⟨⟨h1, h2, h3⟩, h4⟩ := okL_cons.1 ho
    obtain ⟨k1, _⟩ := right_facts h1
    rcases List.mem_cons.1 hg with rfl | hg
    · exact h3
    · have := okL_past t _ _ h4 g hg
      omega
/-- one line is another one -/
theorem does_other (s : List UInt8) : ∀ (l : List Hk) (e m : Int) (z : Nat) (r x : Ls) (j : Nat), okL e m l = true → (z : Int) = e → Does z r l x → j < r.length → r[j]? ≠ some s →
    ((∃ h ∈ l, h.a ≤ (z : Int) + j ∧ (z : Int) + j < h.a + h.an) → ∀ x', ¬ Does z (r.set j s) l x') ∧ ((∀ h ∈ l, ¬ (h.a ≤ (z : Int) + j ∧ (z : Int) + j < h.a + h.an)) → ∃ x', Does z (r.set j s) l x' ∧ x'.length = x.length ∧ s ∈ x')
  | [], e, m, z, r, x, j, _, _, hd, hj, _ => by
    refine ⟨(fun ⟨h, hh, _⟩ => by cases hh), fun _ => ⟨r.set j s, rfl, ?_, ?_⟩⟩
    · rw [show x = r from hd, List.length_set]
    · exact List.mem_set hj s
  | h :: t, e, m, z, r, x, j, ho, hz, hd, hj, hne => by
    obtain ⟨⟨h1, h2, h3⟩, h4⟩ := okL_cons.1 ho
    obtain ⟨k1, k2, k3, _⟩ := right_facts h1
    obtain ⟨u, r', x', d1, d2, d3, d4⟩ := hd
    have hul : (u.length : Int) = h.a - e := by omega
    have hpast := okL_past t _ _ h4
    subst d2
    rw [List.length_append, List.length_append] at hj
    by_cases c1 : j < u.length
    · have hset : (u ++ (oldL h.lines ++ r')).set j s = u.set j s ++ (oldL h.lines ++ r') := List.set_append_left _ _ c1
      rw [hset]
      refine ⟨fun ⟨g, hg, g1, g2⟩ => ?_, fun _ => ⟨u.set j s ++ (newL h.lines ++ x'), ⟨u.set j s, r', x', by rw [List.length_set]; exact d1, rfl, rfl, d4⟩, ?_, ?_⟩⟩
      · rcases List.mem_cons.1 hg with rfl | hg
        · omega
        · have := hpast g hg; omega
      · rw [d3]; simp
      · exact List.mem_append_left _ (List.mem_set c1 s)
    · have hset : (u ++ (oldL h.lines ++ r')).set j s = u ++ (oldL h.lines ++ r').set (j - u.length) s := List.set_append_right _ _ (by omega)
      rw [List.getElem?_append_right (by omega)] at hne
      rw [hset]
      by_cases c2 : j - u.length < (oldL h.lines).length
      · have hset2 : (oldL h.lines ++ r').set (j - u.length) s = (oldL h.lines).set (j - u.length) s ++ r' := List.set_append_left _ _ c2
        rw [List.getElem?_append_left c2] at hne
        rw [hset2]
        refine ⟨fun _ y hy => ?_, fun hn => absurd ⟨by omega, by omega⟩ (hn h List.mem_cons_self)⟩
        obtain ⟨u2, r2, x2, e1, e2, _, _⟩ := hy
        have e3 := (List.append_inj e2 (by omega)).2
        have e4 := (List.append_inj e3 (by rw [List.length_set])).1
        apply hne
        rw [← e4, List.getElem?_set_self c2]
      · have hset2 : (oldL h.lines ++ r').set (j - u.length) s = oldL h.lines ++ r'.set (j - u.length - (oldL h.lines).length) s := List.set_append_right _ _ (by omega)
        rw [List.getElem?_append_right (by omega)] at hne
        rw [hset2]
        obtain ⟨i1, i2⟩ := does_other s t _ _ (h.a.toNat + (oldL h.lines).length) r' x' (j - u.length - (oldL h.lines).length) h4 (by omega) d4 (by omega) hne
        have ez : (z : Int) + j = ((h.a.toNat + (oldL h.lines).length : Nat) : Int) + ((j - u.length - (oldL h.lines).length : Nat) : Int) := by omega
        rw [← ez] at i1 i2
        refine ⟨fun ⟨g, hg, g1, g2⟩ y hy => ?_, fun hn => ?_⟩
        · obtain ⟨u2, r2, x2, e1, e2, _, e5⟩ := hy
          have e3 := (List.append_inj e2 (by omega)).2
          have e4 := (List.append_inj e3 rfl).2
          rw [← e4] at e5
          rcases List.mem_cons.1 hg with rfl | hg
          · omega
          · exact i1 ⟨g, hg, g1, g2⟩ _ e5
        · obtain ⟨y, y1, y2, y3⟩ := i2 fun g hg => hn g (List.mem_cons_of_mem _ hg)
          refine ⟨u ++ (newL h.lines ++ y), ⟨u, _, y, d1, rfl, rfl, y1⟩, by rw [d3]; simp [y2], by simp [y3]⟩
end Go.Proofs.Ytfmmececocilhaa.Ap
namespace Go.Proofs.Ytfmmececocilhaa.Ap
open Df Hu

theorem okL_mk (a : Ls) (r : Nat) : ∀ (k : Nat) (l : List Ed) (more e0 n : Int) (b : Bool), l.length ≤ k → (∀ h ∈ mkHs a r more l, hright h = true) → rise n b e0 (mkHs a r more l) → okL e0 more (mkHs a r more l) = true
  | _, [], more, _, _, _, _, _, _ => by rw [mkHs_nil]; rfl
  | 0, e :: l, _, _, _, _, h, _, _ => by simp at h
  | k + 1, e :: l, more, e0, n, b, hk, hr, hrise => by
    have hsl := spl_len r l e
    rw [mkHs_cons] at hr hrise ⊢
    simp only [List.length_cons] at hk
    obtain ⟨h1, _, h3⟩ := hrise
    rw [okL_cons]
    refine ⟨⟨hr _ List.mem_cons_self, ?_, h1⟩, okL_mk a r k _ _ _ n true (by omega) (fun h hh => hr h (List.mem_cons_of_mem _ hh)) h3⟩
    simp only [oneH]; omega
theorem take_len (X : Ls) (r : Nat) : X.take (X.take r).length = X.take r := by
  rw [List.take_eq_take_iff, List.length_take]; omega
theorem play_skip (a : Ls) (z n : Nat) : ∀ l : List Ed, (∀ e t, l = e :: t → ((z + n : Nat) : Int) ≤ e.pos) → play a z l = (a.drop z).take n ++ play a (z + n) l
  | [], _ => by
    rw [play, play]
    conv => lhs; rw [← List.take_append_drop n (a.drop z)]
    rw [List.drop_drop]
  | e :: l, h => by
    have h1 := h e l rfl
    rw [play, play]
    have e1 : (a.drop z).take (e.pos.toNat - z) = (a.drop z).take n ++ (a.drop (z + n)).take (e.pos.toNat - (z + n)) := by
      rw [show e.pos.toNat - z = n + (e.pos.toNat - (z + n)) by omega, List.take_add, List.drop_drop]
    rw [e1]
    simp only [List.append_assoc]
theorem pts_oldL (a : Ls) (r : Nat) : ∀ (g : List Ed) (z : Nat) (last : Int), right a.length last g = true → -1 ≤ last → (z : Int) ≤ last + 1 ∨ (∀ e t, g = e :: t → (z : Int) ≤ e.pos) →
    oldL (lay (pts a r z g)) = (a.drop z).take (many 45 (lay (pts a r z g)))
  | [], z, last, _, _, _ => by
    rw [pts]
    split
    · rfl
    · rw [lay, lay, List.append_nil, oldL_layP, many_old]
      simp only [List.append_nil, List.length_nil, Nat.add_zero]
      rw [take_len]
  | e :: g, z, last, hr, hl, hzl => by
    obtain ⟨p, d, ep, ed, hpd, hlp, hne, hr'⟩ := right_head hr hl
    have ih := pts_oldL a r g (p + d) _ hr' (by omega) (.inl (by omega))
    have hzp : z ≤ p := by
      rcases hzl with h | h
      · omega
      · have := h e g rfl; omega
    rw [pts, ep, ed]
    simp only [Int.toNat_natCast]
    rw [lay, oldL_append, many_append, oldL_layP, many_old, ih]
    have hls : ((a.drop z).take (p - z)).length = p - z := by rw [List.length_take, List.length_drop]; omega
    have hld : ((a.drop p).take d).length = d := by rw [List.length_take, List.length_drop]; omega
    simp only [hls, hld]
    rw [List.take_add, List.take_add, List.drop_drop, List.drop_drop, show z + (p - z) = p by omega, show z + (p - z + d) = p + d by omega]
theorem pts_play (a : Ls) (r : Nat) (t : List Ed) : ∀ (g : List Ed) (z : Nat) (last : Int), right a.length last g = true → -1 ≤ last → (z : Int) ≤ last + 1 ∨ (∀ e t, g = e :: t → (z : Int) ≤ e.pos) →
    (∀ e t', t = e :: t' → ((z + many 45 (lay (pts a r z g)) : Nat) : Int) ≤ e.pos) → play a z (g ++ t) = newL (lay (pts a r z g)) ++ play a (z + many 45 (lay (pts a r z g))) t
  | [], z, last, _, _, _, ht => by
    rw [pts] at ht ⊢
    split
    · rfl
    · rename_i hT
      rw [if_neg hT] at ht
      rw [lay, lay, List.append_nil, many_old] at ht
      rw [lay, lay, List.append_nil, newL_layP, many_old]
      simp only [List.append_nil, List.length_nil, Nat.add_zero, List.nil_append] at ht ⊢
      rw [play_skip a z _ t ht, take_len]
  | e :: g, z, last, hr, hl, hzl, ht => by
    obtain ⟨p, d, ep, ed, hpd, hlp, hne, hr'⟩ := right_head hr hl
    have hzp : z ≤ p := by
      rcases hzl with h | h
      · omega
      · have := h e g rfl; omega
    have hls : ((a.drop z).take (p - z)).length = p - z := by rw [List.length_take, List.length_drop]; omega
    have hld : ((a.drop p).take d).length = d := by rw [List.length_take, List.length_drop]; omega
    have hN : z + many 45 (lay (pts a r z (e :: g))) = p + d + many 45 (lay (pts a r (p + d) g)) := by
      rw [pts, ep, ed]
      simp only [Int.toNat_natCast]
      rw [lay, many_append, many_old]
      simp only [hls, hld]
      omega
    rw [hN] at ht ⊢
    have ih := pts_play a r t g (p + d) _ hr' (by omega) (.inl (by omega)) ht
    rw [List.cons_append, play, pts, ep, ed]
    simp only [Int.toNat_natCast]
    rw [ih, lay, newL_append, newL_layP]
    simp only [List.append_assoc]
theorem does_mk (a : Ls) (r : Nat) : ∀ (k : Nat) (l : List Ed) (more last : Int) (e0 : Nat), l.length ≤ k → right a.length last l = true → -1 ≤ last → (∀ e t, l = e :: t → e0 ≤ from_ r e) → Does e0 (a.drop e0) (mkHs a r more l) (play a e0 l)
  | _, [], more, _, e0, _, _, _, _ => by rw [mkHs_nil]; exact Eq.refl (a.drop e0)
  | 0, e :: l, _, _, _, h, _, _, _ => by simp at h
  | k + 1, e :: l, more, last, e0, hk, hr, hl, hgap => by
    have hsp := spl_eq r l e
    have hsl := spl_len r l e
    have hsg := spl_gap r l e
    obtain ⟨g, hg⟩ : ∃ g, g = (spl r e l).1 := ⟨_, rfl⟩
    obtain ⟨t, ht⟩ : ∃ t, t = (spl r e l).2 := ⟨_, rfl⟩
    rw [mkHs_cons, ← hg, ← ht]
    rw [← hg, ← ht] at hsp hsl hsg
    have hr2 : right a.length last ((e :: g) ++ t) = true := by rw [List.cons_append, hsp]; exact hr
    obtain ⟨r1, r2, r3, r4⟩ := right_app a.length (e :: g) t last hr2 hl
    have hge := hgap e l rfl
    obtain ⟨p, d, ep, ed, hpd, hlp, hne, hr'⟩ := right_head r1 hl
    obtain ⟨z, hz⟩ : ∃ z, z = from_ r e := ⟨_, rfl⟩
    have hzp := from_le r e p ep
    rw [← hz] at hge hzp ⊢
    have hzc : ((z : Nat) : Int) ≤ last + 1 ∨ (∀ e' t, e :: g = e' :: t → ((z : Nat) : Int) ≤ e'.pos) := by
      refine .inr fun e' t h => ?_
      injection h with h1 _
      subst h1
      rw [ep]; omega
    have f5 := pts_old a r (e :: g) z last r1 hl hzc (by omega)
    rw [lastF] at r2 r3 r4 f5
    have hO := pts_oldL a r (e :: g) z last r1 hl hzc
    obtain ⟨N, hN⟩ : ∃ N, N = many 45 (lay (pts a r z (e :: g))) := ⟨_, rfl⟩
    have hnext : ∀ f t', t = f :: t' → ((z + N : Nat) : Int) ≤ (from_ r f : Nat) ∧ ((z + N : Nat) : Int) ≤ f.pos := fun f t' h => by
      have h1 := hsg f t' h
      rw [← hN] at f5
      unfold from_
      omega
    have hP := pts_play a r t (e :: g) z last r1 hl hzc (fun f t' h => by rw [← hN]; exact (hnext f t' h).2)
    rw [← hN] at hO hP f5
    have hlen : ((a.drop z).take N).length = N := by rw [List.length_take, List.length_drop]; omega
    have hlO : (oldL (lay (pts a r z (e :: g)))).length = N := by rw [hO, hlen]
    have ih := does_mk a r k t (more + ((oneH a r more (e :: g) z).bn - (oneH a r more (e :: g) z).an)) _ (z + N) (by simp only [List.length_cons] at hk; omega) r2 (by omega) (fun f t' h => by have := (hnext f t' h).1; omega)
    refine ⟨(a.drop e0).take (z - e0), a.drop (z + N), play a (z + N) t, ?_, ?_, ?_, ?_⟩
    · rw [List.length_take, List.length_drop]
      simp only [oneH, Int.toNat_natCast]
      omega
    · simp only [oneH]
      have h1 := drop_split a e0 z hge
      have h2 := drop_split a z (z + N) (by omega)
      rw [Nat.add_sub_cancel_left] at h2
      rw [hO, ← h2]
      exact h1
    · simp only [oneH]
      rw [← hP, ← hsp, ← List.cons_append]
      have := play_skip a e0 (z - e0) ((e :: g) ++ t) (fun e' t' h => by
        rw [List.cons_append] at h
        injection h with h1 _
        subst h1
        rw [ep]; omega)
      rw [this, show e0 + (z - e0) = z by omega]
    · simp only [oneH, Int.toNat_natCast]
      rw [hlO]
      exact ih
/-- the hunks of right edits are right one behind the other, and done to the lines are these played -/
theorem mk_appl (a : Ls) (r : Nat) (l : List Ed) (hr : right a.length (-1) l = true) : okL 0 0 (mkHs a r 0 l) = true ∧ Does 0 a (mkHs a r 0 l) (play a 0 l) := by
  obtain ⟨h1, _, _, h4⟩ := mk_start a r l hr
  refine ⟨okL_mk a r _ l 0 0 _ false (Nat.le_refl _) h1 h4, ?_⟩
  have := does_mk a r _ l 0 (-1) 0 (Nat.le_refl _) hr (by omega) (fun e t _ => Nat.zero_le _)
  rwa [List.drop_zero] at this
/-- what is between, done, is the other one; the other way round it is the first one again -/
theorem between_appl (a b : Ls) (r : Nat) : appl a (mkHs a r 0 (D a b)) = (b, 0) ∧ appl b ((mkHs a r 0 (D a b)).map hturn) = (a, 0) ∧ okL 0 0 (mkHs a r 0 (D a b)) = true ∧ okL 0 0 ((mkHs a r 0 (D a b)).map hturn) = true ∧ ((mkHs a r 0 (D a b)).map hturn).map hturn = mkHs a r 0 (D a b) := by
  obtain ⟨h1, h2⟩ := mk_appl a r (D a b) (D_right a b)
  rw [D_play] at h2
  have h3 := okL_turn _ _ _ h1
  have h4 := does_turn _ 0 0 0 0 _ _ h1 rfl rfl h2
  exact ⟨appl_yes h1 h2, appl_yes h3 h4, h1, h3, turn_turn _ _ _ h1⟩
end Go.Proofs.Ytfmmececocilhaa.Ap
