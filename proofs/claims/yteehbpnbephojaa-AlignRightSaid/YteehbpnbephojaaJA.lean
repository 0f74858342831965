/-
  What became of lines on two sides: on lists alone.
-/
import Derived.Test.YteehbpnbephojaaEB
namespace Go.Proofs.Yteehbpnbephojaa.Al
open Go.Proofs.Yteehbpnbephojaa.Df

/-- the edits of two sides, by their places -/
def mrg : List Ed → List Ed → List (Bool × Ed)
  | [], ys => ys.map fun e => (true, e)
  | e :: xs, [] => (false, e) :: mrg xs []
  | e :: xs, f :: ys => if e.pos ≤ f.pos then (false, e) :: mrg xs (f :: ys) else (true, f) :: mrg (e :: xs) ys
termination_by xs ys => xs.length + ys.length
/-- which side is next -/
def sd : List Ed → List Ed → Bool
  | [], _ => true
  | _ :: _, [] => false
  | e :: _, f :: _ => decide (f.pos < e.pos)
theorem mrg_nil : mrg [] [] = [] := by rw [mrg]; rfl
theorem mrg_cons (xs ys : List Ed) (h : xs ≠ [] ∨ ys ≠ []) :
    (sd xs ys = false ∧ ∃ e r, xs = e :: r ∧ mrg xs ys = (false, e) :: mrg r ys) ∨ (sd xs ys = true ∧ ∃ e r, ys = e :: r ∧ mrg xs ys = (true, e) :: mrg xs r) := by
  cases xs with
  | nil =>
    cases ys with
    | nil => simp at h
    | cons f ys => exact .inr ⟨rfl, f, ys, rfl, by rw [mrg, mrg]; rfl⟩
  | cons e xs =>
    cases ys with
    | nil => exact .inl ⟨rfl, e, xs, rfl, by rw [mrg]⟩
    | cons f ys =>
      by_cases hp : e.pos ≤ f.pos
      · exact .inl ⟨by simp [sd]; omega, e, xs, rfl, by rw [mrg, if_pos hp]⟩
      · exact .inr ⟨by simp [sd]; omega, f, ys, rfl, by rw [mrg, if_neg hp]⟩
theorem mrg_len : ∀ (n : Nat) (xs ys : List Ed), xs.length + ys.length ≤ n → (mrg xs ys).length = xs.length + ys.length
  | _, [], ys, _ => by rw [mrg]; simp
  | 0, e :: xs, _, h => by simp at h
  | n + 1, e :: xs, [], h => by
    rw [mrg, List.length_cons, mrg_len n xs [] (by simp at h ⊢; omega)]; simp
  | n + 1, e :: xs, f :: ys, h => by
    simp at h
    rw [mrg]
    split
    · rw [List.length_cons, mrg_len n xs (f :: ys) (by simp; omega)]; simp; omega
    · rw [List.length_cons, mrg_len n (e :: xs) ys (by simp; omega)]; simp; omega
/-- one side's -/
def ofS (s : Bool) (l : List (Bool × Ed)) : List Ed := (l.filter fun p => p.1 == s).map (·.2)
theorem ofS_nil (s : Bool) : ofS s [] = [] := rfl
theorem ofS_same (s : Bool) (e : Ed) (l : List (Bool × Ed)) : ofS s ((s, e) :: l) = e :: ofS s l := by simp [ofS]
theorem ofS_other (s t : Bool) (h : t ≠ s) (e : Ed) (l : List (Bool × Ed)) : ofS s ((t, e) :: l) = ofS s l := by simp [ofS, h]
theorem ofS_append (s : Bool) (l r : List (Bool × Ed)) : ofS s (l ++ r) = ofS s l ++ ofS s r := by simp [ofS]
theorem ofS_all : ∀ ys : List Ed, ofS true (ys.map fun e => (true, e)) = ys
  | [] => rfl
  | f :: ys => by rw [List.map_cons, ofS_same, ofS_all ys]
theorem ofS_mrg : ∀ (n : Nat) (xs ys : List Ed), xs.length + ys.length ≤ n → ofS false (mrg xs ys) = xs ∧ ofS true (mrg xs ys) = ys
  | _, [], ys, _ => by
    rw [mrg]
    exact ⟨by simp [ofS], ofS_all ys⟩
  | 0, e :: xs, _, h => by simp at h
  | n + 1, e :: xs, [], h => by
    obtain ⟨h1, h2⟩ := ofS_mrg n xs [] (by simp at h ⊢; omega)
    rw [mrg, ofS_same, ofS_other _ _ (by decide), h1, h2]
    exact ⟨rfl, rfl⟩
  | n + 1, e :: xs, f :: ys, h => by
    simp at h
    rw [mrg]
    split
    · obtain ⟨h1, h2⟩ := ofS_mrg n xs (f :: ys) (by simp; omega)
      rw [ofS_same, ofS_other _ _ (by decide), h1, h2]
      exact ⟨rfl, rfl⟩
    · obtain ⟨h1, h2⟩ := ofS_mrg n (e :: xs) ys (by simp; omega)
      rw [ofS_same, ofS_other _ _ (by decide), h1, h2]
      exact ⟨rfl, rfl⟩

/-- a cluster: its lines of o; of either side how many edits it has, and how many lines more come than go -/
structure Cl where
  fr : Int
  to : Int
  n0 : Int
  m0 : Int
  n1 : Int
  m1 : Int
def Cl.zero (p : Int) : Cl := ⟨p, 0, 0, 0, 0, 0⟩
def Cl.take (c : Cl) (s : Bool) (e : Ed) : Cl :=
  if s then ⟨c.fr, max c.to (e.pos + e.del), c.n0, c.m0, c.n1 + 1, c.m1 + (e.ins.length - e.del)⟩
  else ⟨c.fr, max c.to (e.pos + e.del), c.n0 + 1, c.m0 + (e.ins.length - e.del), c.n1, c.m1⟩
/-- a cluster takes what meets it -/
def grow : Cl → List (Bool × Ed) → Cl × List (Bool × Ed)
  | c, [] => (c, [])
  | c, (s, e) :: r => if c.to < e.pos then (c, (s, e) :: r) else grow (c.take s e) r
theorem grow_len : ∀ (c : Cl) (l : List (Bool × Ed)), (grow c l).2.length ≤ l.length
  | c, [] => Nat.le_refl _
  | c, (s, e) :: r => by
    rw [grow]
    split
    · exact Nat.le_refl _
    · have := grow_len (c.take s e) r; simp; omega
/-- a region -/
structure Rg where
  kind : Int
  o0 : Int
  on : Int
  a0 : Int
  an : Int
  b0 : Int
  bn : Int
deriving DecidableEq
def cut (l : Ls) (x n : Int) : Ls := (l.drop x.toNat).take n.toNat
def kindOf (c : Cl) (p q : Ls) : Int := if c.n0 = 0 ∧ c.n1 = 0 then 0 else if c.n1 = 0 then 1 else if c.n0 = 0 then 2 else if p = q then 3 else 4
/-- how far all three are gone through; the regions so far -/
structure St where
  x : Int
  y : Int
  z : Int
  l : List Rg
def St.add (a b : Ls) (s : St) (c : Cl) : St :=
  ⟨s.x + (c.to - c.fr), s.y + (c.to - c.fr + c.m0), s.z + (c.to - c.fr + c.m1),
    s.l ++ [⟨kindOf c (cut a s.y (c.to - c.fr + c.m0)) (cut b s.z (c.to - c.fr + c.m1)), s.x, c.to - c.fr, s.y, c.to - c.fr + c.m0, s.z, c.to - c.fr + c.m1⟩]⟩
def St.keep (a b : Ls) (s : St) (t : Int) : St := if s.x < t then s.add a b ⟨s.x, t, 0, 0, 0, 0⟩ else s
def loop (a b : Ls) : St → List (Bool × Ed) → St
  | s, [] => s
  | s, (d, e) :: r => loop a b ((s.keep a b (grow ((Cl.zero e.pos).take d e) r).1.fr).add a b (grow ((Cl.zero e.pos).take d e) r).1) (grow ((Cl.zero e.pos).take d e) r).2
termination_by _ l => l.length
decreasing_by have := grow_len ((Cl.zero e.pos).take d e) r; simp; omega
theorem loop_nil (a b : Ls) (s : St) : loop a b s [] = s := by rw [loop]
theorem loop_cons (a b : Ls) (s : St) (d : Bool) (e : Ed) (r : List (Bool × Ed)) : loop a b s ((d, e) :: r) = loop a b ((s.keep a b (grow ((Cl.zero e.pos).take d e) r).1.fr).add a b (grow ((Cl.zero e.pos).take d e) r).1) (grow ((Cl.zero e.pos).take d e) r).2 := by rw [loop]
def regs (o a b : Ls) : List Rg := ((loop a b ⟨0, 0, 0, []⟩ (mrg (D o a) (D o b))).keep a b o.length).l

/-! What is taken, and what it makes of o's lines. -/
/-- the edits that were taken -/
def tak : Cl → List (Bool × Ed) → List (Bool × Ed)
  | _, [] => []
  | c, (s, e) :: r => if c.to < e.pos then [] else (s, e) :: tak (c.take s e) r
theorem tak_grow : ∀ (c : Cl) (l : List (Bool × Ed)), tak c l ++ (grow c l).2 = l
  | c, [] => rfl
  | c, (s, e) :: r => by
    rw [tak, grow]
    split
    · rfl
    · rw [List.cons_append, tak_grow]
/-- how many lines more come than go -/
def more : List Ed → Int
  | [] => 0
  | e :: l => (e.ins.length - e.del) + more l
theorem more_append : ∀ l r : List Ed, more (l ++ r) = more l + more r
  | [], r => by simp [more]
  | e :: l, r => by rw [List.cons_append, more, more, more_append l r]; omega
def ends : Int → List (Bool × Ed) → Int
  | t, [] => t
  | t, (_, e) :: r => ends (max t (e.pos + e.del)) r
theorem ends_ge : ∀ (t : Int) (l : List (Bool × Ed)), t ≤ ends t l
  | _, [] => Int.le_refl _
  | t, (_, e) :: r => by have := ends_ge (max t (e.pos + e.del)) r; rw [ends]; omega
theorem ends_mem : ∀ (t : Int) (l : List (Bool × Ed)) (p : Bool × Ed), p ∈ l → p.2.pos + p.2.del ≤ ends t l
  | _, [], p, h => by cases h
  | t, (s, e) :: r, p, h => by
    rw [ends]
    rcases List.mem_cons.1 h with rfl | h
    · have := ends_ge (max t (e.pos + e.del)) r; simp; omega
    · exact ends_mem _ r p h
theorem ends_le : ∀ (t u : Int) (l : List (Bool × Ed)), t ≤ u → (∀ p ∈ l, p.2.pos + p.2.del ≤ u) → ends t l ≤ u
  | t, u, [], h, _ => h
  | t, u, (s, e) :: r, h, hl => by
    rw [ends]
    exact ends_le _ u r (by have := hl (s, e) (by simp); simp at this; omega) fun p hp => hl p (by simp [hp])
theorem grow_is : ∀ (c : Cl) (l : List (Bool × Ed)), (grow c l).1 = ⟨c.fr, ends c.to (tak c l), c.n0 + (ofS false (tak c l)).length, c.m0 + more (ofS false (tak c l)), c.n1 + (ofS true (tak c l)).length, c.m1 + more (ofS true (tak c l))⟩
  | c, [] => by simp [grow, tak, ends, ofS, more]
  | c, (s, e) :: r => by
    rw [grow, tak]
    split
    · simp [ends, ofS, more]
    · rw [grow_is, ends]
      cases s
      · rw [ofS_same, ofS_other _ _ (by decide)]
        simp only [Cl.take, more, List.length_cons]
        simp
        exact ⟨by omega, by omega⟩
      · rw [ofS_same, ofS_other _ _ (by decide)]
        simp only [Cl.take, more, List.length_cons]
        simp
        exact ⟨by omega, by omega⟩
end Go.Proofs.Yteehbpnbephojaa.Al
