/-
  Lines that one side alone changed, or both alike: on lists.
-/
import Derived.Test.YteehbpnbephojaaJH
namespace Go.Proofs.Yteehbpnbephojaa.Al
open Go.Proofs.Yteehbpnbephojaa.Df

def mF (E : List Ed) : List (Bool × Ed) := E.map fun e => (false, e)
def mT (E : List Ed) : List (Bool × Ed) := E.map fun e => (true, e)
/-- each edit on both sides -/
def dbl : List Ed → List (Bool × Ed)
  | [] => []
  | e :: E => (false, e) :: (true, e) :: dbl E
theorem mrg_left : ∀ E : List Ed, mrg E [] = mF E
  | [] => by rw [mrg]; rfl
  | e :: E => by rw [mrg, mrg_left E]; rfl
theorem mrg_right (E : List Ed) : mrg [] E = mT E := by rw [mrg]; rfl
theorem mrg_self {n : Nat} : ∀ {E : List Ed} {last : Int}, right n last E = true → -1 ≤ last → mrg E E = dbl E
  | [], _, _, _ => by rw [mrg]; rfl
  | e :: E, last, h, hl => by
    obtain ⟨p, d, ep, ed, _, _, _, hr'⟩ := right_head h hl
    have ih := mrg_self hr' (by omega)
    rw [mrg, if_pos (Int.le_refl _), dbl]
    congr 1
    cases E with
    | nil => rw [mrg]; rfl
    | cons f E =>
      have := right_low hr' (by omega) f (by simp)
      rw [mrg, if_neg (by omega), ih]
/-- a region of the one side's, the other side's, and both sides' -/
def Kd3 (r q s : Rg) : Prop := (r.kind = 0 ∧ q.kind = 0 ∧ s.kind = 0) ∨ (r.kind = 1 ∧ q.kind = 2 ∧ s.kind = 3)
def Kin : List Rg → List Rg → List Rg → Prop
  | [], [], [] => True
  | r :: l, q :: m, s :: n => Kd3 r q s ∧ Kin l m n
  | _, _, _ => False
theorem Kin.snoc : ∀ {l m n : List Rg} {r q s : Rg}, Kin l m n → Kd3 r q s → Kin (l ++ [r]) (m ++ [q]) (n ++ [s])
  | [], [], [], _, _, _, _, h => ⟨h, trivial⟩
  | _ :: _, _ :: _, _ :: _, _, _, _, h, h' => ⟨h.1, Kin.snoc h.2 h'⟩
  | [], _ :: _, _, _, _, _, h, _ => by cases h
  | [], [], _ :: _, _, _, _, h, _ => by cases h
  | _ :: _, [], _, _, _, _, h, _ => by cases h
  | _ :: _, _ :: _, [], _, _, _, h, _ => by cases h
theorem Kin.len : ∀ {l m n : List Rg}, Kin l m n → m.length = l.length ∧ n.length = l.length
  | [], [], [], _ => ⟨rfl, rfl⟩
  | _ :: _, _ :: _, _ :: _, h => by
    have := Kin.len h.2
    simp only [List.length_cons]
    omega
  | [], _ :: _, _, h => by cases h
  | [], [], _ :: _, h => by cases h
  | _ :: _, [], _, h => by cases h
  | _ :: _, _ :: _, [], h => by cases h
theorem Kin.at : ∀ {l m n : List Rg} {k : Nat} {r q s : Rg}, Kin l m n → l[k]? = some r → m[k]? = some q → n[k]? = some s → Kd3 r q s
  | [], _, _, _, _, _, _, _, h, _, _ => by simp at h
  | _ :: _, _ :: _, _ :: _, 0, _, _, _, h, h1, h2, h3 => by
    simp at h1 h2 h3
    subst h1 h2 h3
    exact h.1
  | _ :: _, _ :: _, _ :: _, k + 1, _, _, _, h, h1, h2, h3 => Kin.at h.2 (by simpa using h1) (by simpa using h2) (by simpa using h3)
  | _ :: _, [], _, _, _, _, _, h, _, _, _ => by cases h
  | _ :: _, _ :: _, [], _, _, _, _, h, _, _, _ => by cases h
/-- clusters that go side by side -/
structure C3 (c d e : Cl) : Prop where
  fr : d.fr = c.fr ∧ e.fr = c.fr
  to : d.to = c.to ∧ e.to = c.to
  z : c.n1 = 0 ∧ d.n0 = 0
  p : 0 < c.n0 ∧ 0 < d.n1 ∧ 0 < e.n0 ∧ 0 < e.n1
  m : e.m0 = e.m1
theorem C3.take {c d e : Cl} (h : C3 c d e) (f : Ed) : C3 (c.take false f) (d.take true f) ((e.take false f).take true f) := by
  obtain ⟨⟨h1, h2⟩, ⟨h3, h4⟩, ⟨h5, h6⟩, ⟨h7, h8, h9, h10⟩, h11⟩ := h
  refine ⟨⟨h1, h2⟩, ⟨?_, ?_⟩, ⟨h5, h6⟩, ⟨?_, ?_, ?_, ?_⟩, ?_⟩ <;> simp only [Cl.take, Bool.false_eq_true, if_false, if_true] <;> omega
theorem grow_sim : ∀ (E : List Ed) (c d e : Cl), C3 c d e → ∃ c' d' e' E', grow c (mF E) = (c', mF E') ∧ grow d (mT E) = (d', mT E') ∧ grow e (dbl E) = (e', dbl E') ∧ C3 c' d' e' ∧ E' <:+ E
  | [], c, d, e, h => ⟨c, d, e, [], rfl, rfl, rfl, h, List.suffix_refl _⟩
  | f :: E, c, d, e, h => by
    by_cases hlt : c.to < f.pos
    · refine ⟨c, d, e, f :: E, ?_, ?_, ?_, h, List.suffix_refl _⟩
      · show grow c ((false, f) :: mF E) = _
        rw [grow, if_pos hlt]; rfl
      · show grow d ((true, f) :: mT E) = _
        rw [grow, if_pos (by rw [h.to.1]; exact hlt)]; rfl
      · rw [dbl, grow, if_pos (by rw [h.to.2]; exact hlt)]
    · obtain ⟨c', d', e', E', g1, g2, g3, g4, g5⟩ := grow_sim E _ _ _ (h.take f)
      refine ⟨c', d', e', E', ?_, ?_, ?_, g4, g5.trans (List.suffix_cons _ _)⟩
      · show grow c ((false, f) :: mF E) = _
        rw [grow, if_neg hlt]; exact g1
      · show grow d ((true, f) :: mT E) = _
        rw [grow, if_neg (by rw [h.to.1]; exact hlt)]; exact g2
      · rw [dbl, grow, if_neg (by rw [h.to.2]; exact hlt), grow, if_neg ?_]
        · exact g3
        · simp only [Cl.take, Bool.false_eq_true, if_false]
          have := h.to.2
          omega
/-- states that go side by side -/
structure S3 (s t u : St) : Prop where
  x : t.x = s.x ∧ u.x = s.x
  y : u.y = u.z
  l : Kin s.l t.l u.l
section
variable {o a : Ls} {s t u : St}
theorem S3.add {c d e : Cl} (h : S3 s t u) (hc : C3 c d e) : S3 (s.add a o c) (t.add o a d) (u.add a a e) := by
  refine ⟨⟨?_, ?_⟩, ?_, ?_⟩
  · show t.x + (d.to - d.fr) = s.x + (c.to - c.fr)
    rw [h.x.1, hc.to.1, hc.fr.1]
  · show u.x + (e.to - e.fr) = s.x + (c.to - c.fr)
    rw [h.x.2, hc.to.2, hc.fr.2]
  · show u.y + (e.to - e.fr + e.m0) = u.z + (e.to - e.fr + e.m1)
    rw [h.y, hc.m]
  · refine h.l.snoc (.inr ⟨?_, ?_, ?_⟩)
    · simp only [kindOf]
      rw [if_neg (by have := hc.p.1; omega), if_pos hc.z.1]
    · simp only [kindOf]
      rw [if_neg (by have := hc.p.2.1; omega), if_neg (by have := hc.p.2.1; omega), if_pos hc.z.2]
    · simp only [kindOf]
      rw [if_neg (by have := hc.p.2.2; omega), if_neg (by have := hc.p.2.2; omega), if_neg (by have := hc.p.2.2; omega), if_pos (by rw [h.y, hc.m])]
theorem S3.keep (h : S3 s t u) (n : Int) : S3 (s.keep a o n) (t.keep o a n) (u.keep a a n) := by
  unfold St.keep
  by_cases hlt : s.x < n
  · rw [if_pos hlt, if_pos (by rw [h.x.1]; exact hlt), if_pos (by rw [h.x.2]; exact hlt)]
    refine ⟨⟨?_, ?_⟩, ?_, h.l.snoc (.inl ⟨rfl, rfl, rfl⟩)⟩
    · show t.x + (n - t.x) = s.x + (n - s.x); omega
    · show u.x + (n - u.x) = s.x + (n - s.x); omega
    · show u.y + (n - u.x + 0) = u.z + (n - u.x + 0)
      rw [h.y]
  · rw [if_neg hlt, if_neg (by rw [h.x.1]; exact hlt), if_neg (by rw [h.x.2]; exact hlt)]
    exact h
end
theorem loop_sim {o a : Ls} : ∀ (n : Nat) (E : List Ed) (s t u : St), E.length ≤ n → (∀ e ∈ E, 0 ≤ e.del) → S3 s t u → S3 (loop a o s (mF E)) (loop o a t (mT E)) (loop a a u (dbl E))
  | _, [], s, t, u, _, _, h => by
    show S3 (loop a o s []) (loop o a t []) (loop a a u [])
    rw [loop_nil, loop_nil, loop_nil]
    exact h
  | 0, _ :: _, _, _, _, h, _, _ => by simp at h
  | n + 1, f :: E, s, t, u, hn, hd, h => by
    have hf := hd f (by simp)
    have h0 : C3 ((Cl.zero f.pos).take false f) ((Cl.zero f.pos).take true f) (((Cl.zero f.pos).take false f).take true f) := by
      refine ⟨⟨rfl, rfl⟩, ⟨rfl, ?_⟩, ⟨rfl, rfl⟩, ⟨?_, ?_, ?_, ?_⟩, ?_⟩ <;> simp only [Cl.take, Cl.zero, Bool.false_eq_true, if_false, if_true] <;> omega
    obtain ⟨c', d', e', E', g1, g2, g3, g4, g5⟩ := grow_sim E _ _ _ h0
    have hlen : E'.length ≤ n := Nat.le_trans (List.IsSuffix.length_le g5) (by simp at hn; omega)
    have g3' : grow ((Cl.zero f.pos).take false f) ((true, f) :: dbl E) = (e', dbl E') := by
      rw [grow, if_neg ?_]
      · exact g3
      · simp only [Cl.take, Cl.zero, Bool.false_eq_true, if_false]
        omega
    show S3 (loop a o s ((false, f) :: mF E)) (loop o a t ((true, f) :: mT E)) (loop a a u ((false, f) :: (true, f) :: dbl E))
    rw [loop_cons, loop_cons, loop_cons, g1, g2, g3']
    simp only
    refine loop_sim n E' _ _ _ hlen (fun e he => hd e (by simp [List.IsSuffix.subset g5 he])) ?_
    rw [g4.fr.1, g4.fr.2]
    exact (h.keep _).add g4
/-- P8.1: of one side's changes, or of changes that are alike, nothing clashes -/
theorem regs_one (o a : Ls) : Kin (regs o a o) (regs o o a) (regs o a a) := by
  have hr := D_right o a
  have hs := loop_sim (o := o) (a := a) _ (D o a) ⟨0, 0, 0, []⟩ ⟨0, 0, 0, []⟩ ⟨0, 0, 0, []⟩ (Nat.le_refl _) (fun e he => (right_low hr (by omega) e he).2.1) ⟨⟨rfl, rfl⟩, rfl, trivial⟩
  unfold regs
  rw [D_self, mrg_left, mrg_right, mrg_self hr (by omega)]
  exact (hs.keep _).l
theorem regs_same (o a : Ls) (h : o = a) : (regs o a o).length ≤ 1 := by
  subst h
  unfold regs
  rw [D_self, mrg_nil, loop_nil]
  unfold St.keep
  split
  · simp [St.add]
  · simp
end Go.Proofs.Yteehbpnbephojaa.Al
