/-
  The reference's regions, on lists: what a cluster's edits are by their places.
-/
import Derived.Test.YtahcokfoifdlmaaGreatDoorQJA
import Derived.BigQuiet
import Derived.Test.YtahcokfoifdlmaaGreatDoorQWS
import Derived.Test.YtahcokfoifdlmaaGreatDoorQEB
import Derived.Test.YtahcokfoifdlmaaGreatDoorQWA
import Derived.Laws.ResultCell
import Derived.Test.YtahcokfoifdlmaaGreatDoorQRfB
namespace Go.Proofs.YtahcokfoifdlmaaGreatDoor.Al
open Go.Proofs.YtahcokfoifdlmaaGreatDoor.Df

/-- the edits of both sides, by their places in one list -/
def el (F G : List Ed) (i : Nat) : Bool × Ed := if i < F.length then (false, F.getD i ⟨0, 0, []⟩) else (true, G.getD (i - F.length) ⟨0, 0, []⟩)
theorem el_left {F G : List Ed} {i : Nat} (h : i < F.length) : el F G i = (false, F.getD i ⟨0, 0, []⟩) := if_pos h
theorem el_right {F G : List Ed} {i : Nat} (h : ¬ i < F.length) : el F G i = (true, G.getD (i - F.length) ⟨0, 0, []⟩) := if_neg h
theorem getD_memE {l : List Ed} {i : Nat} (h : i < l.length) : l.getD i ⟨0, 0, []⟩ ∈ l := by simp [List.getElem?_eq_getElem h]
theorem mem_both {F G : List Ed} {p : Bool × Ed} : p ∈ mrg F G ↔ (p.1 = false ∧ p.2 ∈ F) ∨ (p.1 = true ∧ p.2 ∈ G) := by
  obtain ⟨h0, h1⟩ := ofS_mrg _ F G (Nat.le_refl _)
  obtain ⟨s, e⟩ := p
  cases s
  · rw [← mem_ofS, h0]; simp
  · rw [← mem_ofS, h1]; simp
theorem el_mem {F G : List Ed} {i : Nat} (h : i < F.length + G.length) : el F G i ∈ mrg F G := by
  by_cases hi : i < F.length
  · rw [el_left hi]; exact mem_both.2 (.inl ⟨rfl, getD_memE hi⟩)
  · rw [el_right hi]; exact mem_both.2 (.inr ⟨rfl, getD_memE (by omega)⟩)
theorem mem_at {l : List Ed} {e : Ed} (h : e ∈ l) : ∃ i, i < l.length ∧ l.getD i ⟨0, 0, []⟩ = e := by
  obtain ⟨i, hi⟩ := List.getElem?_of_mem h
  exact ⟨i, (List.getElem?_eq_some_iff.1 hi).1, by rw [List.getD_eq_getElem?_getD, hi]; rfl⟩
theorem el_ex {F G : List Ed} {p : Bool × Ed} (h : p ∈ mrg F G) : ∃ i, i < F.length + G.length ∧ el F G i = p := by
  obtain ⟨s, e⟩ := p
  rcases mem_both.1 h with ⟨h1, h2⟩ | ⟨h1, h2⟩
  · obtain ⟨i, hi, he⟩ := mem_at h2
    simp only at h1 he
    exact ⟨i, by omega, by rw [el_left hi, he, h1]⟩
  · obtain ⟨i, hi, he⟩ := mem_at h2
    simp only at h1 he
    refine ⟨F.length + i, by omega, ?_⟩
    rw [el_right (by omega), Nat.add_sub_cancel_left, he, h1]
/-- what holds where a cluster begins, of those gone through too -/
structure RInv (o a b : Ls) (V : List (Bool × Ed)) (s : St) (l : List (Bool × Ed)) : Prop where
  inv : Inv o a b s l
  all : mrg (D o a) (D o b) = V ++ l
  old : ∀ p ∈ V, p.2.pos + p.2.del ≤ s.x
  new : V ≠ [] → ∀ p ∈ l, s.x < p.2.pos
theorem RInv.start (o a b : Ls) : RInv o a b [] ⟨0, 0, 0, []⟩ (mrg (D o a) (D o b)) :=
  ⟨start_inv o a b, rfl, (fun p h => by cases h), fun h => absurd rfl h⟩
/-- a cluster, taken -/
def clo (d : Bool) (e : Ed) (r : List (Bool × Ed)) : Cl := (grow ((Cl.zero e.pos).take d e) r).1
def clr (d : Bool) (e : Ed) (r : List (Bool × Ed)) : List (Bool × Ed) := (grow ((Cl.zero e.pos).take d e) r).2
theorem clu_all (d : Bool) (e : Ed) (r : List (Bool × Ed)) : clu d e r ++ clr d e r = (d, e) :: r := by
  rw [clu, clr, List.cons_append, tak_grow]
section
variable {o a b : Ls} {V : List (Bool × Ed)} {s : St} {d : Bool} {e : Ed} {r : List (Bool × Ed)}
theorem RInv.low (h : RInv o a b V s r) : ∀ p ∈ r, s.x ≤ p.2.pos ∧ 0 ≤ p.2.pos ∧ 0 ≤ p.2.del ∧ p.2.pos + p.2.del ≤ o.length ∧ p.2.ins.length ≤ a.length + b.length := by
  obtain ⟨last, hl1, hl2, hr0, hr1⟩ := h.inv.last
  obtain ⟨X, Y, Z, hx, hy, hz, hX, hY, hZ, ha, hb⟩ := h.inv.at_
  have hin : ∀ (c : Ls) (k : Nat) (l : List Ed), (play o k l).length ≤ c.length → ∀ f ∈ l, f.ins.length ≤ c.length := by
    intro c k l
    induction l generalizing k with
    | nil => intro _ f hf; cases hf
    | cons g l ih =>
      intro hp f hf
      rw [play] at hp
      simp only [List.length_append] at hp
      rcases List.mem_cons.1 hf with rfl | hf
      · omega
      · exact ih (g.pos.toNat + g.del.toNat) (by omega) f hf
  rintro ⟨q, f⟩ hp
  cases q
  · have h1 := right_low hr0 hl1 f (mem_ofS.2 hp)
    have h2 := hin a X (ofS false r) (by rw [← ha, List.length_drop]; omega) f (mem_ofS.2 hp)
    simp only
    omega
  · have h1 := right_low hr1 hl1 f (mem_ofS.2 hp)
    have h2 := hin b X (ofS true r) (by rw [← hb, List.length_drop]; omega) f (mem_ofS.2 hp)
    simp only
    omega
theorem clo_to (h0 : 0 ≤ e.pos) (h1 : 0 ≤ e.del) : (clo d e r).fr = e.pos ∧ (∀ p ∈ clu d e r, p.2.pos + p.2.del ≤ (clo d e r).to) ∧ ∀ u : Int, (∀ p ∈ clu d e r, p.2.pos + p.2.del ≤ u) → (clo d e r).to ≤ u := by
  have tf := take_first d e h0 h1
  have hg := grow_is ((Cl.zero e.pos).take d e) r
  unfold clo clu
  rw [hg, tf]
  simp only
  rw [← tf]
  refine ⟨trivial, fun p hp => ?_, fun u hu => ?_⟩
  · rcases List.mem_cons.1 hp with rfl | hp
    · exact ends_ge _ _
    · exact ends_mem _ _ p hp
  · exact ends_le _ _ _ (hu (d, e) (by simp)) fun p hp => hu p (by simp [hp])
theorem RInv.rest (h : RInv o a b V s ((d, e) :: r)) : ∀ p ∈ clr d e r, (clo d e r).to < p.2.pos :=
  grow_rest _ r (List.pairwise_cons.1 h.inv.srt).2
/-- the region's state behind a cluster -/
def nxt (a b : Ls) (s : St) (d : Bool) (e : Ed) (r : List (Bool × Ed)) : St := (s.keep a b (clo d e r).fr).add a b (clo d e r)
theorem keep_x (a b : Ls) (s : St) (t : Int) (h : s.x ≤ t) : (s.keep a b t).x = t := by
  unfold St.keep
  split
  · show s.x + (t - s.x) = t; omega
  · omega
theorem RInv.next_x (h : RInv o a b V s ((d, e) :: r)) : (nxt a b s d e r).x = (clo d e r).to := by
  have hl := h.low (d, e) (by simp)
  have hf := (clo_to (d := d) (e := e) (r := r) hl.2.1 hl.2.2.1).1
  show (s.keep a b (clo d e r).fr).x + ((clo d e r).to - (clo d e r).fr) = _
  rw [keep_x a b s _ (by rw [hf]; exact hl.1)]
  omega
theorem RInv.next (h : RInv o a b V s ((d, e) :: r)) : RInv o a b (V ++ clu d e r) (nxt a b s d e r) (clr d e r) := by
  have hl := h.low (d, e) (by simp)
  obtain ⟨hf, hm, _⟩ := clo_to (d := d) (e := e) (r := r) hl.2.1 hl.2.2.1
  refine ⟨step_ok h.inv, by rw [h.all, List.append_assoc, clu_all], fun p hp => ?_, fun _ p hp => ?_⟩
  · rw [h.next_x]
    rcases List.mem_append.1 hp with hp | hp
    · have h1 := h.old p hp
      have h2 := hm (d, e) (by simp [clu])
      simp only at h2 hl
      omega
    · exact hm p hp
  · rw [h.next_x]; exact h.rest p hp
theorem RInv.mem (_h : RInv o a b V s ((d, e) :: r)) {p : Bool × Ed} (hp : p ∈ clu d e r) : p ∈ (d, e) :: r := by rw [← clu_all d e r]; exact List.mem_append_left _ hp
theorem RInv.closed (h : RInv o a b V s ((d, e) :: r)) {p q : Bool × Ed} (hp : p ∈ clu d e r) (hq : q ∈ mrg (D o a) (D o b)) (hm : meetE p.2 q.2 = true) : q ∈ clu d e r := by
  obtain ⟨m1, m2⟩ := meetE_iff.1 hm
  have hl := h.low (d, e) (by simp)
  obtain ⟨hf, hto, _⟩ := clo_to (d := d) (e := e) (r := r) hl.2.1 hl.2.2.1
  rw [h.all, ← clu_all d e r] at hq
  rcases List.mem_append.1 hq with hq | hq
  · exfalso
    have h1 := h.old q hq
    have h2 := h.new (fun e => by rw [e] at hq; cases hq) p (h.mem hp)
    omega
  · rcases List.mem_append.1 hq with hq | hq
    · exact hq
    · exfalso
      have h1 := h.rest q hq
      have h2 := hto p hp
      omega
/-- those of another part aren't of the cluster -/
theorem RInv.apart (h : RInv o a b V s ((d, e) :: r)) {p : Bool × Ed} (hp : p ∈ V ∨ p ∈ clr d e r) : p ∉ clu d e r := by
  intro hc
  have hl := h.low (d, e) (by simp)
  obtain ⟨hf, hto, _⟩ := clo_to (d := d) (e := e) (r := r) hl.2.1 hl.2.2.1
  have h0 := h.low p (h.mem hc)
  rcases hp with hp | hp
  · have h1 := h.old p hp
    have h2 := h.new (fun e => by rw [e] at hp; cases hp) p (h.mem hc)
    omega
  · have h1 := h.rest p hp
    have h2 := hto p hc
    omega
end
end Go.Proofs.YtahcokfoifdlmaaGreatDoor.Al
namespace Go.Proofs.YtahcokfoifdlmaaGreatDoor.Al
open Go.Proofs.YtahcokfoifdlmaaGreatDoor.Df

/-- a region of the one side's, the other side's, and both sides' -/
def Kd3 (r q s : Rg) : Prop := (r.kind = 0 ∧ q.kind = 0 ∧ s.kind = 0) ∨ (r.kind = 1 ∧ q.kind = 2 ∧ s.kind = 3)
def Kin : List Rg → List Rg → List Rg → Prop
  | [], [], [] => True
  | r :: l, q :: m, s :: n => Kd3 r q s ∧ Kin l m n
  | _, _, _ => False
theorem Kin.snoc : ∀ {l m n : List Rg} {r q s : Rg}, Kin l m n → Kd3 r q s → Kin (l ++ [r]) (m ++ [q]) (n ++ [s])
  | [], [], [], _, _, _, _, h => ⟨h, trivial⟩
  | _ :: _, _ :: _, _ :: _, _, _, _, h, h' => ⟨h.1, Kin.snoc h.2 h'⟩
  | [], _ :: _, _, _, _, _, h, _ => by cases h
  | [], [], _ :: _, _, _, _, h, _ => by cases h
  | _ :: _, [], _, _, _, _, h, _ => by cases h
  | _ :: _, _ :: _, [], _, _, _, h, _ => by cases h
theorem Kin.len : ∀ {l m n : List Rg}, Kin l m n → m.length = l.length ∧ n.length = l.length
  | [], [], [], _ => ⟨rfl, rfl⟩
  | _ :: _, _ :: _, _ :: _, h => by
    have := Kin.len h.2
    simp only [List.length_cons]
    omega
  | [], _ :: _, _, h => by cases h
  | [], [], _ :: _, h => by cases h
  | _ :: _, [], _, h => by cases h
  | _ :: _, _ :: _, [], h => by cases h
theorem Kin.at : ∀ {l m n : List Rg} {k : Nat} {r q s : Rg}, Kin l m n → l[k]? = some r → m[k]? = some q → n[k]? = some s → Kd3 r q s
  | [], _, _, _, _, _, _, _, h, _, _ => by simp at h
  | _ :: _, _ :: _, _ :: _, 0, _, _, _, h, h1, h2, h3 => by
    simp at h1 h2 h3
    subst h1 h2 h3
    exact h.1
  | _ :: _, _ :: _, _ :: _, k + 1, _, _, _, h, h1, h2, h3 => Kin.at h.2 (by simpa using h1) (by simpa using h2) (by simpa using h3)
  | _ :: _, [], _, _, _, _, _, h, _, _, _ => by cases h
  | _ :: _, _ :: _, [], _, _, _, _, h, _, _, _ => by cases h
/-- clusters that go side by side -/
structure C3 (c d e : Cl) : Prop where
  fr : d.fr = c.fr ∧ e.fr = c.fr
  to : d.to = c.to ∧ e.to = c.to
  z : c.n1 = 0 ∧ d.n0 = 0
  p : 0 < c.n0 ∧ 0 < d.n1 ∧ 0 < e.n0 ∧ 0 < e.n1
  m : e.m0 = e.m1
theorem C3.take {c d e : Cl} (h : C3 c d e) (f : Ed) : C3 (c.take false f) (d.take true f) ((e.take false f).take true f) := by
  obtain ⟨⟨h1, h2⟩, ⟨h3, h4⟩, ⟨h5, h6⟩, ⟨h7, h8, h9, h10⟩, h11⟩ := h
  refine ⟨⟨h1, h2⟩, ⟨?_, ?_⟩, ⟨h5, h6⟩, ⟨?_, ?_, ?_, ?_⟩, ?_⟩ <;> simp only [Cl.take, Bool.false_eq_true, if_false, if_true] <;> omega
/-- states that go side by side -/
structure S3 (s t u : St) : Prop where
  x : t.x = s.x ∧ u.x = s.x
  y : u.y = u.z
  l : Kin s.l t.l u.l
section
variable {o a : Ls} {s t u : St}
theorem S3.add {c d e : Cl} (h : S3 s t u) (hc : C3 c d e) : S3 (s.add a o c) (t.add o a d) (u.add a a e) := by
  refine ⟨⟨?_, ?_⟩, ?_, ?_⟩
  · show t.x + (d.to - d.fr) = s.x + (c.to - c.fr)
    rw [h.x.1, hc.to.1, hc.fr.1]
  · show u.x + (e.to - e.fr) = s.x + (c.to - c.fr)
    rw [h.x.2, hc.to.2, hc.fr.2]
  · show u.y + (e.to - e.fr + e.m0) = u.z + (e.to - e.fr + e.m1)
    rw [h.y, hc.m]
  · refine h.l.snoc (.inr ⟨?_, ?_, ?_⟩)
    · simp only [kindOf]
      rw [if_neg (by have := hc.p.1; omega), if_pos hc.z.1]
    · simp only [kindOf]
      rw [if_neg (by have := hc.p.2.1; omega), if_neg (by have := hc.p.2.1; omega), if_pos hc.z.2]
    · simp only [kindOf]
      rw [if_neg (by have := hc.p.2.2; omega), if_neg (by have := hc.p.2.2; omega), if_neg (by have := hc.p.2.2; omega), if_pos (by rw [h.y, hc.m])]
theorem S3.keep (h : S3 s t u) (n : Int) : S3 (s.keep a o n) (t.keep o a n) (u.keep a a n) := by
  unfold St.keep
  by_cases hlt : s.x < n
  · rw [if_pos hlt, if_pos (by rw [h.x.1]; exact hlt), if_pos (by rw [h.x.2]; exact hlt)]
    refine ⟨⟨?_, ?_⟩, ?_, h.l.snoc (.inl ⟨rfl, rfl, rfl⟩)⟩
    · show t.x + (n - t.x) = s.x + (n - s.x); omega
    · show u.x + (n - u.x) = s.x + (n - s.x); omega
    · show u.y + (n - u.x + 0) = u.z + (n - u.x + 0)
      rw [h.y]
  · rw [if_neg hlt, if_neg (by rw [h.x.1]; exact hlt), if_neg (by rw [h.x.2]; exact hlt)]
    exact h
end
end Go.Proofs.YtahcokfoifdlmaaGreatDoor.Al
namespace Go.Proofs.YtahcokfoifdlmaaGreatDoor.Al
open Go.Proofs.YtahcokfoifdlmaaGreatDoor.Df

/-- the same edits of two sides, with the sides changed -/
structure Sw (l m : List (Bool × Ed)) : Prop where
  l_ : Srt l
  m_ : Srt m
  f_ : ofS false m = ofS true l
  t_ : ofS true m = ofS false l
theorem Sw.symm {l m : List (Bool × Ed)} (h : Sw l m) : Sw m l := ⟨h.m_, h.l_, h.t_.symm, h.f_.symm⟩
theorem Sw.mem {l m : List (Bool × Ed)} (h : Sw l m) {p : Bool × Ed} (hp : p ∈ m) : (!p.1, p.2) ∈ l := by
  obtain ⟨s, e⟩ := p
  cases s
  · exact mem_ofS.1 (h.f_ ▸ mem_ofS.2 hp)
  · exact mem_ofS.1 (h.t_ ▸ mem_ofS.2 hp)
theorem grow_to_le : ∀ (c : Cl) (l : List (Bool × Ed)) (u : Int), c.to ≤ u → (∀ p ∈ l, p.2.pos ≤ u → p.2.pos + p.2.del ≤ u) → (grow c l).1.to ≤ u
  | _, [], _, h, _ => h
  | c, (s, e) :: r, u, h, hc => by
    rw [grow]
    split
    · exact h
    · have h1 := hc (s, e) (by simp) (by simp only; omega)
      refine grow_to_le _ r u ?_ fun p hp => hc p (by simp [hp])
      simp only at h1
      cases s <;> simp only [Cl.take, Bool.false_eq_true, if_false, if_true] <;> omega
theorem grow_ge (c : Cl) (l : List (Bool × Ed)) : c.to ≤ (grow c l).1.to := by
  rw [grow_is]
  exact ends_ge _ _
theorem tak_end (c : Cl) (l : List (Bool × Ed)) (p : Bool × Ed) (h : p ∈ tak c l) : p.2.pos + p.2.del ≤ (grow c l).1.to := by
  rw [grow_is]
  exact ends_mem _ _ p h
theorem grow_closed (c : Cl) (l : List (Bool × Ed)) (hs : Srt l) (p : Bool × Ed) (hp : p ∈ l) (hq : p.2.pos ≤ (grow c l).1.to) : p.2.pos + p.2.del ≤ (grow c l).1.to := by
  rw [← tak_grow c l] at hp
  rcases List.mem_append.1 hp with h | h
  · exact tak_end c l p h
  · have := grow_rest c l hs p h; omega
theorem Sw.to {l m : List (Bool × Ed)} (h : Sw l m) {c d : Cl} (hc : d.to = c.to) : (grow d m).1.to = (grow c l).1.to := by
  apply Int.le_antisymm
  · exact grow_to_le d m _ (by rw [hc]; exact grow_ge c l) fun p hp hq => grow_closed c l h.l_ (!p.1, p.2) (h.mem hp) hq
  · exact grow_to_le c l _ (by rw [← hc]; exact grow_ge d m) fun p hp hq => grow_closed d m h.m_ (!p.1, p.2) (h.symm.mem hp) hq
theorem tak_filter (c : Cl) (l : List (Bool × Ed)) (hs : Srt l) (hd : ∀ p ∈ l, 0 ≤ p.2.del) (t : Int) (ht : (grow c l).1.to = t) :
    tak c l = l.filter (fun p => decide (p.2.pos ≤ t)) ∧ (grow c l).2 = l.filter (fun p => !decide (p.2.pos ≤ t)) := by
  have e := tak_grow c l
  have hm : ∀ p ∈ tak c l, p ∈ l := fun p hp => by rw [← e]; exact List.mem_append_left _ hp
  have h1 : ∀ p ∈ tak c l, p.2.pos ≤ t := fun p hp => by have := tak_end c l p hp; have := hd p (hm p hp); omega
  have h2 : ∀ p ∈ (grow c l).2, ¬ p.2.pos ≤ t := fun p hp => by have := grow_rest c l hs p hp; omega
  have k : ∀ f : Bool × Ed → Bool, l.filter f = (tak c l).filter f ++ (grow c l).2.filter f := fun f => by rw [← List.filter_append, e]
  rw [k, k]
  constructor
  · rw [List.filter_eq_self.2 fun p hp => decide_eq_true (h1 p hp), List.filter_eq_nil_iff.2 fun p hp => by simp [h2 p hp], List.append_nil]
  · rw [List.filter_eq_nil_iff.2 fun p hp => by simp [h1 p hp], List.filter_eq_self.2 fun p hp => by simp [h2 p hp], List.nil_append]
theorem ofS_filter (q : Bool) (g : Ed → Bool) : ∀ l : List (Bool × Ed), ofS q (l.filter fun p => g p.2) = (ofS q l).filter g
  | [] => rfl
  | (s, e) :: r => by
    have ih := ofS_filter q g r
    rw [List.filter_cons]
    by_cases hs : s = q
    · subst hs
      rw [ofS_same, List.filter_cons]
      by_cases hg : g e = true
      · rw [if_pos hg, if_pos hg, ofS_same, ih]
      · rw [if_neg hg, if_neg hg, ih]
    · rw [ofS_other _ _ hs]
      by_cases hg : g e = true
      · rw [if_pos hg, ofS_other _ _ hs, ih]
      · rw [if_neg hg, ih]
def Cl.sw (c : Cl) : Cl := ⟨c.fr, c.to, c.n1, c.m1, c.n0, c.m0⟩
theorem Sw.grow {l m : List (Bool × Ed)} (h : Sw l m) (hd : ∀ p ∈ l, 0 ≤ p.2.del) (c : Cl) : (Al.grow c.sw m).1 = (Al.grow c l).1.sw ∧ Sw (Al.grow c l).2 (Al.grow c.sw m).2 := by
  have ht := h.to (c := c) (d := c.sw) rfl
  obtain ⟨t, et⟩ : ∃ t, (Al.grow c l).1.to = t := ⟨_, rfl⟩
  rw [et] at ht
  have hd' : ∀ p ∈ m, 0 ≤ p.2.del := fun p hp => hd (!p.1, p.2) (h.mem hp)
  obtain ⟨a1, a2⟩ := tak_filter c l h.l_ hd t et
  obtain ⟨b1, b2⟩ := tak_filter c.sw m h.m_ hd' t ht
  have e0 : ofS false (tak c.sw m) = ofS true (tak c l) := by rw [a1, b1, ofS_filter _ (fun e => decide (e.pos ≤ t)), ofS_filter _ (fun e => decide (e.pos ≤ t)), h.f_]
  have e1 : ofS true (tak c.sw m) = ofS false (tak c l) := by rw [a1, b1, ofS_filter _ (fun e => decide (e.pos ≤ t)), ofS_filter _ (fun e => decide (e.pos ≤ t)), h.t_]
  refine ⟨?_, ?_⟩
  · have g1 := grow_is c l
    have g2 := grow_is c.sw m
    have q1 : ends c.to (tak c l) = t := by rw [← et, g1]
    have q2 : ends c.sw.to (tak c.sw m) = t := by rw [← ht, g2]
    rw [g1, g2, e0, e1, q1, q2]
    rfl
  · rw [a2, b2]
    refine ⟨h.l_.filter _, h.m_.filter _, ?_, ?_⟩
    · rw [ofS_filter _ (fun e => !decide (e.pos ≤ t)), ofS_filter _ (fun e => !decide (e.pos ≤ t)), h.f_]
    · rw [ofS_filter _ (fun e => !decide (e.pos ≤ t)), ofS_filter _ (fun e => !decide (e.pos ≤ t)), h.t_]
def swk (k : Int) : Int := if k = 1 then 2 else if k = 2 then 1 else k
def Rg.sw (r : Rg) : Rg := ⟨swk r.kind, r.o0, r.on, r.b0, r.bn, r.a0, r.an⟩
def St.sw (s : St) : St := ⟨s.x, s.z, s.y, s.l.map Rg.sw⟩
end Go.Proofs.YtahcokfoifdlmaaGreatDoor.Al
namespace Go.Proofs.YtahcokfoifdlmaaGreatDoor.Al
open Go.Proofs.YtahcokfoifdlmaaGreatDoor.Df

/-- a line with its end -/
def shut (s : List UInt8) : List UInt8 := if s.getLast? = some 10 then s else s ++ [10]
def mk7 (x : UInt8) : List UInt8 := [x, x, x, x, x, x, x, 10]
/-- a region's lines, with marks -/
def mgX (p q r : Ls) : Ls := [mk7 60] ++ q.map shut ++ [mk7 124] ++ p.map shut ++ [mk7 61] ++ r.map shut ++ [mk7 62]
/-- a region's lines -/
def mgR (o a b : Ls) (r : Rg) : Ls :=
  if r.kind = 4 then mgX (cut o r.o0 r.on) (cut a r.a0 r.an) (cut b r.b0 r.bn)
  else if r.kind = 2 then cut b r.b0 r.bn else cut a r.a0 r.an
def mgF (o a b : Ls) (L : List Rg) : Ls := L.flatMap (mgR o a b)
def mgC : List Rg → Nat
  | [] => 0
  | r :: l => (if r.kind = 4 then 1 else 0) + mgC l
def mgL (o a b : Ls) : Ls := mgF o a b (regs o a b)
def mgN (o a b : Ls) : Nat := mgC (regs o a b)
/-- a region's spans, as numbers -/
structure Spn (o a b : Ls) (r : Rg) (O ON A AN B BN : Nat) : Prop where
  o0 : r.o0 = O
  on : r.on = ON
  a0 : r.a0 = A
  an : r.an = AN
  b0 : r.b0 = B
  bn : r.bn = BN
  oo : O + ON ≤ o.length
  aa : A + AN ≤ a.length
  bb : B + BN ≤ b.length
  hk : holdsK r.kind (cut o r.o0 r.on) (cut a r.a0 r.an) (cut b r.b0 r.bn) = true
theorem Spn.of {o a b : Ls} {x y z : Int} {r : Rg} (h : chk o a b x y z r = true) (hx : 0 ≤ x) (hy : 0 ≤ y) (hz : 0 ≤ z) : (∃ O ON A AN B BN, Spn o a b r O ON A AN B BN) ∧ r.o0 = x ∧ r.a0 = y ∧ r.b0 = z ∧ 0 ≤ r.on ∧ 0 ≤ r.an ∧ 0 ≤ r.bn := by
  unfold chk at h
  rw [Bool.and_eq_true, Bool.and_eq_true, Bool.and_eq_true, fol_yes, fol_yes, fol_yes] at h
  obtain ⟨⟨⟨⟨h1, h2, h3⟩, h4, h5, h6⟩, h7, h8, h9⟩, hk⟩ := h
  obtain ⟨O, e1⟩ := Int.eq_ofNat_of_zero_le hx
  obtain ⟨A, e2⟩ := Int.eq_ofNat_of_zero_le hy
  obtain ⟨B, e3⟩ := Int.eq_ofNat_of_zero_le hz
  obtain ⟨ON, e4⟩ := Int.eq_ofNat_of_zero_le h2
  obtain ⟨AN, e5⟩ := Int.eq_ofNat_of_zero_le h5
  obtain ⟨BN, e6⟩ := Int.eq_ofNat_of_zero_le h8
  rw [← h1, ← h4, ← h7] at hk
  exact ⟨⟨O, ON, A, AN, B, BN, by omega, e4, by omega, e5, by omega, e6, by omega, by omega, by omega, hk⟩, h1, h4, h7, h2, h5, h8⟩
theorem Spn.mem {o a b : Ls} : ∀ {L : List Rg} {x y z : Int}, okF o a b x y z L = true → 0 ≤ x → 0 ≤ y → 0 ≤ z → ∀ r ∈ L, ∃ O ON A AN B BN, Spn o a b r O ON A AN B BN
  | [], _, _, _, _, _, _, _, r, hr => by cases hr
  | q :: L, x, y, z, h, hx, hy, hz, r, hr => by
    rw [okF, Bool.and_eq_true] at h
    obtain ⟨h1, h2⟩ := h
    obtain ⟨e, _, _, _, h3, h4, h5⟩ := Spn.of h1 hx hy hz
    rcases List.mem_cons.1 hr with rfl | hr
    · exact e
    · exact Spn.mem h2 (by omega) (by omega) (by omega) r hr
theorem Spn.regs (o a b : Ls) (r : Rg) (hr : r ∈ Al.regs o a b) : ∃ O ON A AN B BN, Spn o a b r O ON A AN B BN :=
  Spn.mem (regs_ok o a b).1 (Int.le_refl _) (Int.le_refl _) (Int.le_refl _) r hr
theorem Kin.all : ∀ {l m n : List Rg}, Kin l m n → (∀ r ∈ l, r.kind = 0 ∨ r.kind = 1) ∧ (∀ r ∈ m, r.kind = 0 ∨ r.kind = 2) ∧ (∀ r ∈ n, r.kind = 0 ∨ r.kind = 3)
  | [], [], [], _ => by simp
  | r :: l, q :: m, s :: n, h => by
    obtain ⟨h1, h2, h3⟩ := Kin.all h.2
    rcases h.1 with ⟨k1, k2, k3⟩ | ⟨k1, k2, k3⟩
    · simp only [List.mem_cons, forall_eq_or_imp, k1, k2, k3, true_or, true_and]; exact ⟨h1, h2, h3⟩
    · simp only [List.mem_cons, forall_eq_or_imp, k1, k2, k3, or_true, true_and]; exact ⟨h1, h2, h3⟩
  | [], _ :: _, _, h => by cases h
  | [], [], _ :: _, h => by cases h
  | _ :: _, [], _, h => by cases h
  | _ :: _, _ :: _, [], h => by cases h
end Go.Proofs.YtahcokfoifdlmaaGreatDoor.Al
namespace Go.Proofs.YtahcokfoifdlmaaGreatDoor.Al
open Go Go.RowKit Kt Lw Li Df
attribute [local irreducible] ByteArray.toList

abbrev tC : TypeId := 168
abbrev tL : TypeId := 163
abbrev tPs : TypeId := 159
def clC (c : Cl) : List Value := [.int .i64 c.fr, .int .i64 c.to, .int .i64 c.n0, .int .i64 c.m0, .int .i64 c.n1, .int .i64 c.m1]
end Go.Proofs.YtahcokfoifdlmaaGreatDoor.Al
namespace Go.Proofs.YtahcokfoifdlmaaGreatDoor.Al
open Go Go.RowKit Kt Lw Li Df

abbrev tR : TypeId := 143
theorem agree {w w' : World} {b j : Nat} {v : Value} (h : w.cell? ⟨b, j, none⟩ = some v) (hb : Below w.heap.size w w') : w'.cell? ⟨b, j, none⟩ = some v :=
  (World.cell?_of_block (a := ⟨b, j, none⟩) (hb.block b (World.block_lt_of_cell? w ⟨b, j, none⟩ h))).trans h
end Go.Proofs.YtahcokfoifdlmaaGreatDoor.Al
