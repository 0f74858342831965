/-
  The reference's regions, on lists: what a cluster's edits are by their places.
-/
import Derived.Test.YtghnieddokhagaaQEB
import Derived.Test.YtghnieddokhagaaQTE
namespace Go.Proofs.Ytghnieddokhagaa.Al
open Go.Proofs.Ytghnieddokhagaa.Df

/-- the edits of both sides, by their places in one list -/
def el (F G : List Ed) (i : Nat) : Bool × Ed := if i < F.length then (false, F.getD i ⟨0, 0, []⟩) else (true, G.getD (i - F.length) ⟨0, 0, []⟩)
theorem el_left {F G : List Ed} {i : Nat} (h : i < F.length) : el F G i = (false, F.getD i ⟨0, 0, []⟩) := if_pos h
theorem el_right {F G : List Ed} {i : Nat} (h : ¬ i < F.length) : el F G i = (true, G.getD (i - F.length) ⟨0, 0, []⟩) := if_neg h
theorem getD_memE {l : List Ed} {i : Nat} (h : i < l.length) : l.getD i ⟨0, 0, []⟩ ∈ l := by simp [List.getElem?_eq_getElem h]
theorem mem_both {F G : List Ed} {p : Bool × Ed} : p ∈ mrg F G ↔ (p.1 = false ∧ p.2 ∈ F) ∨ (p.1 = true ∧ p.2 ∈ G) := by
  obtain ⟨h0, h1⟩ := ofS_mrg _ F G (Nat.le_refl _)
  obtain ⟨s, e⟩ := p
  cases s
  · rw [← mem_ofS, h0]; simp
  · rw [← mem_ofS, h1]; simp
theorem el_mem {F G : List Ed} {i : Nat} (h : i < F.length + G.length) : el F G i ∈ mrg F G := by
  by_cases hi : i < F.length
  · rw [el_left hi]; exact mem_both.2 (.inl ⟨rfl, getD_memE hi⟩)
  · rw [el_right hi]; exact mem_both.2 (.inr ⟨rfl, getD_memE (by omega)⟩)
theorem mem_at {l : List Ed} {e : Ed} (h : e ∈ l) : ∃ i, i < l.length ∧ l.getD i ⟨0, 0, []⟩ = e := by
  obtain ⟨i, hi⟩ := List.getElem?_of_mem h
  exact ⟨i, (List.getElem?_eq_some_iff.1 hi).1, by rw [List.getD_eq_getElem?_getD, hi]; rfl⟩
theorem el_ex {F G : List Ed} {p : Bool × Ed} (h : p ∈ mrg F G) : ∃ i, i < F.length + G.length ∧ el F G i = p := by
  obtain ⟨s, e⟩ := p
  rcases mem_both.1 h with ⟨h1, h2⟩ | ⟨h1, h2⟩
  · obtain ⟨i, hi, he⟩ := mem_at h2
    simp only at h1 he
    exact ⟨i, by omega, by rw [el_left hi, he, h1]⟩
  · obtain ⟨i, hi, he⟩ := mem_at h2
    simp only at h1 he
    refine ⟨F.length + i, by omega, ?_⟩
    rw [el_right (by omega), Nat.add_sub_cancel_left, he, h1]
theorem range_els (F G : List Ed) : (List.range (F.length + G.length)).map (el F G) = F.map (fun e => (false, e)) ++ G.map (fun e => (true, e)) := by
  apply List.ext_getElem?
  intro i
  rcases Nat.lt_or_ge i (F.length + G.length) with h | h
  · rw [List.getElem?_map, List.getElem?_range h]
    by_cases hi : i < F.length
    · rw [List.getElem?_append_left (by simpa using hi), List.getElem?_map, List.getElem?_eq_getElem hi]
      simp [el_left hi, List.getElem?_eq_getElem hi]
    · rw [List.getElem?_append_right (by simp; omega), List.getElem?_map, List.length_map, List.getElem?_eq_getElem (show i - F.length < G.length by omega)]
      simp [el_right hi, List.getElem?_eq_getElem (show i - F.length < G.length by omega)]
  · rw [List.getElem?_eq_none (by simpa using h), List.getElem?_eq_none (by simpa using h)]

/-- what holds where a cluster begins, of those gone through too -/
structure RInv (o a b : Ls) (V : List (Bool × Ed)) (s : St) (l : List (Bool × Ed)) : Prop where
  inv : Inv o a b s l
  all : mrg (D o a) (D o b) = V ++ l
  old : ∀ p ∈ V, p.2.pos + p.2.del ≤ s.x
  new : V ≠ [] → ∀ p ∈ l, s.x < p.2.pos
theorem RInv.start (o a b : Ls) : RInv o a b [] ⟨0, 0, 0, []⟩ (mrg (D o a) (D o b)) :=
  ⟨start_inv o a b, rfl, (fun p h => by cases h), fun h => absurd rfl h⟩
/-- a cluster, taken -/
def clo (d : Bool) (e : Ed) (r : List (Bool × Ed)) : Cl := (grow ((Cl.zero e.pos).take d e) r).1
def clr (d : Bool) (e : Ed) (r : List (Bool × Ed)) : List (Bool × Ed) := (grow ((Cl.zero e.pos).take d e) r).2
theorem clu_all (d : Bool) (e : Ed) (r : List (Bool × Ed)) : clu d e r ++ clr d e r = (d, e) :: r := by
  rw [clu, clr, List.cons_append, tak_grow]
section
variable {o a b : Ls} {V : List (Bool × Ed)} {s : St} {d : Bool} {e : Ed} {r : List (Bool × Ed)}
theorem RInv.low (h : RInv o a b V s r) : ∀ p ∈ r, s.x ≤ p.2.pos ∧ 0 ≤ p.2.pos ∧ 0 ≤ p.2.del ∧ p.2.pos + p.2.del ≤ o.length ∧ p.2.ins.length ≤ a.length + b.length := by
  obtain ⟨last, hl1, hl2, hr0, hr1⟩ := h.inv.last
  obtain ⟨X, Y, Z, hx, hy, hz, hX, hY, hZ, ha, hb⟩ := h.inv.at_
  have hin : ∀ (c : Ls) (k : Nat) (l : List Ed), (play o k l).length ≤ c.length → ∀ f ∈ l, f.ins.length ≤ c.length := by
    intro c k l
    induction l generalizing k with
    | nil => intro _ f hf; cases hf
    | cons g l ih =>
      intro hp f hf
      rw [play] at hp
      simp only [List.length_append] at hp
      rcases List.mem_cons.1 hf with rfl | hf
      · omega
      · exact ih (g.pos.toNat + g.del.toNat) (by omega) f hf
  rintro ⟨q, f⟩ hp
  cases q
  · have h1 := right_low hr0 hl1 f (mem_ofS.2 hp)
    have h2 := hin a X (ofS false r) (by rw [← ha, List.length_drop]; omega) f (mem_ofS.2 hp)
    simp only
    omega
  · have h1 := right_low hr1 hl1 f (mem_ofS.2 hp)
    have h2 := hin b X (ofS true r) (by rw [← hb, List.length_drop]; omega) f (mem_ofS.2 hp)
    simp only
    omega
theorem clo_to (h0 : 0 ≤ e.pos) (h1 : 0 ≤ e.del) : (clo d e r).fr = e.pos ∧ (∀ p ∈ clu d e r, p.2.pos + p.2.del ≤ (clo d e r).to) ∧ ∀ u : Int, (∀ p ∈ clu d e r, p.2.pos + p.2.del ≤ u) → (clo d e r).to ≤ u := by
  have tf := take_first d e h0 h1
  have hg := grow_is ((Cl.zero e.pos).take d e) r
  unfold clo clu
  rw [hg, tf]
  simp only
  rw [← tf]
  refine ⟨trivial, fun p hp => ?_, fun u hu => ?_⟩
  · rcases List.mem_cons.1 hp with rfl | hp
    · exact ends_ge _ _
    · exact ends_mem _ _ p hp
  · exact ends_le _ _ _ (hu (d, e) (by simp)) fun p hp => hu p (by simp [hp])
theorem RInv.rest (h : RInv o a b V s ((d, e) :: r)) : ∀ p ∈ clr d e r, (clo d e r).to < p.2.pos :=
  grow_rest _ r (List.pairwise_cons.1 h.inv.srt).2
/-- the region's state behind a cluster -/
def nxt (a b : Ls) (s : St) (d : Bool) (e : Ed) (r : List (Bool × Ed)) : St := (s.keep a b (clo d e r).fr).add a b (clo d e r)
theorem keep_x (a b : Ls) (s : St) (t : Int) (h : s.x ≤ t) : (s.keep a b t).x = t := by
  unfold St.keep
  split
  · show s.x + (t - s.x) = t; omega
  · omega
theorem RInv.next_x (h : RInv o a b V s ((d, e) :: r)) : (nxt a b s d e r).x = (clo d e r).to := by
  have hl := h.low (d, e) (by simp)
  have hf := (clo_to (d := d) (e := e) (r := r) hl.2.1 hl.2.2.1).1
  show (s.keep a b (clo d e r).fr).x + ((clo d e r).to - (clo d e r).fr) = _
  rw [keep_x a b s _ (by rw [hf]; exact hl.1)]
  omega
theorem RInv.next (h : RInv o a b V s ((d, e) :: r)) : RInv o a b (V ++ clu d e r) (nxt a b s d e r) (clr d e r) := by
  have hl := h.low (d, e) (by simp)
  obtain ⟨hf, hm, _⟩ := clo_to (d := d) (e := e) (r := r) hl.2.1 hl.2.2.1
  refine ⟨step_ok h.inv, by rw [h.all, List.append_assoc, clu_all], fun p hp => ?_, fun _ p hp => ?_⟩
  · rw [h.next_x]
    rcases List.mem_append.1 hp with hp | hp
    · have h1 := h.old p hp
      have h2 := hm (d, e) (by simp [clu])
      simp only at h2 hl
      omega
    · exact hm p hp
  · rw [h.next_x]; exact h.rest p hp
theorem RInv.mem (_h : RInv o a b V s ((d, e) :: r)) {p : Bool × Ed} (hp : p ∈ clu d e r) : p ∈ (d, e) :: r := by rw [← clu_all d e r]; exact List.mem_append_left _ hp
theorem RInv.closed (h : RInv o a b V s ((d, e) :: r)) {p q : Bool × Ed} (hp : p ∈ clu d e r) (hq : q ∈ mrg (D o a) (D o b)) (hm : meetE p.2 q.2 = true) : q ∈ clu d e r := by
  obtain ⟨m1, m2⟩ := meetE_iff.1 hm
  have hl := h.low (d, e) (by simp)
  obtain ⟨hf, hto, _⟩ := clo_to (d := d) (e := e) (r := r) hl.2.1 hl.2.2.1
  rw [h.all, ← clu_all d e r] at hq
  rcases List.mem_append.1 hq with hq | hq
  · exfalso
    have h1 := h.old q hq
    have h2 := h.new (fun e => by rw [e] at hq; cases hq) p (h.mem hp)
    omega
  · rcases List.mem_append.1 hq with hq | hq
    · exact hq
    · exfalso
      have h1 := h.rest q hq
      have h2 := hto p hp
      omega
theorem RInv.self (h : RInv o a b V s ((d, e) :: r)) {p : Bool × Ed} (hp : p ∈ clu d e r) : meetE p.2 p.2 = true := by
  have := h.low p (h.mem hp)
  exact meetE_iff.2 ⟨by omega, by omega⟩
/-- those of another part aren't of the cluster -/
theorem RInv.apart (h : RInv o a b V s ((d, e) :: r)) {p : Bool × Ed} (hp : p ∈ V ∨ p ∈ clr d e r) : p ∉ clu d e r := by
  intro hc
  have hl := h.low (d, e) (by simp)
  obtain ⟨hf, hto, _⟩ := clo_to (d := d) (e := e) (r := r) hl.2.1 hl.2.2.1
  have h0 := h.low p (h.mem hc)
  rcases hp with hp | hp
  · have h1 := h.old p hp
    have h2 := h.new (fun e => by rw [e] at hp; cases hp) p (h.mem hc)
    omega
  · have h1 := h.rest p hp
    have h2 := hto p hc
    omega
/-- by the marks -/
theorem RInv.marks (h : RInv o a b V s ((d, e) :: r)) {n : Nat} {L : List Int} (hn : n = (D o a).length + (D o b).length) (hL : Mk n (fun x y => meetE (el (D o a) (D o b) x).2 (el (D o a) (D o b) y).2) n 0 0 L)
    {i j : Nat} (hi : i < n) (hj : j < n) (hCi : el (D o a) (D o b) i ∈ clu d e r) : L.getD j 0 = L.getD i 0 ↔ el (D o a) (D o b) j ∈ clu d e r := by
  have hl := h.low (d, e) (by simp)
  have hsub : ∀ p ∈ clu d e r, p ∈ mrg (D o a) (D o b) := fun p hp => by rw [h.all]; exact List.mem_append_right _ (h.mem hp)
  refine hL.same (fun _ _ => meetE_comm _ _) (fun i => el (D o a) (D o b) i ∈ clu d e r) (fun x y hx hy hxC hm => h.closed hxC (el_mem (by omega)) hm) (fun x y hx hy hx' hy' => ?_) hi hj hCi
  refine path_all (clu_chn d e r hl.2.1 hl.2.2.1) ?_ (fun p hp => (h.low p (h.mem hp)).2.2.1) (fun p hp => by
    obtain ⟨k, hk, he⟩ := el_ex (hsub p hp)
    exact ⟨k, by omega, he⟩) ?_ hx hy hx' hy'
  · have := h.inv.srt
    rw [← clu_all d e r] at this
    exact (List.pairwise_append.1 this).1
  · have h1 := mrg_len _ (D o a) (D o b) (Nat.le_refl _)
    rw [h.all, ← clu_all d e r] at h1
    simp only [List.length_append] at h1
    omega
end
end Go.Proofs.Ytghnieddokhagaa.Al
namespace Go.Proofs.Ytghnieddokhagaa.Al
open Go.Proofs.Ytghnieddokhagaa.Df

def mF (E : List Ed) : List (Bool × Ed) := E.map fun e => (false, e)
def mT (E : List Ed) : List (Bool × Ed) := E.map fun e => (true, e)
/-- each edit on both sides -/
def dbl : List Ed → List (Bool × Ed)
  | [] => []
  | e :: E => (false, e) :: (true, e) :: dbl E
theorem mrg_left : ∀ E : List Ed, mrg E [] = mF E
  | [] => by rw [mrg]; rfl
  | e :: E => by rw [mrg, mrg_left E]; rfl
theorem mrg_right (E : List Ed) : mrg [] E = mT E := by rw [mrg]; rfl
theorem mrg_self {n : Nat} : ∀ {E : List Ed} {last : Int}, right n last E = true → -1 ≤ last → mrg E E = dbl E
  | [], _, _, _ => by rw [mrg]; rfl
  | e :: E, last, h, hl => by
    obtain ⟨p, d, ep, ed, _, _, _, hr'⟩ := right_head h hl
    have ih := mrg_self hr' (by omega)
    rw [mrg, if_pos (Int.le_refl _), dbl]
    congr 1
    cases E with
    | nil => rw [mrg]; rfl
    | cons f E =>
      have := right_low hr' (by omega) f (by simp)
      rw [mrg, if_neg (by omega), ih]
/-- a region of the one side's, the other side's, and both sides' -/
def Kd3 (r q s : Rg) : Prop := (r.kind = 0 ∧ q.kind = 0 ∧ s.kind = 0) ∨ (r.kind = 1 ∧ q.kind = 2 ∧ s.kind = 3)
def Kin : List Rg → List Rg → List Rg → Prop
  | [], [], [] => True
  | r :: l, q :: m, s :: n => Kd3 r q s ∧ Kin l m n
  | _, _, _ => False
theorem Kin.snoc : ∀ {l m n : List Rg} {r q s : Rg}, Kin l m n → Kd3 r q s → Kin (l ++ [r]) (m ++ [q]) (n ++ [s])
  | [], [], [], _, _, _, _, h => ⟨h, trivial⟩
  | _ :: _, _ :: _, _ :: _, _, _, _, h, h' => ⟨h.1, Kin.snoc h.2 h'⟩
  | [], _ :: _, _, _, _, _, h, _ => by cases h
  | [], [], _ :: _, _, _, _, h, _ => by cases h
  | _ :: _, [], _, _, _, _, h, _ => by cases h
  | _ :: _, _ :: _, [], _, _, _, h, _ => by cases h
theorem Kin.len : ∀ {l m n : List Rg}, Kin l m n → m.length = l.length ∧ n.length = l.length
  | [], [], [], _ => ⟨rfl, rfl⟩
  | _ :: _, _ :: _, _ :: _, h => by
    have := Kin.len h.2
    simp only [List.length_cons]
    omega
  | [], _ :: _, _, h => by cases h
  | [], [], _ :: _, h => by cases h
  | _ :: _, [], _, h => by cases h
  | _ :: _, _ :: _, [], h => by cases h
theorem Kin.at : ∀ {l m n : List Rg} {k : Nat} {r q s : Rg}, Kin l m n → l[k]? = some r → m[k]? = some q → n[k]? = some s → Kd3 r q s
  | [], _, _, _, _, _, _, _, h, _, _ => by simp at h
  | _ :: _, _ :: _, _ :: _, 0, _, _, _, h, h1, h2, h3 => by
    simp at h1 h2 h3
    subst h1 h2 h3
    exact h.1
  | _ :: _, _ :: _, _ :: _, k + 1, _, _, _, h, h1, h2, h3 => Kin.at h.2 (by simpa using h1) (by simpa using h2) (by simpa using h3)
  | _ :: _, [], _, _, _, _, _, h, _, _, _ => by cases h
  | _ :: _, _ :: _, [], _, _, _, _, h, _, _, _ => by cases h
/-- clusters that go side by side -/
structure C3 (c d e : Cl) : Prop where
  fr : d.fr = c.fr ∧ e.fr = c.fr
  to : d.to = c.to ∧ e.to = c.to
  z : c.n1 = 0 ∧ d.n0 = 0
  p : 0 < c.n0 ∧ 0 < d.n1 ∧ 0 < e.n0 ∧ 0 < e.n1
  m : e.m0 = e.m1
theorem C3.take {c d e : Cl} (h : C3 c d e) (f : Ed) : C3 (c.take false f) (d.take true f) ((e.take false f).take true f) := by
  obtain ⟨⟨h1, h2⟩, ⟨h3, h4⟩, ⟨h5, h6⟩, ⟨h7, h8, h9, h10⟩, h11⟩ := h
  refine ⟨⟨h1, h2⟩, ⟨?_, ?_⟩, ⟨h5, h6⟩, ⟨?_, ?_, ?_, ?_⟩, ?_⟩ <;> simp only [Cl.take, Bool.false_eq_true, if_false, if_true] <;> omega
theorem grow_sim : ∀ (E : List Ed) (c d e : Cl), C3 c d e → ∃ c' d' e' E', grow c (mF E) = (c', mF E') ∧ grow d (mT E) = (d', mT E') ∧ grow e (dbl E) = (e', dbl E') ∧ C3 c' d' e' ∧ E' <:+ E
  | [], c, d, e, h => ⟨c, d, e, [], rfl, rfl, rfl, h, List.suffix_refl _⟩
  | f :: E, c, d, e, h => by
    by_cases hlt : c.to < f.pos
    · refine ⟨c, d, e, f :: E, ?_, ?_, ?_, h, List.suffix_refl _⟩
      · show grow c ((false, f) :: mF E) = _
        rw [grow, if_pos hlt]; rfl
      · show grow d ((true, f) :: mT E) = _
        rw [grow, if_pos (by rw [h.to.1]; exact hlt)]; rfl
      · rw [dbl, grow, if_pos (by rw [h.to.2]; exact hlt)]
    · obtain ⟨c', d', e', E', g1, g2, g3, g4, g5⟩ := grow_sim E _ _ _ (h.take f)
      refine ⟨c', d', e', E', ?_, ?_, ?_, g4, g5.trans (List.suffix_cons _ _)⟩
      · show grow c ((false, f) :: mF E) = _
        rw [grow, if_neg hlt]; exact g1
      · show grow d ((true, f) :: mT E) = _
        rw [grow, if_neg (by rw [h.to.1]; exact hlt)]; exact g2
      · rw [dbl, grow, if_neg (by rw [h.to.2]; exact hlt), grow, if_neg ?_]
        · exact g3
        · simp only [Cl.take, Bool.false_eq_true, if_false]
          have := h.to.2
          omega
/-- states that go side by side -/
structure S3 (s t u : St) : Prop where
  x : t.x = s.x ∧ u.x = s.x
  y : u.y = u.z
  l : Kin s.l t.l u.l
section
variable {o a : Ls} {s t u : St}
theorem S3.add {c d e : Cl} (h : S3 s t u) (hc : C3 c d e) : S3 (s.add a o c) (t.add o a d) (u.add a a e) := by
  refine ⟨⟨?_, ?_⟩, ?_, ?_⟩
  · show t.x + (d.to - d.fr) = s.x + (c.to - c.fr)
    rw [h.x.1, hc.to.1, hc.fr.1]
  · show u.x + (e.to - e.fr) = s.x + (c.to - c.fr)
    rw [h.x.2, hc.to.2, hc.fr.2]
  · show u.y + (e.to - e.fr + e.m0) = u.z + (e.to - e.fr + e.m1)
    rw [h.y, hc.m]
  · refine h.l.snoc (.inr ⟨?_, ?_, ?_⟩)
    · simp only [kindOf]
      rw [if_neg (by have := hc.p.1; omega), if_pos hc.z.1]
    · simp only [kindOf]
      rw [if_neg (by have := hc.p.2.1; omega), if_neg (by have := hc.p.2.1; omega), if_pos hc.z.2]
    · simp only [kindOf]
      rw [if_neg (by have := hc.p.2.2; omega), if_neg (by have := hc.p.2.2; omega), if_neg (by have := hc.p.2.2; omega), if_pos (by rw [h.y, hc.m])]
theorem S3.keep (h : S3 s t u) (n : Int) : S3 (s.keep a o n) (t.keep o a n) (u.keep a a n) := by
  unfold St.keep
  by_cases hlt : s.x < n
  · rw [if_pos hlt, if_pos (by rw [h.x.1]; exact hlt), if_pos (by rw [h.x.2]; exact hlt)]
    refine ⟨⟨?_, ?_⟩, ?_, h.l.snoc (.inl ⟨rfl, rfl, rfl⟩)⟩
    · show t.x + (n - t.x) = s.x + (n - s.x); omega
    · show u.x + (n - u.x) = s.x + (n - s.x); omega
    · show u.y + (n - u.x + 0) = u.z + (n - u.x + 0)
      rw [h.y]
  · rw [if_neg hlt, if_neg (by rw [h.x.1]; exact hlt), if_neg (by rw [h.x.2]; exact hlt)]
    exact h
end
theorem loop_sim {o a : Ls} : ∀ (n : Nat) (E : List Ed) (s t u : St), E.length ≤ n → (∀ e ∈ E, 0 ≤ e.del) → S3 s t u → S3 (loop a o s (mF E)) (loop o a t (mT E)) (loop a a u (dbl E))
  | _, [], s, t, u, _, _, h => by
    show S3 (loop a o s []) (loop o a t []) (loop a a u [])
    rw [loop_nil, loop_nil, loop_nil]
    exact h
  | 0, _ :: _, _, _, _, h, _, _ => by simp at h
  | n + 1, f :: E, s, t, u, hn, hd, h => by
    have hf := hd f (by simp)
    have h0 : C3 ((Cl.zero f.pos).take false f) ((Cl.zero f.pos).take true f) (((Cl.zero f.pos).take false f).take true f) := by
      refine ⟨⟨rfl, rfl⟩, ⟨rfl, ?_⟩, ⟨rfl, rfl⟩, ⟨?_, ?_, ?_, ?_⟩, ?_⟩ <;> simp only [Cl.take, Cl.zero, Bool.false_eq_true, if_false, if_true] <;> omega
    obtain ⟨c', d', e', E', g1, g2, g3, g4, g5⟩ := grow_sim E _ _ _ h0
    have hlen : E'.length ≤ n := Nat.le_trans (List.IsSuffix.length_le g5) (by simp at hn; omega)
    have g3' : grow ((Cl.zero f.pos).take false f) ((true, f) :: dbl E) = (e', dbl E') := by
      rw [grow, if_neg ?_]
      · exact g3
      · simp only [Cl.take, Cl.zero, Bool.false_eq_true, if_false]
        omega
    show S3 (loop a o s ((false, f) :: mF E)) (loop o a t ((true, f) :: mT E)) (loop a a u ((false, f) :: (true, f) :: dbl E))
    rw [loop_cons, loop_cons, loop_cons, g1, g2, g3']
    simp only
    refine loop_sim n E' _ _ _ hlen (fun e he => hd e (by simp [List.IsSuffix.subset g5 he])) ?_
    rw [g4.fr.1, g4.fr.2]
    exact (h.keep _).add g4
/-- P8.1: of one side's changes, or of changes that are alike, nothing clashes -/
theorem regs_one (o a : Ls) : Kin (regs o a o) (regs o o a) (regs o a a) := by
  have hr := D_right o a
  have hs := loop_sim (o := o) (a := a) _ (D o a) ⟨0, 0, 0, []⟩ ⟨0, 0, 0, []⟩ ⟨0, 0, 0, []⟩ (Nat.le_refl _) (fun e he => (right_low hr (by omega) e he).2.1) ⟨⟨rfl, rfl⟩, rfl, trivial⟩
  unfold regs
  rw [D_self, mrg_left, mrg_right, mrg_self hr (by omega)]
  exact (hs.keep _).l
theorem regs_same (o a : Ls) (h : o = a) : (regs o a o).length ≤ 1 := by
  subst h
  unfold regs
  rw [D_self, mrg_nil, loop_nil]
  unfold St.keep
  split
  · simp [St.add]
  · simp
end Go.Proofs.Ytghnieddokhagaa.Al
namespace Go.Proofs.Ytghnieddokhagaa.Al
open Go.Proofs.Ytghnieddokhagaa.Df

theorem far_last {o a b : Ls} : ∀ {l : List Rg} {x y z x' y' z' : Int} {r : Rg}, Far o a b x y z (l ++ [r]) x' y' z' → 0 ≤ r.on ∧ 0 ≤ r.an ∧ 0 ≤ r.bn
  | [], _, _, _, _, _, _, _, h => by
    have h1 := h.1
    unfold chk at h1
    rw [Bool.and_eq_true, Bool.and_eq_true, Bool.and_eq_true, fol_yes, fol_yes, fol_yes] at h1
    exact ⟨h1.1.1.1.2.1, h1.1.1.2.2.1, h1.1.2.2.1⟩
  | _ :: _, _, _, _, _, _, _, _, h => far_last h.2
/-- where the lines of a cluster, and those ahead of it, are -/
structure Szs (o a b : Ls) (s : St) (c : Cl) (X Y Z p t M1 M2 : Nat) : Prop where
  x : s.x = X
  y : s.y = Y
  z : s.z = Z
  fr : c.fr = p
  to : c.to = t
  Xp : X ≤ p
  pt : p ≤ t
  po : t ≤ o.length
  Ya : Y + (p - X) ≤ a.length
  Zb : Z + (p - X) ≤ b.length
  kx : (s.keep a b p).x = p
  ky : (s.keep a b p).y = (Y + (p - X) : Nat)
  kz : (s.keep a b p).z = (Z + (p - X) : Nat)
  m1 : ((t - p : Nat) : Int) + c.m0 = M1
  m2 : ((t - p : Nat) : Int) + c.m1 = M2
  Y1 : Y + (p - X) + M1 ≤ a.length
  Z1 : Z + (p - X) + M2 ≤ b.length
theorem RInv.szs {o a b : Ls} {V : List (Bool × Ed)} {s : St} {d : Bool} {e : Ed} {r : List (Bool × Ed)} (h : RInv o a b V s ((d, e) :: r)) : ∃ X Y Z p t M1 M2, Szs o a b s (clo d e r) X Y Z p t M1 M2 := by
  obtain ⟨X, Y, Z, hx, hy, hz, hX, hY, hZ, ha, hb⟩ := h.inv.at_
  have hl := h.low (d, e) (by simp)
  simp only at hl
  have hn := h.next
  obtain ⟨X2, Y2, Z2, hx2, hy2, hz2, hX2, hY2, hZ2, _, _⟩ := hn.inv.at_
  obtain ⟨hf, hto, _⟩ := clo_to (d := d) (e := e) (r := r) hl.2.1 hl.2.2.1
  have hto := hto (d, e) (by simp [clu])
  simp only at hto
  obtain ⟨p, hp⟩ := Int.eq_ofNat_of_zero_le (show 0 ≤ e.pos by omega)
  have hnx := h.next_x
  obtain ⟨t, ht⟩ := Int.eq_ofNat_of_zero_le (show 0 ≤ (clo d e r).to by omega)
  have hfar := far_last (l := (s.keep a b (clo d e r).fr).l) hn.inv.far
  simp only at hfar
  rw [hf, hp, ht] at hfar
  have hXp : X ≤ p := by omega
  have srt1 := (List.pairwise_cons.1 h.inv.srt).1
  have hpos : ∀ q ∈ (d, e) :: r, (p : Int) ≤ q.2.pos := by
    intro q hq
    rcases List.mem_cons.1 hq with h' | h'
    · subst h'; simp only; omega
    · have := srt1 _ h'; simp only at this ⊢; omega
  have hpo : p ≤ o.length := by omega
  have pa := congrArg List.length (ha.trans (play_keep o X p (ofS false ((d, e) :: r)) hXp hpo fun f hf => hpos _ (mem_ofS.1 hf)))
  have pb := congrArg List.length (hb.trans (play_keep o X p (ofS true ((d, e) :: r)) hXp hpo fun f hf => hpos _ (mem_ofS.1 hf)))
  rw [List.length_drop, List.length_append, List.length_take, List.length_drop] at pa pb
  have hk : (s.keep a b p).x = p ∧ (s.keep a b p).y = (Y + (p - X) : Nat) ∧ (s.keep a b p).z = (Z + (p - X) : Nat) := by
    unfold St.keep
    split
    · show s.x + (p - s.x) = _ ∧ s.y + (p - s.x + 0) = _ ∧ s.z + (p - s.x + 0) = _
      omega
    · rename_i hh
      have : X = p := by omega
      subst this
      omega
  have hy3 : (nxt a b s d e r).y = (s.keep a b (clo d e r).fr).y + ((clo d e r).to - (clo d e r).fr + (clo d e r).m0) := rfl
  have hz3 : (nxt a b s d e r).z = (s.keep a b (clo d e r).fr).z + ((clo d e r).to - (clo d e r).fr + (clo d e r).m1) := rfl
  rw [hy2, hf, hp, ht, hk.2.1] at hy3
  rw [hz2, hf, hp, ht, hk.2.2] at hz3
  obtain ⟨M1, hM1⟩ := Int.eq_ofNat_of_zero_le hfar.2.1
  obtain ⟨M2, hM2⟩ := Int.eq_ofNat_of_zero_le hfar.2.2
  rw [hM1] at hy3
  rw [hM2] at hz3
  exact ⟨X, Y, Z, p, t, M1, M2, hx, hy, hz, hf.trans hp, ht, hXp, by omega, by omega, by omega, by omega, hk.1, hk.2.1, hk.2.2, by omega, by omega, by omega, by omega⟩
end Go.Proofs.Ytghnieddokhagaa.Al
namespace Go.Proofs.Ytghnieddokhagaa.Al
open Go.Proofs.Ytghnieddokhagaa.Df

/-- what a cluster has, by its edits -/
theorem clo_sums {d : Bool} {e : Ed} {r : List (Bool × Ed)} (h0 : 0 ≤ e.pos) (h1 : 0 ≤ e.del) :
    (clo d e r).n0 = (ofS false (clu d e r)).length ∧ (clo d e r).m0 = more (ofS false (clu d e r)) ∧ (clo d e r).n1 = (ofS true (clu d e r)).length ∧ (clo d e r).m1 = more (ofS true (clu d e r)) := by
  have tf := take_first d e h0 h1
  have hg := grow_is ((Cl.zero e.pos).take d e) r
  unfold clo clu
  rw [hg, tf]
  simp only
  rw [← tf]
  cases d
  · rw [ofS_same, ofS_other _ _ (by decide), more]
    simp
    omega
  · rw [ofS_same, ofS_other _ _ (by decide), more]
    simp
    omega
noncomputable def inC (T : List (Bool × Ed)) (p : Bool × Ed) : Bool := @decide (p ∈ T) (Classical.propDecidable _)
theorem inC_iff {T : List (Bool × Ed)} {p : Bool × Ed} : inC T p = true ↔ p ∈ T := by unfold inC; exact @decide_eq_true_iff _ (Classical.propDecidable _)
theorem filter_mid {α : Type} (f : α → Bool) (A B C : List α) (hA : ∀ x ∈ A, f x = false) (hB : ∀ x ∈ B, f x = true) (hC : ∀ x ∈ C, f x = false) : (A ++ B ++ C).filter f = B := by
  have h1 : A.filter f = [] := List.filter_eq_nil_iff.2 fun x hx => by simp [hA x hx]
  have h2 : C.filter f = [] := List.filter_eq_nil_iff.2 fun x hx => by simp [hC x hx]
  have h3 : B.filter f = B := List.filter_eq_self.2 hB
  rw [List.filter_append, List.filter_append, h1, h2, h3]
  simp
section
variable (φ : Nat → Ed) (C : Nat → Bool) (m : Nat)
def accE (p : Int) : Nat → Int
  | 0 => p
  | i + 1 => if C i then max (accE p i) ((φ i).pos + (φ i).del) else accE p i
def accA : Nat → Int
  | 0 => 0
  | i + 1 => if C i = true ∧ i < m then accA i + (φ i).ins.length - (φ i).del else accA i
def accB : Nat → Int
  | 0 => 0
  | i + 1 => if C i = true ∧ ¬ i < m then accB i + (φ i).ins.length - (φ i).del else accB i
def acc1 : Nat → Bool
  | 0 => false
  | i + 1 => if C i = true ∧ i < m then true else acc1 i
def acc2 : Nat → Bool
  | 0 => false
  | i + 1 => if C i = true ∧ ¬ i < m then true else acc2 i
end
section
variable {φ : Nat → Ed} {C : Nat → Bool} {m : Nat}
theorem accE_ge (p : Int) : ∀ n, p ≤ accE φ C p n
  | 0 => Int.le_refl _
  | n + 1 => by
    have := accE_ge p n
    rw [accE]
    split <;> omega
theorem accE_mem (p : Int) : ∀ n i, i < n → C i = true → (φ i).pos + (φ i).del ≤ accE φ C p n
  | 0, i, h, _ => absurd h (Nat.not_lt_zero _)
  | n + 1, i, h, hc => by
    rw [accE]
    rcases Nat.lt_or_ge i n with h' | h'
    · have := accE_mem p n i h' hc
      split <;> omega
    · obtain rfl : i = n := by omega
      rw [if_pos hc]; omega
theorem accE_le (p u : Int) (hp : p ≤ u) : ∀ n, (∀ i, i < n → C i = true → (φ i).pos + (φ i).del ≤ u) → accE φ C p n ≤ u
  | 0, _ => hp
  | n + 1, h => by
    have h1 := accE_le p u hp n fun i hi => h i (by omega)
    rw [accE]
    split
    · have := h n (by omega) (by assumption); omega
    · exact h1
theorem acc1_iff : ∀ n, acc1 C m n = true ↔ ∃ i, i < n ∧ C i = true ∧ i < m
  | 0 => by simp [acc1]
  | n + 1 => by
    rw [acc1]
    split
    · rename_i h
      exact ⟨fun _ => ⟨n, by omega, h.1, h.2⟩, fun _ => rfl⟩
    · rename_i h
      rw [acc1_iff n]
      constructor
      · rintro ⟨i, h1, h2⟩; exact ⟨i, by omega, h2⟩
      · rintro ⟨i, h1, h2, h3⟩
        rcases Nat.lt_or_ge i n with h' | h'
        · exact ⟨i, h', h2, h3⟩
        · obtain rfl : i = n := by omega
          exact absurd ⟨h2, h3⟩ h
theorem acc2_iff : ∀ n, acc2 C m n = true ↔ ∃ i, i < n ∧ C i = true ∧ ¬ i < m
  | 0 => by simp [acc2]
  | n + 1 => by
    rw [acc2]
    split
    · rename_i h
      exact ⟨fun _ => ⟨n, by omega, h.1, h.2⟩, fun _ => rfl⟩
    · rename_i h
      rw [acc2_iff n]
      constructor
      · rintro ⟨i, h1, h2⟩; exact ⟨i, by omega, h2⟩
      · rintro ⟨i, h1, h2, h3⟩
        rcases Nat.lt_or_ge i n with h' | h'
        · exact ⟨i, h', h2, h3⟩
        · obtain rfl : i = n := by omega
          exact absurd ⟨h2, h3⟩ h
end
theorem more_filter_take (F : List Ed) (f : Ed → Bool) (i : Nat) (h : i < F.length) : more ((F.take (i + 1)).filter f) = if f (F.getD i ⟨0, 0, []⟩) then more ((F.take i).filter f) + (F.getD i ⟨0, 0, []⟩).ins.length - (F.getD i ⟨0, 0, []⟩).del else more ((F.take i).filter f) := by
  have e : F.getD i ⟨0, 0, []⟩ = F[i] := by rw [List.getD_eq_getElem?_getD, List.getElem?_eq_getElem h]; rfl
  rw [List.take_succ_eq_append_getElem h, List.filter_append, more_append, e]
  by_cases hf : f F[i] = true
  · rw [if_pos hf, List.filter_cons_of_pos hf, List.filter_nil, more, more]; omega
  · rw [if_neg hf, List.filter_cons_of_neg hf, List.filter_nil, more]; omega
section
variable {o a b : Ls} {V : List (Bool × Ed)} {s : St} {d : Bool} {e : Ed} {r : List (Bool × Ed)} {φ : Nat → Ed} {C : Nat → Bool}
theorem RInv.filter (h : RInv o a b V s ((d, e) :: r)) (q : Bool) (F : List Ed) (hF : F = if q then D o b else D o a) : F.filter (fun x => inC (clu d e r) (q, x)) = ofS q (clu d e r) := by
  have hall : F = ofS q V ++ ofS q (clu d e r) ++ ofS q (clr d e r) := by
    rw [List.append_assoc, ← ofS_append, clu_all, ← ofS_append, ← h.all, hF]
    have := ofS_mrg _ (D o a) (D o b) (Nat.le_refl _)
    cases q
    · exact this.1.symm
    · exact this.2.symm
  rw [hall]
  refine filter_mid _ _ _ _ (fun x hx => ?_) (fun x hx => inC_iff.2 (mem_ofS.1 hx)) (fun x hx => ?_)
  · cases hh : inC (clu d e r) (q, x)
    · rfl
    · exact absurd (inC_iff.1 hh) (h.apart (.inl (mem_ofS.1 hx)))
  · cases hh : inC (clu d e r) (q, x)
    · rfl
    · exact absurd (inC_iff.1 hh) (h.apart (.inr (mem_ofS.1 hx)))
theorem RInv.accs (h : RInv o a b V s ((d, e) :: r)) (hC : ∀ i, i < (D o a).length + (D o b).length → (C i = true ↔ el (D o a) (D o b) i ∈ clu d e r))
    (hφ : ∀ i, i < (D o a).length + (D o b).length → C i = true → φ i = (el (D o a) (D o b) i).2) :
    accE φ C e.pos ((D o a).length + (D o b).length) = (clo d e r).to ∧ accA φ C (D o a).length ((D o a).length + (D o b).length) = (clo d e r).m0 ∧ accB φ C (D o a).length ((D o a).length + (D o b).length) = (clo d e r).m1 ∧
      (acc1 C (D o a).length ((D o a).length + (D o b).length) = true ↔ (clo d e r).n0 ≠ 0) ∧ (acc2 C (D o a).length ((D o a).length + (D o b).length) = true ↔ (clo d e r).n1 ≠ 0) := by
  have hl := h.low (d, e) (by simp)
  obtain ⟨c1, c2, c3, c4⟩ := clo_sums (d := d) (e := e) (r := r) hl.2.1 hl.2.2.1
  obtain ⟨hf, hto, hle⟩ := clo_to (d := d) (e := e) (r := r) hl.2.1 hl.2.2.1
  have hf0 := h.filter false (D o a) rfl
  have hf1 := h.filter true (D o b) rfl
  obtain ⟨F, hF⟩ : ∃ F, F = D o a := ⟨_, rfl⟩
  obtain ⟨G, hG⟩ : ∃ G, G = D o b := ⟨_, rfl⟩
  have hsub : ∀ p ∈ clu d e r, ∃ i, i < F.length + G.length ∧ el F G i = p := fun p hp => by
    rw [hF, hG]
    exact el_ex (by rw [h.all]; exact List.mem_append_right _ (h.mem hp))
  rw [← hF, ← hG] at hC hφ ⊢
  rw [← hF] at hf0
  rw [← hG] at hf1
  have hCe : ∀ i, i < F.length + G.length → C i = inC (clu d e r) (el F G i) := fun i hi => by rw [Bool.eq_iff_iff, hC i hi, inC_iff]
  refine ⟨Int.le_antisymm ?_ ?_, ?_, ?_, ?_, ?_⟩
  · refine accE_le _ _ ?_ _ fun i hi hc => ?_
    · have := hto (d, e) (by simp [clu])
      simp only at this hl
      omega
    · rw [hφ i hi hc]
      exact hto _ ((hC i hi).1 hc)
  · refine hle _ fun p hp => ?_
    obtain ⟨i, hi, rfl⟩ := hsub p hp
    have hc := (hC i hi).2 hp
    have := accE_mem (φ := φ) (C := C) e.pos _ i hi hc
    rwa [hφ i hi hc] at this
  · have key : ∀ i, i ≤ F.length → accA φ C F.length i = more ((F.take i).filter fun x => inC (clu d e r) (false, x)) := by
      intro i
      induction i with
      | zero => intro _; simp [accA, more]
      | succ i ih =>
        intro hi
        have hc := hCe i (by omega)
        rw [el_left (by omega)] at hc
        rw [accA, more_filter_take F _ i (by omega), ih (by omega), ← hc]
        by_cases hh : C i = true
        · have hp := hφ i (by omega) hh
          rw [el_left (by omega)] at hp
          rw [if_pos ⟨hh, by omega⟩, if_pos hh, hp]
        · rw [if_neg (fun x => hh x.1), if_neg hh]
    have stay : ∀ k, accA φ C F.length (F.length + k) = accA φ C F.length F.length := by
      intro k
      induction k with
      | zero => rfl
      | succ k ih =>
        rw [← Nat.add_assoc, accA, if_neg (fun x => by omega), ih]
    rw [stay, key _ (Nat.le_refl _), List.take_length, hf0, c2]
  · have zero : ∀ i, i ≤ F.length → accB φ C F.length i = 0 := by
      intro i
      induction i with
      | zero => intro _; rfl
      | succ i ih =>
        intro hi
        rw [accB, if_neg (fun x => x.2 (by omega)), ih (by omega)]
    have key : ∀ j, j ≤ G.length → accB φ C F.length (F.length + j) = more ((G.take j).filter fun x => inC (clu d e r) (true, x)) := by
      intro j
      induction j with
      | zero => intro _; rw [Nat.add_zero, zero _ (Nat.le_refl _)]; simp [more]
      | succ j ih =>
        intro hj
        have hc := hCe (F.length + j) (by omega)
        rw [el_right (by omega), Nat.add_sub_cancel_left] at hc
        rw [← Nat.add_assoc, accB, more_filter_take G _ j (by omega), ih (by omega), ← hc]
        by_cases hh : C (F.length + j) = true
        · have hp := hφ (F.length + j) (by omega) hh
          rw [el_right (by omega), Nat.add_sub_cancel_left] at hp
          rw [if_pos ⟨hh, by omega⟩, if_pos hh, hp]
        · rw [if_neg (fun x => hh x.1), if_neg hh]
    rw [key _ (Nat.le_refl _), List.take_length, hf1, c4]
  · rw [acc1_iff, c1]
    constructor
    · rintro ⟨i, hi, hc, hm⟩ h0
      have hmem := (hC i hi).1 hc
      rw [el_left hm] at hmem
      have := List.length_pos_of_mem (mem_ofS.2 hmem)
      omega
    · intro h0
      obtain ⟨x, hx⟩ := List.exists_mem_of_length_pos (l := ofS false (clu d e r)) (by omega)
      obtain ⟨i, hi, he⟩ := hsub _ (mem_ofS.1 hx)
      refine ⟨i, hi, (hC i hi).2 (by rw [he]; exact mem_ofS.1 hx), ?_⟩
      refine Classical.byContradiction fun hn => ?_
      rw [el_right hn] at he
      cases he
  · rw [acc2_iff, c3]
    constructor
    · rintro ⟨i, hi, hc, hm⟩ h0
      have hmem := (hC i hi).1 hc
      rw [el_right hm] at hmem
      have := List.length_pos_of_mem (mem_ofS.2 hmem)
      omega
    · intro h0
      obtain ⟨x, hx⟩ := List.exists_mem_of_length_pos (l := ofS true (clu d e r)) (by omega)
      obtain ⟨i, hi, he⟩ := hsub _ (mem_ofS.1 hx)
      refine ⟨i, hi, (hC i hi).2 (by rw [he]; exact mem_ofS.1 hx), fun hn => ?_⟩
      rw [el_left hn] at he
      cases he
end
/-- which edit is the first one of those that begin at a place, or behind it -/
def Fst (φ : Nat → Ed) (X N1 : Int) (k : Nat) (first from_ : Int) : Prop :=
  (first = -1 ∧ from_ = N1 ∧ ∀ j, j < k → ¬ (X ≤ (φ j).pos ∧ (φ j).pos < N1)) ∨
  (∃ f : Nat, f < k ∧ first = f ∧ from_ = (φ f).pos ∧ X ≤ (φ f).pos ∧ (φ f).pos < N1 ∧ ∀ j, j < k → X ≤ (φ j).pos → (φ f).pos ≤ (φ j).pos)
theorem Fst.zero (φ : Nat → Ed) (X N1 : Int) : Fst φ X N1 0 (-1) N1 := .inl ⟨rfl, rfl, fun _ h => absurd h (Nat.not_lt_zero _)⟩
theorem Fst.no {φ : Nat → Ed} {X N1 first from_ : Int} {k : Nat} (h : Fst φ X N1 k first from_) (hn : ¬ (X ≤ (φ k).pos ∧ (φ k).pos < from_)) : Fst φ X N1 (k + 1) first from_ := by
  rcases h with ⟨h1, h2, h3⟩ | ⟨f, h1, h2, h3, h4, h5, h6⟩
  · refine .inl ⟨h1, h2, fun j hj => ?_⟩
    rcases Nat.lt_or_ge j k with h | h
    · exact h3 j h
    · obtain rfl : j = k := by omega
      rw [← h2]; exact hn
  · refine .inr ⟨f, by omega, h2, h3, h4, h5, fun j hj hx => ?_⟩
    rcases Nat.lt_or_ge j k with h | h
    · exact h6 j h hx
    · obtain rfl : j = k := by omega
      rw [h3] at hn
      omega
theorem Fst.yes {φ : Nat → Ed} {X N1 first from_ : Int} {k : Nat} (h : Fst φ X N1 k first from_) (hy : X ≤ (φ k).pos ∧ (φ k).pos < from_) : Fst φ X N1 (k + 1) k (φ k).pos := by
  rcases h with ⟨h1, h2, h3⟩ | ⟨f, h1, h2, h3, h4, h5, h6⟩
  · refine .inr ⟨k, by omega, rfl, rfl, hy.1, by omega, fun j hj hx => ?_⟩
    rcases Nat.lt_or_ge j k with h | h
    · have := h3 j h; omega
    · obtain rfl : j = k := by omega
      exact Int.le_refl _
  · refine .inr ⟨k, by omega, rfl, rfl, hy.1, by omega, fun j hj hx => ?_⟩
    rcases Nat.lt_or_ge j k with h | h
    · have := h6 j h hx; omega
    · obtain rfl : j = k := by omega
      exact Int.le_refl _
end Go.Proofs.Ytghnieddokhagaa.Al
namespace Go.Proofs.Ytghnieddokhagaa.Al
open Go.Proofs.Ytghnieddokhagaa.Df

/-- the same edits of two sides, with the sides changed -/
structure Sw (l m : List (Bool × Ed)) : Prop where
  l_ : Srt l
  m_ : Srt m
  f_ : ofS false m = ofS true l
  t_ : ofS true m = ofS false l
theorem Sw.symm {l m : List (Bool × Ed)} (h : Sw l m) : Sw m l := ⟨h.m_, h.l_, h.t_.symm, h.f_.symm⟩
theorem Sw.mem {l m : List (Bool × Ed)} (h : Sw l m) {p : Bool × Ed} (hp : p ∈ m) : (!p.1, p.2) ∈ l := by
  obtain ⟨s, e⟩ := p
  cases s
  · exact mem_ofS.1 (h.f_ ▸ mem_ofS.2 hp)
  · exact mem_ofS.1 (h.t_ ▸ mem_ofS.2 hp)
theorem grow_to_le : ∀ (c : Cl) (l : List (Bool × Ed)) (u : Int), c.to ≤ u → (∀ p ∈ l, p.2.pos ≤ u → p.2.pos + p.2.del ≤ u) → (grow c l).1.to ≤ u
  | _, [], _, h, _ => h
  | c, (s, e) :: r, u, h, hc => by
    rw [grow]
    split
    · exact h
    · have h1 := hc (s, e) (by simp) (by simp only; omega)
      refine grow_to_le _ r u ?_ fun p hp => hc p (by simp [hp])
      simp only at h1
      cases s <;> simp only [Cl.take, Bool.false_eq_true, if_false, if_true] <;> omega
theorem grow_ge (c : Cl) (l : List (Bool × Ed)) : c.to ≤ (grow c l).1.to := by
  rw [grow_is]
  exact ends_ge _ _
theorem tak_end (c : Cl) (l : List (Bool × Ed)) (p : Bool × Ed) (h : p ∈ tak c l) : p.2.pos + p.2.del ≤ (grow c l).1.to := by
  rw [grow_is]
  exact ends_mem _ _ p h
theorem grow_closed (c : Cl) (l : List (Bool × Ed)) (hs : Srt l) (p : Bool × Ed) (hp : p ∈ l) (hq : p.2.pos ≤ (grow c l).1.to) : p.2.pos + p.2.del ≤ (grow c l).1.to := by
  rw [← tak_grow c l] at hp
  rcases List.mem_append.1 hp with h | h
  · exact tak_end c l p h
  · have := grow_rest c l hs p h; omega
theorem Sw.to {l m : List (Bool × Ed)} (h : Sw l m) {c d : Cl} (hc : d.to = c.to) : (grow d m).1.to = (grow c l).1.to := by
  apply Int.le_antisymm
  · exact grow_to_le d m _ (by rw [hc]; exact grow_ge c l) fun p hp hq => grow_closed c l h.l_ (!p.1, p.2) (h.mem hp) hq
  · exact grow_to_le c l _ (by rw [← hc]; exact grow_ge d m) fun p hp hq => grow_closed d m h.m_ (!p.1, p.2) (h.symm.mem hp) hq
theorem tak_filter (c : Cl) (l : List (Bool × Ed)) (hs : Srt l) (hd : ∀ p ∈ l, 0 ≤ p.2.del) (t : Int) (ht : (grow c l).1.to = t) :
    tak c l = l.filter (fun p => decide (p.2.pos ≤ t)) ∧ (grow c l).2 = l.filter (fun p => !decide (p.2.pos ≤ t)) := by
  have e := tak_grow c l
  have hm : ∀ p ∈ tak c l, p ∈ l := fun p hp => by rw [← e]; exact List.mem_append_left _ hp
  have h1 : ∀ p ∈ tak c l, p.2.pos ≤ t := fun p hp => by have := tak_end c l p hp; have := hd p (hm p hp); omega
  have h2 : ∀ p ∈ (grow c l).2, ¬ p.2.pos ≤ t := fun p hp => by have := grow_rest c l hs p hp; omega
  have k : ∀ f : Bool × Ed → Bool, l.filter f = (tak c l).filter f ++ (grow c l).2.filter f := fun f => by rw [← List.filter_append, e]
  rw [k, k]
  constructor
  · rw [List.filter_eq_self.2 fun p hp => decide_eq_true (h1 p hp), List.filter_eq_nil_iff.2 fun p hp => by simp [h2 p hp], List.append_nil]
  · rw [List.filter_eq_nil_iff.2 fun p hp => by simp [h1 p hp], List.filter_eq_self.2 fun p hp => by simp [h2 p hp], List.nil_append]
theorem ofS_filter (q : Bool) (g : Ed → Bool) : ∀ l : List (Bool × Ed), ofS q (l.filter fun p => g p.2) = (ofS q l).filter g
  | [] => rfl
  | (s, e) :: r => by
    have ih := ofS_filter q g r
    rw [List.filter_cons]
    by_cases hs : s = q
    · subst hs
      rw [ofS_same, List.filter_cons]
      by_cases hg : g e = true
      · rw [if_pos hg, if_pos hg, ofS_same, ih]
      · rw [if_neg hg, if_neg hg, ih]
    · rw [ofS_other _ _ hs]
      by_cases hg : g e = true
      · rw [if_pos hg, ofS_other _ _ hs, ih]
      · rw [if_neg hg, ih]
def Cl.sw (c : Cl) : Cl := ⟨c.fr, c.to, c.n1, c.m1, c.n0, c.m0⟩
theorem Sw.grow {l m : List (Bool × Ed)} (h : Sw l m) (hd : ∀ p ∈ l, 0 ≤ p.2.del) (c : Cl) : (Al.grow c.sw m).1 = (Al.grow c l).1.sw ∧ Sw (Al.grow c l).2 (Al.grow c.sw m).2 := by
  have ht := h.to (c := c) (d := c.sw) rfl
  obtain ⟨t, et⟩ : ∃ t, (Al.grow c l).1.to = t := ⟨_, rfl⟩
  rw [et] at ht
  have hd' : ∀ p ∈ m, 0 ≤ p.2.del := fun p hp => hd (!p.1, p.2) (h.mem hp)
  obtain ⟨a1, a2⟩ := tak_filter c l h.l_ hd t et
  obtain ⟨b1, b2⟩ := tak_filter c.sw m h.m_ hd' t ht
  have e0 : ofS false (tak c.sw m) = ofS true (tak c l) := by rw [a1, b1, ofS_filter _ (fun e => decide (e.pos ≤ t)), ofS_filter _ (fun e => decide (e.pos ≤ t)), h.f_]
  have e1 : ofS true (tak c.sw m) = ofS false (tak c l) := by rw [a1, b1, ofS_filter _ (fun e => decide (e.pos ≤ t)), ofS_filter _ (fun e => decide (e.pos ≤ t)), h.t_]
  refine ⟨?_, ?_⟩
  · have g1 := grow_is c l
    have g2 := grow_is c.sw m
    have q1 : ends c.to (tak c l) = t := by rw [← et, g1]
    have q2 : ends c.sw.to (tak c.sw m) = t := by rw [← ht, g2]
    rw [g1, g2, e0, e1, q1, q2]
    rfl
  · rw [a2, b2]
    refine ⟨h.l_.filter _, h.m_.filter _, ?_, ?_⟩
    · rw [ofS_filter _ (fun e => !decide (e.pos ≤ t)), ofS_filter _ (fun e => !decide (e.pos ≤ t)), h.f_]
    · rw [ofS_filter _ (fun e => !decide (e.pos ≤ t)), ofS_filter _ (fun e => !decide (e.pos ≤ t)), h.t_]
theorem grow_start (d : Bool) (e : Ed) (r : List (Bool × Ed)) (h0 : 0 ≤ e.pos) (h1 : 0 ≤ e.del) : Al.grow ((Cl.zero e.pos).take d e) r = Al.grow ⟨e.pos, e.pos, 0, 0, 0, 0⟩ ((d, e) :: r) := by
  rw [Al.grow, if_neg (by simp only; omega)]
  congr 1
  cases d <;> simp only [Cl.zero, Cl.take, Bool.false_eq_true, if_false, if_true, Cl.mk.injEq, and_true, true_and] <;> omega
def swk (k : Int) : Int := if k = 1 then 2 else if k = 2 then 1 else k
def Rg.sw (r : Rg) : Rg := ⟨swk r.kind, r.o0, r.on, r.b0, r.bn, r.a0, r.an⟩
def St.sw (s : St) : St := ⟨s.x, s.z, s.y, s.l.map Rg.sw⟩
theorem kindOf_sw (c : Cl) (p q : Ls) : kindOf c.sw q p = swk (kindOf c p q) := by
  unfold kindOf Cl.sw
  simp only
  by_cases h0 : c.n0 = 0
  · by_cases h1 : c.n1 = 0
    · simp [h0, h1, swk]
    · simp [h0, h1, swk]
  · by_cases h1 : c.n1 = 0
    · simp [h0, h1, swk]
    · by_cases hp : p = q
      · simp [h0, h1, hp, swk]
      · have : ¬ q = p := fun e => hp e.symm
        simp [h0, h1, hp, this, swk]
theorem St.add_sw (a b : Ls) (s : St) (c : Cl) : s.sw.add b a c.sw = (s.add a b c).sw := by
  unfold St.add
  simp only [St.sw, List.map_append, List.map_cons, List.map_nil, Rg.sw]
  rw [← kindOf_sw]
  rfl
theorem St.keep_sw (a b : Ls) (s : St) (t : Int) : s.sw.keep b a t = (s.keep a b t).sw := by
  unfold St.keep
  show (if s.x < t then s.sw.add b a (Cl.sw ⟨s.x, t, 0, 0, 0, 0⟩) else s.sw) = _
  rw [St.add_sw]
  split <;> rfl
theorem ofS_none {m : List (Bool × Ed)} (h0 : ofS false m = []) (h1 : ofS true m = []) : m = [] := by
  cases m with
  | nil => rfl
  | cons p r =>
    obtain ⟨s, e⟩ := p
    cases s
    · rw [ofS_same] at h0; cases h0
    · rw [ofS_same] at h1; cases h1
theorem loop_sw (a b : Ls) : ∀ (n : Nat) (l m : List (Bool × Ed)) (s : St), l.length ≤ n → Sw l m → (∀ p ∈ l, 0 ≤ p.2.pos ∧ 0 ≤ p.2.del) → loop b a s.sw m = (loop a b s l).sw
  | _, [], m, s, _, h, _ => by
    rw [ofS_none h.f_ h.t_, loop_nil, loop_nil]
  | 0, _ :: _, _, _, h, _, _ => by simp at h
  | n + 1, (d, e) :: r, m, s, hn, h, hp => by
    cases m with
    | nil =>
      have := h.symm.mem (p := (d, e)) (by simp)
      cases this
    | cons p' r' =>
      obtain ⟨d', e'⟩ := p'
      have m1 := h.mem (p := (d', e')) (by simp)
      have m2 := h.symm.mem (p := (d, e)) (by simp)
      have h1 : e.pos ≤ e'.pos := by
        rcases List.mem_cons.1 m1 with h' | h'
        · injection h' with _ h'; subst h'; exact Int.le_refl _
        · exact (List.pairwise_cons.1 h.l_).1 _ h'
      have h2 : e'.pos ≤ e.pos := by
        rcases List.mem_cons.1 m2 with h' | h'
        · injection h' with _ h'; subst h'; exact Int.le_refl _
        · exact (List.pairwise_cons.1 h.m_).1 _ h'
      have q1 := hp (d, e) (by simp)
      have q2 := hp _ m1
      simp only at q1 q2
      have ee : e'.pos = e.pos := by omega
      obtain ⟨g1, g2⟩ := h.grow (fun p hq => (hp p hq).2) ⟨e.pos, e.pos, 0, 0, 0, 0⟩
      rw [loop_cons, loop_cons, grow_start d e r q1.1 q1.2, grow_start d' e' r' q2.1 q2.2, ee]
      rw [show (⟨e.pos, e.pos, 0, 0, 0, 0⟩ : Cl) = Cl.sw ⟨e.pos, e.pos, 0, 0, 0, 0⟩ from rfl] at *
      have hrest : ∀ p ∈ (Al.grow (Cl.sw ⟨e.pos, e.pos, 0, 0, 0, 0⟩) ((d, e) :: r)).2, p ∈ (d, e) :: r := fun p hq => by
        rw [← tak_grow (Cl.sw ⟨e.pos, e.pos, 0, 0, 0, 0⟩) ((d, e) :: r)]
        exact List.mem_append_right _ hq
      have hlen : (Al.grow (Cl.sw ⟨e.pos, e.pos, 0, 0, 0, 0⟩) ((d, e) :: r)).2.length ≤ n := by
        have k := grow_start d e r q1.1 q1.2
        rw [show (⟨e.pos, e.pos, 0, 0, 0, 0⟩ : Cl) = Cl.sw ⟨e.pos, e.pos, 0, 0, 0, 0⟩ from rfl] at k
        rw [← k]
        have := grow_len ((Cl.zero e.pos).take d e) r
        simp at hn; omega
      rw [show Cl.sw (Cl.sw ⟨e.pos, e.pos, 0, 0, 0, 0⟩) = Cl.sw ⟨e.pos, e.pos, 0, 0, 0, 0⟩ from rfl] at g1 g2
      rw [g1]
      rw [show (Al.grow (Cl.sw ⟨e.pos, e.pos, 0, 0, 0, 0⟩) ((d, e) :: r)).1.sw.fr = (Al.grow (Cl.sw ⟨e.pos, e.pos, 0, 0, 0, 0⟩) ((d, e) :: r)).1.fr from rfl]
      rw [St.keep_sw, St.add_sw]
      exact loop_sw a b n _ _ _ hlen g2 fun p hq => hp p (hrest p hq)
theorem mrg_sw (o a b : Ls) : Sw (mrg (D o a) (D o b)) (mrg (D o b) (D o a)) := by
  obtain ⟨h0, h1⟩ := ofS_mrg _ (D o a) (D o b) (Nat.le_refl _)
  obtain ⟨h2, h3⟩ := ofS_mrg _ (D o b) (D o a) (Nat.le_refl _)
  exact ⟨mrg_srt o.length _ _ _ (-1) (-1) (Nat.le_refl _) (by simp) (by simp) (D_right o a) (D_right o b), mrg_srt o.length _ _ _ (-1) (-1) (Nat.le_refl _) (by simp) (by simp) (D_right o b) (D_right o a), by rw [h2, h1], by rw [h3, h0]⟩
/-- with the sides changed -/
theorem regs_sw (o a b : Ls) : regs o b a = (regs o a b).map Rg.sw := by
  have hl := (RInv.start o a b).low
  have h := loop_sw a b _ _ _ ⟨0, 0, 0, []⟩ (Nat.le_refl _) (mrg_sw o a b) fun p hp => ⟨(hl p hp).2.1, (hl p hp).2.2.1⟩
  unfold regs
  rw [show (⟨0, 0, 0, []⟩ : St) = St.sw ⟨0, 0, 0, []⟩ from rfl, h, St.keep_sw]
  rfl
end Go.Proofs.Ytghnieddokhagaa.Al
namespace Go.Proofs.Ytghnieddokhagaa.Al
open Go.Proofs.Ytghnieddokhagaa.Df

/-- a line with its end -/
def shut (s : List UInt8) : List UInt8 := if s.getLast? = some 10 then s else s ++ [10]
def mk7 (x : UInt8) : List UInt8 := [x, x, x, x, x, x, x, 10]
/-- a region's lines, with marks -/
def mgX (p q r : Ls) : Ls := [mk7 60] ++ q.map shut ++ [mk7 124] ++ p.map shut ++ [mk7 61] ++ r.map shut ++ [mk7 62]
/-- a region's lines -/
def mgR (o a b : Ls) (r : Rg) : Ls :=
  if r.kind = 4 then mgX (cut o r.o0 r.on) (cut a r.a0 r.an) (cut b r.b0 r.bn)
  else if r.kind = 2 then cut b r.b0 r.bn else cut a r.a0 r.an
def mgF (o a b : Ls) (L : List Rg) : Ls := L.flatMap (mgR o a b)
def mgC : List Rg → Nat
  | [] => 0
  | r :: l => (if r.kind = 4 then 1 else 0) + mgC l
def mgL (o a b : Ls) : Ls := mgF o a b (regs o a b)
def mgN (o a b : Ls) : Nat := mgC (regs o a b)
theorem mgF_snoc (o a b : Ls) (L : List Rg) (r : Rg) : mgF o a b (L ++ [r]) = mgF o a b L ++ mgR o a b r := by simp [mgF]
theorem mgC_append : ∀ L M : List Rg, mgC (L ++ M) = mgC L + mgC M
  | [], M => by simp [mgC]
  | r :: L, M => by rw [List.cons_append, mgC, mgC, mgC_append L M]; omega
theorem mgC_snoc (L : List Rg) (r : Rg) : mgC (L ++ [r]) = mgC L + (if r.kind = 4 then 1 else 0) := by rw [mgC_append]; simp [mgC]
theorem mgC_le : ∀ L : List Rg, mgC L ≤ L.length
  | [] => Nat.le_refl _
  | r :: L => by
    have := mgC_le L
    rw [mgC, List.length_cons]
    split <;> omega
theorem mgC_none : ∀ L : List Rg, mgC L = 0 ↔ ∀ r ∈ L, r.kind ≠ 4
  | [] => by simp [mgC]
  | r :: L => by
    have ih := mgC_none L
    rw [mgC]
    by_cases h : r.kind = 4
    · simp [h]
    · simp [h, ih]
/-- a region's spans, as numbers -/
structure Spn (o a b : Ls) (r : Rg) (O ON A AN B BN : Nat) : Prop where
  o0 : r.o0 = O
  on : r.on = ON
  a0 : r.a0 = A
  an : r.an = AN
  b0 : r.b0 = B
  bn : r.bn = BN
  oo : O + ON ≤ o.length
  aa : A + AN ≤ a.length
  bb : B + BN ≤ b.length
  hk : holdsK r.kind (cut o r.o0 r.on) (cut a r.a0 r.an) (cut b r.b0 r.bn) = true
theorem Spn.of {o a b : Ls} {x y z : Int} {r : Rg} (h : chk o a b x y z r = true) (hx : 0 ≤ x) (hy : 0 ≤ y) (hz : 0 ≤ z) : (∃ O ON A AN B BN, Spn o a b r O ON A AN B BN) ∧ r.o0 = x ∧ r.a0 = y ∧ r.b0 = z ∧ 0 ≤ r.on ∧ 0 ≤ r.an ∧ 0 ≤ r.bn := by
  unfold chk at h
  rw [Bool.and_eq_true, Bool.and_eq_true, Bool.and_eq_true, fol_yes, fol_yes, fol_yes] at h
  obtain ⟨⟨⟨⟨h1, h2, h3⟩, h4, h5, h6⟩, h7, h8, h9⟩, hk⟩ := h
  obtain ⟨O, e1⟩ := Int.eq_ofNat_of_zero_le hx
  obtain ⟨A, e2⟩ := Int.eq_ofNat_of_zero_le hy
  obtain ⟨B, e3⟩ := Int.eq_ofNat_of_zero_le hz
  obtain ⟨ON, e4⟩ := Int.eq_ofNat_of_zero_le h2
  obtain ⟨AN, e5⟩ := Int.eq_ofNat_of_zero_le h5
  obtain ⟨BN, e6⟩ := Int.eq_ofNat_of_zero_le h8
  rw [← h1, ← h4, ← h7] at hk
  exact ⟨⟨O, ON, A, AN, B, BN, by omega, e4, by omega, e5, by omega, e6, by omega, by omega, by omega, hk⟩, h1, h4, h7, h2, h5, h8⟩
theorem Spn.mem {o a b : Ls} : ∀ {L : List Rg} {x y z : Int}, okF o a b x y z L = true → 0 ≤ x → 0 ≤ y → 0 ≤ z → ∀ r ∈ L, ∃ O ON A AN B BN, Spn o a b r O ON A AN B BN
  | [], _, _, _, _, _, _, _, r, hr => by cases hr
  | q :: L, x, y, z, h, hx, hy, hz, r, hr => by
    rw [okF, Bool.and_eq_true] at h
    obtain ⟨h1, h2⟩ := h
    obtain ⟨e, _, _, _, h3, h4, h5⟩ := Spn.of h1 hx hy hz
    rcases List.mem_cons.1 hr with rfl | hr
    · exact e
    · exact Spn.mem h2 (by omega) (by omega) (by omega) r hr
theorem Spn.regs (o a b : Ls) (r : Rg) (hr : r ∈ Al.regs o a b) : ∃ O ON A AN B BN, Spn o a b r O ON A AN B BN :=
  Spn.mem (regs_ok o a b).1 (Int.le_refl _) (Int.le_refl _) (Int.le_refl _) r hr
theorem holdsK_cases {k : Int} {p q r : Ls} (h : holdsK k p q r = true) : (k = 0 ∧ p = q ∧ p = r) ∨ (k = 1 ∧ p = r) ∨ (k = 2 ∧ p = q) ∨ (k = 3 ∧ q = r) ∨ k = 4 := by
  unfold holdsK at h
  by_cases h0 : k = 0
  · simp [h0] at h; exact .inl ⟨h0, h⟩
  · by_cases h1 : k = 1
    · simp [h1] at h; exact .inr (.inl ⟨h1, h⟩)
    · by_cases h2 : k = 2
      · simp [h2] at h; exact .inr (.inr (.inl ⟨h2, h⟩))
      · by_cases h3 : k = 3
        · simp [h3] at h; exact .inr (.inr (.inr (.inl ⟨h3, h⟩)))
        · simp [h0, h1, h2, h3] at h; exact .inr (.inr (.inr (.inr h)))
theorem drop_cut (l : Ls) (x n : Int) (hx : 0 ≤ x) (hn : 0 ≤ n) : l.drop x.toNat = cut l x n ++ l.drop (x + n).toNat := by
  unfold cut
  have e : (x + n).toNat = x.toNat + n.toNat := by omega
  rw [e, ← List.drop_drop, List.take_append_drop]
/-- where all regions are a's, a is told -/
theorem mgF_a {o a b : Ls} : ∀ {L : List Rg} {x y z : Int}, okF o a b x y z L = true → 0 ≤ x → 0 ≤ y → 0 ≤ z → (∀ r ∈ L, r.kind ≠ 2 ∧ r.kind ≠ 4) → mgF o a b L = a.drop y.toNat
  | [], x, y, z, h, _, _, _, _ => by
    simp [okF] at h
    rw [h.1.2, Int.toNat_natCast, List.drop_length]; rfl
  | q :: L, x, y, z, h, hx, hy, hz, hk => by
    rw [okF, Bool.and_eq_true] at h
    obtain ⟨h1, h2⟩ := h
    obtain ⟨_, _, e2, _, h3, h4, h5⟩ := Spn.of h1 hx hy hz
    have ih := mgF_a h2 (by omega) (by omega) (by omega) fun r hr => hk r (by simp [hr])
    have k := hk q (by simp)
    have e : mgR o a b q = cut a y q.an := by unfold mgR; rw [if_neg k.2, if_neg k.1, e2]
    unfold mgF at ih ⊢
    rw [List.flatMap_cons, ih, e, ← drop_cut a y q.an hy h4]
/-- where all regions are b's, b is told -/
theorem mgF_b {o a b : Ls} : ∀ {L : List Rg} {x y z : Int}, okF o a b x y z L = true → 0 ≤ x → 0 ≤ y → 0 ≤ z → (∀ r ∈ L, r.kind ≠ 1 ∧ r.kind ≠ 4) → mgF o a b L = b.drop z.toNat
  | [], x, y, z, h, _, _, _, _ => by
    simp [okF] at h
    rw [h.2, Int.toNat_natCast, List.drop_length]; rfl
  | q :: L, x, y, z, h, hx, hy, hz, hk => by
    rw [okF, Bool.and_eq_true] at h
    obtain ⟨h1, h2⟩ := h
    obtain ⟨⟨_, _, _, _, _, _, sp⟩, _, _, e3, h3, h4, h5⟩ := Spn.of h1 hx hy hz
    have ih := mgF_b h2 (by omega) (by omega) (by omega) fun r hr => hk r (by simp [hr])
    have k := hk q (by simp)
    have e : mgR o a b q = cut b z q.bn := by
      unfold mgR
      rw [if_neg k.2, ← e3]
      rcases holdsK_cases sp.hk with ⟨k0, p1, p2⟩ | ⟨k1, _⟩ | ⟨k2, _⟩ | ⟨k3, p1⟩ | k4
      · rw [if_neg (by omega), ← p1, p2]
      · exact absurd k1 k.1
      · rw [if_pos k2]
      · rw [if_neg (by omega), p1]
      · exact absurd k4 k.2
    unfold mgF at ih ⊢
    rw [List.flatMap_cons, ih, e, ← drop_cut b z q.bn hz h5]
theorem Kin.all : ∀ {l m n : List Rg}, Kin l m n → (∀ r ∈ l, r.kind = 0 ∨ r.kind = 1) ∧ (∀ r ∈ m, r.kind = 0 ∨ r.kind = 2) ∧ (∀ r ∈ n, r.kind = 0 ∨ r.kind = 3)
  | [], [], [], _ => by simp
  | r :: l, q :: m, s :: n, h => by
    obtain ⟨h1, h2, h3⟩ := Kin.all h.2
    rcases h.1 with ⟨k1, k2, k3⟩ | ⟨k1, k2, k3⟩
    · simp only [List.mem_cons, forall_eq_or_imp, k1, k2, k3, true_or, true_and]; exact ⟨h1, h2, h3⟩
    · simp only [List.mem_cons, forall_eq_or_imp, k1, k2, k3, or_true, true_and]; exact ⟨h1, h2, h3⟩
  | [], _ :: _, _, h => by cases h
  | [], [], _ :: _, h => by cases h
  | _ :: _, [], _, h => by cases h
  | _ :: _, _ :: _, [], h => by cases h
/-- P9.3: what one side alone changed is taken, and what both changed alike -/
theorem mg_one (o a : Ls) : (mgL o a o = a ∧ mgN o a o = 0) ∧ (mgL o o a = a ∧ mgN o o a = 0) ∧ mgL o a a = a ∧ mgN o a a = 0 := by
  obtain ⟨h1, h2, h3⟩ := (regs_one o a).all
  have z : (0 : Int) ≤ 0 := Int.le_refl _
  refine ⟨⟨?_, ?_⟩, ⟨?_, ?_⟩, ?_, ?_⟩
  · exact mgF_a (regs_ok o a o).1 z z z fun r hr => by have := h1 r hr; omega
  · exact (mgC_none _).2 fun r hr => by have := h1 r hr; omega
  · exact mgF_b (regs_ok o o a).1 z z z fun r hr => by have := h2 r hr; omega
  · exact (mgC_none _).2 fun r hr => by have := h2 r hr; omega
  · exact mgF_a (regs_ok o a a).1 z z z fun r hr => by have := h3 r hr; omega
  · exact (mgC_none _).2 fun r hr => by have := h3 r hr; omega
theorem swk_four (k : Int) : swk k = 4 ↔ k = 4 := by
  unfold swk
  by_cases h1 : k = 1
  · simp [h1]
  · by_cases h2 : k = 2
    · simp [h2]
    · simp [h1, h2]
/-- P9.3: with the sides changed there are as many clashes -/
theorem mgN_sw (o a b : Ls) : mgN o b a = mgN o a b := by
  unfold mgN
  rw [regs_sw]
  induction regs o a b with
  | nil => rfl
  | cons r l ih =>
    rw [List.map_cons, mgC, mgC, ih]
    have : (r.sw.kind = 4) = (r.kind = 4) := propext (swk_four r.kind)
    simp only [this]
/-- and, where there is none, the same lines -/
theorem mgL_sw (o a b : Ls) (h : mgN o a b = 0) : mgL o b a = mgL o a b := by
  have hk := (mgC_none _).1 h
  have hs := Spn.regs o a b
  unfold mgL mgF
  rw [regs_sw, List.flatMap_map]
  generalize regs o a b = L at hk hs
  induction L with
  | nil => rfl
  | cons r l ih =>
    rw [List.flatMap_cons, List.flatMap_cons, ih (fun q hq => hk q (by simp [hq])) (fun q hq => hs q (by simp [hq]))]
    congr 1
    obtain ⟨_, _, _, _, _, _, sp⟩ := hs r (by simp)
    have k4 := hk r (by simp)
    unfold mgR
    rw [if_neg k4, if_neg (show ¬ r.sw.kind = 4 from fun h => k4 ((swk_four _).1 h))]
    show (if swk r.kind = 2 then cut a r.a0 r.an else cut b r.b0 r.bn) = _
    rcases holdsK_cases sp.hk with ⟨k0, p1, p2⟩ | ⟨k1, _⟩ | ⟨k2, _⟩ | ⟨k3, p1⟩ | k4'
    · rw [k0, if_neg (by decide), if_neg (by decide), ← p1, p2]
    · rw [k1, if_pos (by decide), if_neg (by decide)]
    · rw [k2, if_neg (by decide), if_pos (by decide)]
    · rw [k3, if_neg (by decide), if_neg (by decide), p1]
    · exact absurd k4' k4
/-- how many lines a region has here -/
def mgW (r : Rg) : Int := if r.kind = 4 then r.on + r.an + r.bn + 4 else if r.kind = 2 then r.bn else r.an
theorem cut_len {l : Ls} {x n : Int} {X N : Nat} (hx : x = X) (hn : n = N) (h : X + N ≤ l.length) : (cut l x n).length = N := by
  unfold cut
  rw [hx, hn, Int.toNat_natCast, Int.toNat_natCast, List.length_take, List.length_drop]
  omega
theorem mgR_len {o a b : Ls} {r : Rg} {O ON A AN B BN : Nat} (h : Spn o a b r O ON A AN B BN) : ((mgR o a b r).length : Int) = mgW r := by
  have h1 := cut_len h.o0 h.on h.oo
  have h2 := cut_len h.a0 h.an h.aa
  have h3 := cut_len h.b0 h.bn h.bb
  unfold mgR mgW mgX
  have e1 := h.on
  have e2 := h.an
  have e3 := h.bn
  split
  · simp only [List.length_append, List.length_map, List.length_cons, List.length_nil, h1, h2, h3]; omega
  · split
    · rw [h3]; omega
    · rw [h2]; omega
theorem mgR_last {o a b : Ls} {r : Rg} (h : r.kind = 4) : (mgR o a b r).getLast? = some (mk7 62) := by
  unfold mgR mgX
  rw [if_pos h]
  exact List.getLast?_concat
theorem mgR_le {o a b : Ls} {r : Rg} {O ON A AN B BN : Nat} (h : Spn o a b r O ON A AN B BN) : (mgR o a b r).length ≤ o.length + a.length + b.length + 4 := by
  have h1 := mgR_len h
  have e1 := h.on
  have e2 := h.an
  have e3 := h.bn
  have := h.oo
  have := h.aa
  have := h.bb
  unfold mgW at h1
  split at h1
  · omega
  · split at h1 <;> omega
theorem okF_count {o a b : Ls} : ∀ {L : List Rg} {x y z : Int}, okF o a b x y z L = true → 0 ≤ x → 0 ≤ y → 0 ≤ z → (∀ r ∈ L, 1 ≤ r.on + r.an + r.bn) → (L.length : Int) ≤ o.length - x + (a.length - y) + (b.length - z)
  | [], x, y, z, h, _, _, _, _ => by
    simp [okF] at h
    simp only [List.length_nil]; omega
  | q :: L, x, y, z, h, hx, hy, hz, hk => by
    rw [okF, Bool.and_eq_true] at h
    obtain ⟨h1, h2⟩ := h
    obtain ⟨_, _, _, _, h3, h4, h5⟩ := Spn.of h1 hx hy hz
    have ih := okF_count h2 (by omega) (by omega) (by omega) fun r hr => hk r (by simp [hr])
    have := hk q (by simp)
    rw [List.length_cons]
    omega
theorem regs_count (o a b : Ls) : (regs o a b).length ≤ o.length + a.length + b.length := by
  have h := regs_ok o a b
  have := okF_count h.1 (Int.le_refl _) (Int.le_refl _) (Int.le_refl _) h.2.2
  omega
theorem mgF_le {o a b : Ls} {m : Nat} : ∀ {L : List Rg}, (∀ r ∈ L, (mgR o a b r).length ≤ m) → (mgF o a b L).length ≤ L.length * m
  | [], _ => by simp [mgF]
  | r :: L, h => by
    have ih := mgF_le (L := L) fun q hq => h q (by simp [hq])
    have := h r (by simp)
    unfold mgF at ih ⊢
    rw [List.flatMap_cons, List.length_append, List.length_cons, Nat.succ_mul]
    omega
theorem mg_lens {o a b : Ls} (ho : o.length ≤ 1000) (ha : a.length ≤ 1000) (hb : b.length ≤ 1000) (k : Nat) : (mgF o a b ((regs o a b).take k)).length ≤ 10000000 := by
  have h1 := regs_count o a b
  have h2 := mgF_le (o := o) (a := a) (b := b) (m := 3004) (L := (regs o a b).take k) fun r hr => by
    obtain ⟨_, _, _, _, _, _, sp⟩ := Spn.regs o a b r (List.mem_of_mem_take hr)
    have := mgR_le sp
    omega
  have h3 : ((regs o a b).take k).length ≤ 3000 := by rw [List.length_take]; omega
  have := Nat.mul_le_mul_right 3004 h3
  omega
theorem cut_flat (l : Ls) (x n : Int) : (cut l x n).flatten.length ≤ l.flatten.length := by
  have h1 : (l.drop x.toNat).flatten.length ≤ l.flatten.length := by
    conv => rhs; rw [← List.take_append_drop x.toNat l, List.flatten_append, List.length_append]
    omega
  have h2 : (cut l x n).flatten.length ≤ (l.drop x.toNat).flatten.length := by
    unfold cut
    conv => rhs; rw [← List.take_append_drop n.toNat (l.drop x.toNat), List.flatten_append, List.length_append]
    omega
  omega
theorem shut_le (s : List UInt8) : (shut s).length ≤ s.length + 1 := by
  unfold shut
  split
  · omega
  · rw [List.length_append]; simp
theorem shuts_flat : ∀ l : Ls, (l.map shut).flatten.length ≤ l.flatten.length + l.length
  | [] => by simp
  | s :: l => by
    have h1 := shuts_flat l
    have h2 := shut_le s
    rw [List.map_cons, List.flatten_cons, List.flatten_cons, List.length_append, List.length_append, List.length_cons]
    omega
/-- how many bytes there are together -/
theorem mgR_flat {o a b : Ls} {r : Rg} (hr : r ∈ regs o a b) : (mgR o a b r).flatten.length ≤ o.flatten.length + a.flatten.length + b.flatten.length + (o.length + a.length + b.length) + 32 := by
  obtain ⟨O, ON, A, AN, B, BN, sp⟩ := Spn.regs o a b r hr
  have h1 := cut_flat o r.o0 r.on
  have h2 := cut_flat a r.a0 r.an
  have h3 := cut_flat b r.b0 r.bn
  have k1 := cut_len sp.o0 sp.on sp.oo
  have k2 := cut_len sp.a0 sp.an sp.aa
  have k3 := cut_len sp.b0 sp.bn sp.bb
  have s1 := shuts_flat (cut o r.o0 r.on)
  have s2 := shuts_flat (cut a r.a0 r.an)
  have s3 := shuts_flat (cut b r.b0 r.bn)
  have := sp.oo
  have := sp.aa
  have := sp.bb
  have m : ∀ x, (mk7 x).length = 8 := fun _ => rfl
  unfold mgR mgX
  split
  · simp only [List.flatten_append, List.flatten_cons, List.flatten_nil, List.length_append, List.length_nil, m]
    omega
  · split <;> omega
theorem flatF_le {o a b : Ls} {m : Nat} : ∀ {L : List Rg}, (∀ r ∈ L, (mgR o a b r).flatten.length ≤ m) → (mgF o a b L).flatten.length ≤ L.length * m
  | [], _ => by simp [mgF]
  | r :: L, h => by
    have ih := flatF_le (L := L) fun q hq => h q (by simp [hq])
    have := h r (by simp)
    unfold mgF at ih ⊢
    rw [List.flatMap_cons, List.flatten_append, List.length_append, List.length_cons, Nat.succ_mul]
    omega
theorem mg_flat {o a b : Ls} {m : Nat} (hm : m ≤ 60) (ho : o.length ≤ m) (ha : a.length ≤ m) (hb : b.length ≤ m) (fo : o.flatten.length ≤ m) (fa : a.flatten.length ≤ m) (fb : b.flatten.length ≤ m) : (mgL o a b).flatten.length ≤ 1000000 := by
  have h1 := regs_count o a b
  have h2 := flatF_le (o := o) (a := a) (b := b) (m := 392) (L := regs o a b) fun r hr => by
    have := mgR_flat hr
    omega
  have h3 : (regs o a b).length ≤ 180 := by omega
  have := Nat.mul_le_mul_right 392 h3
  unfold mgL
  omega
end Go.Proofs.Ytghnieddokhagaa.Al
namespace Go.Proofs.Ytghnieddokhagaa.Df
open Go Go.RowKit Kt Lw

theorem size_pos : ∀ L : List Ed, 0 ≤ size L
  | [] => Int.le_refl _
  | e :: l => by rw [size]; have := size_pos l; omega
theorem size_take (L : List Ed) (k : Nat) : size (L.take k) ≤ size L := by
  have h := size_append (L.take k) (L.drop k)
  rw [List.take_append_drop] at h
  have := size_pos (L.drop k)
  omega
theorem size_snoc (L : List Ed) (k : Nat) (e : Ed) (h : L[k]? = some e) : size (L.take (k + 1)) = size (L.take k) + (max 0 e.del + e.ins.length) := by
  rw [List.take_add_one, h, size_append]
  simp [size]
/-- the edit number k, in a world behind -/
theorem Es.at {w w' : World} {A : Option Addr} {c : Nat} {L : List Ed} (h : Es w A c L) (hb : Below w.heap.size w w') {k : Nat} (hk : k < L.length) :
    ∃ b o e A' c', A = some ⟨b, o, none⟩ ∧ L[k]? = some e ∧ (w'.cell? ⟨b, o + k * 3, none⟩ = some (.int .i64 e.pos) ∧ w'.cell? ⟨b, o + k * 3 + 1, none⟩ = some (.int .i64 e.del) ∧ w'.cell? ⟨b, o + k * 3 + 2, none⟩ = some (.slice A' e.ins.length c')) ∧ Vs w (fun b => b < w.heap.size) A' c' (texts e.ins) := by
  obtain ⟨b, o, rfl, hlt, he⟩ := h.2 (by omega)
  obtain ⟨A', c', h1, h2⟩ := he k _ (List.getElem?_eq_getElem hk)
  rw [Nat.mul_comm] at h1
  have h3 : ∀ i v, (edC L[k] (.slice A' (L[k]).ins.length c'))[i]? = some v → w'.cell? ⟨b, o + k * 3 + i, none⟩ = some v := fun i v hi => (World.cell?_of_block (a := ⟨b, o + k * 3 + i, none⟩) (hb.block b hlt)).trans (h1 i v hi)
  exact ⟨b, o, _, A', c', rfl, List.getElem?_eq_getElem hk, ⟨h3 0 _ rfl, h3 1 _ rfl, h3 2 _ rfl⟩, h2⟩
theorem box_kept {w w2 : World} {B : Nat} {v : Value} {l : Ls} {cs : Array Value} {t : TypeId} (hown : OwT w B tS v l) (hg : (w.alloc (.cells cs t)).grownBy w2 v.ownBlock) : Row w2 w.heap.size t cs.toList :=
  (Row.fresh w t cs).grown hg (fun h => by have := (World.ownsRow.lt hown _ h.symm).2; omega)

end Go.Proofs.Ytghnieddokhagaa.Df
