/-
  The reference's regions, on lists: what a cluster's edits are by their places.
-/
import Derived.Test.YteehbpnbephojaaJG
namespace Go.Proofs.Yteehbpnbephojaa.Al
open Go.Proofs.Yteehbpnbephojaa.Df

/-- the edits of both sides, by their places in one list -/
def el (F G : List Ed) (i : Nat) : Bool × Ed := if i < F.length then (false, F.getD i ⟨0, 0, []⟩) else (true, G.getD (i - F.length) ⟨0, 0, []⟩)
theorem el_left {F G : List Ed} {i : Nat} (h : i < F.length) : el F G i = (false, F.getD i ⟨0, 0, []⟩) := if_pos h
theorem el_right {F G : List Ed} {i : Nat} (h : ¬ i < F.length) : el F G i = (true, G.getD (i - F.length) ⟨0, 0, []⟩) := if_neg h
theorem getD_memE {l : List Ed} {i : Nat} (h : i < l.length) : l.getD i ⟨0, 0, []⟩ ∈ l := by simp [List.getElem?_eq_getElem h]
theorem mem_both {F G : List Ed} {p : Bool × Ed} : p ∈ mrg F G ↔ (p.1 = false ∧ p.2 ∈ F) ∨ (p.1 = true ∧ p.2 ∈ G) := by
  obtain ⟨h0, h1⟩ := ofS_mrg _ F G (Nat.le_refl _)
  obtain ⟨s, e⟩ := p
  cases s
  · rw [← mem_ofS, h0]; simp
  · rw [← mem_ofS, h1]; simp
theorem el_mem {F G : List Ed} {i : Nat} (h : i < F.length + G.length) : el F G i ∈ mrg F G := by
  by_cases hi : i < F.length
  · rw [el_left hi]; exact mem_both.2 (.inl ⟨rfl, getD_memE hi⟩)
  · rw [el_right hi]; exact mem_both.2 (.inr ⟨rfl, getD_memE (by omega)⟩)
theorem mem_at {l : List Ed} {e : Ed} (h : e ∈ l) : ∃ i, i < l.length ∧ l.getD i ⟨0, 0, []⟩ = e := by
  obtain ⟨i, hi⟩ := List.getElem?_of_mem h
  exact ⟨i, (List.getElem?_eq_some_iff.1 hi).1, by rw [List.getD_eq_getElem?_getD, hi]; rfl⟩
theorem el_ex {F G : List Ed} {p : Bool × Ed} (h : p ∈ mrg F G) : ∃ i, i < F.length + G.length ∧ el F G i = p := by
  obtain ⟨s, e⟩ := p
  rcases mem_both.1 h with ⟨h1, h2⟩ | ⟨h1, h2⟩
  · obtain ⟨i, hi, he⟩ := mem_at h2
    simp only at h1 he
    exact ⟨i, by omega, by rw [el_left hi, he, h1]⟩
  · obtain ⟨i, hi, he⟩ := mem_at h2
    simp only at h1 he
    refine ⟨F.length + i, by omega, ?_⟩
    rw [el_right (by omega), Nat.add_sub_cancel_left, he, h1]
theorem range_els (F G : List Ed) : (List.range (F.length + G.length)).map (el F G) = F.map (fun e => (false, e)) ++ G.map (fun e => (true, e)) := by
  apply List.ext_getElem?
  intro i
  rcases Nat.lt_or_ge i (F.length + G.length) with h | h
  · rw [List.getElem?_map, List.getElem?_range h]
    by_cases hi : i < F.length
    · rw [List.getElem?_append_left (by simpa using hi), List.getElem?_map, List.getElem?_eq_getElem hi]
      simp [el_left hi, List.getElem?_eq_getElem hi]
    · rw [List.getElem?_append_right (by simp; omega), List.getElem?_map, List.length_map, List.getElem?_eq_getElem (show i - F.length < G.length by omega)]
      simp [el_right hi, List.getElem?_eq_getElem (show i - F.length < G.length by omega)]
  · rw [List.getElem?_eq_none (by simpa using h), List.getElem?_eq_none (by simpa using h)]

/-- what holds where a cluster begins, of those gone through too -/
structure RInv (o a b : Ls) (V : List (Bool × Ed)) (s : St) (l : List (Bool × Ed)) : Prop where
  inv : Inv o a b s l
  all : mrg (D o a) (D o b) = V ++ l
  old : ∀ p ∈ V, p.2.pos + p.2.del ≤ s.x
  new : V ≠ [] → ∀ p ∈ l, s.x < p.2.pos
theorem RInv.start (o a b : Ls) : RInv o a b [] ⟨0, 0, 0, []⟩ (mrg (D o a) (D o b)) :=
  ⟨start_inv o a b, rfl, (fun p h => by cases h), fun h => absurd rfl h⟩
/-- a cluster, taken -/
def clo (d : Bool) (e : Ed) (r : List (Bool × Ed)) : Cl := (grow ((Cl.zero e.pos).take d e) r).1
def clr (d : Bool) (e : Ed) (r : List (Bool × Ed)) : List (Bool × Ed) := (grow ((Cl.zero e.pos).take d e) r).2
theorem clu_all (d : Bool) (e : Ed) (r : List (Bool × Ed)) : clu d e r ++ clr d e r = (d, e) :: r := by
  rw [clu, clr, List.cons_append, tak_grow]
section
variable {o a b : Ls} {V : List (Bool × Ed)} {s : St} {d : Bool} {e : Ed} {r : List (Bool × Ed)}
theorem RInv.low (h : RInv o a b V s r) : ∀ p ∈ r, s.x ≤ p.2.pos ∧ 0 ≤ p.2.pos ∧ 0 ≤ p.2.del ∧ p.2.pos + p.2.del ≤ o.length ∧ p.2.ins.length ≤ a.length + b.length := by
  obtain ⟨last, hl1, hl2, hr0, hr1⟩ := h.inv.last
  obtain ⟨X, Y, Z, hx, hy, hz, hX, hY, hZ, ha, hb⟩ := h.inv.at_
  have hin : ∀ (c : Ls) (k : Nat) (l : List Ed), (play o k l).length ≤ c.length → ∀ f ∈ l, f.ins.length ≤ c.length := by
    intro c k l
    induction l generalizing k with
    | nil => intro _ f hf; cases hf
    | cons g l ih =>
      intro hp f hf
      rw [play] at hp
      simp only [List.length_append] at hp
      rcases List.mem_cons.1 hf with rfl | hf
      · omega
      · exact ih (g.pos.toNat + g.del.toNat) (by omega) f hf
  rintro ⟨q, f⟩ hp
  cases q
  · have h1 := right_low hr0 hl1 f (mem_ofS.2 hp)
    have h2 := hin a X (ofS false r) (by rw [← ha, List.length_drop]; omega) f (mem_ofS.2 hp)
    simp only
    omega
  · have h1 := right_low hr1 hl1 f (mem_ofS.2 hp)
    have h2 := hin b X (ofS true r) (by rw [← hb, List.length_drop]; omega) f (mem_ofS.2 hp)
    simp only
    omega
theorem clo_to (h0 : 0 ≤ e.pos) (h1 : 0 ≤ e.del) : (clo d e r).fr = e.pos ∧ (∀ p ∈ clu d e r, p.2.pos + p.2.del ≤ (clo d e r).to) ∧ ∀ u : Int, (∀ p ∈ clu d e r, p.2.pos + p.2.del ≤ u) → (clo d e r).to ≤ u := by
  have tf := take_first d e h0 h1
  have hg := grow_is ((Cl.zero e.pos).take d e) r
  unfold clo clu
  rw [hg, tf]
  simp only
  rw [← tf]
  refine ⟨trivial, fun p hp => ?_, fun u hu => ?_⟩
  · rcases List.mem_cons.1 hp with rfl | hp
    · exact ends_ge _ _
    · exact ends_mem _ _ p hp
  · exact ends_le _ _ _ (hu (d, e) (by simp)) fun p hp => hu p (by simp [hp])
theorem RInv.rest (h : RInv o a b V s ((d, e) :: r)) : ∀ p ∈ clr d e r, (clo d e r).to < p.2.pos :=
  grow_rest _ r (List.pairwise_cons.1 h.inv.srt).2
/-- the region's state behind a cluster -/
def nxt (a b : Ls) (s : St) (d : Bool) (e : Ed) (r : List (Bool × Ed)) : St := (s.keep a b (clo d e r).fr).add a b (clo d e r)
theorem keep_x (a b : Ls) (s : St) (t : Int) (h : s.x ≤ t) : (s.keep a b t).x = t := by
  unfold St.keep
  split
  · show s.x + (t - s.x) = t; omega
  · omega
theorem RInv.next_x (h : RInv o a b V s ((d, e) :: r)) : (nxt a b s d e r).x = (clo d e r).to := by
  have hl := h.low (d, e) (by simp)
  have hf := (clo_to (d := d) (e := e) (r := r) hl.2.1 hl.2.2.1).1
  show (s.keep a b (clo d e r).fr).x + ((clo d e r).to - (clo d e r).fr) = _
  rw [keep_x a b s _ (by rw [hf]; exact hl.1)]
  omega
theorem RInv.next (h : RInv o a b V s ((d, e) :: r)) : RInv o a b (V ++ clu d e r) (nxt a b s d e r) (clr d e r) := by
  have hl := h.low (d, e) (by simp)
  obtain ⟨hf, hm, _⟩ := clo_to (d := d) (e := e) (r := r) hl.2.1 hl.2.2.1
  refine ⟨step_ok h.inv, by rw [h.all, List.append_assoc, clu_all], fun p hp => ?_, fun _ p hp => ?_⟩
  · rw [h.next_x]
    rcases List.mem_append.1 hp with hp | hp
    · have h1 := h.old p hp
      have h2 := hm (d, e) (by simp [clu])
      simp only at h2 hl
      omega
    · exact hm p hp
  · rw [h.next_x]; exact h.rest p hp
theorem RInv.mem (_h : RInv o a b V s ((d, e) :: r)) {p : Bool × Ed} (hp : p ∈ clu d e r) : p ∈ (d, e) :: r := by rw [← clu_all d e r]; exact List.mem_append_left _ hp
theorem RInv.closed (h : RInv o a b V s ((d, e) :: r)) {p q : Bool × Ed} (hp : p ∈ clu d e r) (hq : q ∈ mrg (D o a) (D o b)) (hm : meetE p.2 q.2 = true) : q ∈ clu d e r := by
  obtain ⟨m1, m2⟩ := meetE_iff.1 hm
  have hl := h.low (d, e) (by simp)
  obtain ⟨hf, hto, _⟩ := clo_to (d := d) (e := e) (r := r) hl.2.1 hl.2.2.1
  rw [h.all, ← clu_all d e r] at hq
  rcases List.mem_append.1 hq with hq | hq
  · exfalso
    have h1 := h.old q hq
    have h2 := h.new (fun e => by rw [e] at hq; cases hq) p (h.mem hp)
    omega
  · rcases List.mem_append.1 hq with hq | hq
    · exact hq
    · exfalso
      have h1 := h.rest q hq
      have h2 := hto p hp
      omega
theorem RInv.self (h : RInv o a b V s ((d, e) :: r)) {p : Bool × Ed} (hp : p ∈ clu d e r) : meetE p.2 p.2 = true := by
  have := h.low p (h.mem hp)
  exact meetE_iff.2 ⟨by omega, by omega⟩
/-- those of another part aren't of the cluster -/
theorem RInv.apart (h : RInv o a b V s ((d, e) :: r)) {p : Bool × Ed} (hp : p ∈ V ∨ p ∈ clr d e r) : p ∉ clu d e r := by
  intro hc
  have hl := h.low (d, e) (by simp)
  obtain ⟨hf, hto, _⟩ := clo_to (d := d) (e := e) (r := r) hl.2.1 hl.2.2.1
  have h0 := h.low p (h.mem hc)
  rcases hp with hp | hp
  · have h1 := h.old p hp
    have h2 := h.new (fun e => by rw [e] at hp; cases hp) p (h.mem hc)
    omega
  · have h1 := h.rest p hp
    have h2 := hto p hc
    omega
/-- by the marks -/
theorem RInv.marks (h : RInv o a b V s ((d, e) :: r)) {n : Nat} {L : List Int} (hn : n = (D o a).length + (D o b).length) (hL : Mk n (fun x y => meetE (el (D o a) (D o b) x).2 (el (D o a) (D o b) y).2) n 0 0 L)
    {i j : Nat} (hi : i < n) (hj : j < n) (hCi : el (D o a) (D o b) i ∈ clu d e r) : L.getD j 0 = L.getD i 0 ↔ el (D o a) (D o b) j ∈ clu d e r := by
  have hl := h.low (d, e) (by simp)
  have hsub : ∀ p ∈ clu d e r, p ∈ mrg (D o a) (D o b) := fun p hp => by rw [h.all]; exact List.mem_append_right _ (h.mem hp)
  refine hL.same (fun _ _ => meetE_comm _ _) (fun i => el (D o a) (D o b) i ∈ clu d e r) (fun x y hx hy hxC hm => h.closed hxC (el_mem (by omega)) hm) (fun x y hx hy hx' hy' => ?_) hi hj hCi
  refine path_all (clu_chn d e r hl.2.1 hl.2.2.1) ?_ (fun p hp => (h.low p (h.mem hp)).2.2.1) (fun p hp => by
    obtain ⟨k, hk, he⟩ := el_ex (hsub p hp)
    exact ⟨k, by omega, he⟩) ?_ hx hy hx' hy'
  · have := h.inv.srt
    rw [← clu_all d e r] at this
    exact (List.pairwise_append.1 this).1
  · have h1 := mrg_len _ (D o a) (D o b) (Nat.le_refl _)
    rw [h.all, ← clu_all d e r] at h1
    simp only [List.length_append] at h1
    omega
end
end Go.Proofs.Yteehbpnbephojaa.Al
