/-
  A graph of ids: levels, what stands on what, heads.
-/
import Derived.Test.YtlfncnnfpniigaaDB
namespace Go.Proofs.Ytlfncnnfpniigaa.Dq
open Go Tr

theorem parents_of {D : List Nd} (h : Up (D.map Nd.id)) {n : Nd} (hn : n ∈ D) : parents D n.id = if n.on then n.ps else [] := by
  unfold parents
  rw [get_of h hn]
theorem parents_in {D : List Nd} (h : Inv D) {a p : Bs} (hp : p ∈ parents D a) : has D p = true ∧ has D a = true := by
  unfold parents at hp
  split at hp
  · next n hg =>
    obtain ⟨h1, h2⟩ := get_some hg
    split at hp
    · next ho =>
      obtain ⟨r, _, r2⟩ := h.rank
      refine ⟨(r2 n h1 ho p hp).1, ?_⟩
      rw [← h2, has_of h.up h1]; exact ho
    · cases hp
  · cases hp
theorem parents_not {D : List Nd} {a : Bs} (h : has D a = false) : parents D a = [] := by
  unfold has at h
  unfold parents
  cases hg : get D a with
  | none => rfl
  | some n => rw [hg] at h; simp only at h ⊢; rw [if_neg (by rw [h]; decide)]
/-- a rank by ids: below that of who stands on them -/
theorem Inv.ranked {D : List Nd} (h : Inv D) : ∃ r : Bs → Nat, (∀ a, has D a = true → r a < cnt D) ∧ ∀ a p, p ∈ parents D a → r p < r a := by
  obtain ⟨r, r1, r2⟩ := h.rank
  refine ⟨r, fun a ha => ?_, fun a p hp => ?_⟩
  · obtain ⟨n, hn, rfl, ho⟩ := (has_iff h.up).1 ha
    exact r1 n hn ho
  · obtain ⟨n, hn, rfl, ho⟩ := (has_iff h.up).1 (parents_in h hp).2
    rw [parents_of h.up hn, if_pos ho] at hp
    exact (r2 n hn ho p hp).2
theorem foldl_max (l : List Nat) : ∀ a : Nat, a ≤ l.foldl max a ∧ (∀ x ∈ l, x ≤ l.foldl max a) ∧ (l.foldl max a = a ∨ l.foldl max a ∈ l) := by
  induction l with
  | nil => intro a; exact ⟨Nat.le_refl _, fun x hx => (by cases hx), .inl rfl⟩
  | cons y r ih =>
    intro a
    obtain ⟨h1, h2, h3⟩ := ih (max a y)
    rw [List.foldl_cons]
    refine ⟨by omega, fun x hx => ?_, ?_⟩
    · rcases List.mem_cons.1 hx with rfl | hx
      · omega
      · exact h2 x hx
    · rcases h3 with h3 | h3
      · rw [h3]
        rcases Nat.le_total a y with k | k
        · rw [Nat.max_eq_right k]; exact .inr List.mem_cons_self
        · rw [Nat.max_eq_left k]; exact .inl rfl
      · exact .inr (List.mem_cons_of_mem _ h3)
theorem lv_stays {D : List Nd} {r : Bs → Nat} (hr : ∀ a p, p ∈ parents D a → r p < r a) : ∀ (k : Nat) (a : Bs), r a < k → ∀ f, lv (k + f) D a = lv k D a
  | 0, a, h, f => by omega
  | k + 1, a, h, f => by
    rw [Nat.succ_add]
    unfold lv
    congr 1
    apply List.map_congr_left
    intro p hp
    rw [lv_stays hr k p (by have := hr a p hp; omega) f]
/-- levels, by parents -/
theorem lv_eq {D : List Nd} (h : Inv D) {a : Bs} (ha : has D a = true) : lv D.length D a = ((parents D a).map fun p => lv D.length D p + 1).foldl max 0 := by
  obtain ⟨r, r1, r2⟩ := h.ranked
  have := lv_stays r2 D.length a (Nat.lt_of_lt_of_le (r1 a ha) (cnt_le D)) 1
  rw [← this]; rfl
theorem level_in {D : List Nd} {a : Bs} (ha : has D a = true) : level D a = (lv D.length D a : Int) := by
  unfold level; rw [if_pos ha]
theorem level_out {D : List Nd} {a : Bs} (ha : has D a = false) : level D a = -1 := by
  unfold level; rw [if_neg (by rw [ha]; decide)]
theorem level_below {D : List Nd} (h : Inv D) {a p : Bs} (hp : p ∈ parents D a) : level D p < level D a := by
  obtain ⟨h1, h2⟩ := parents_in h hp
  rw [level_in h1, level_in h2, lv_eq h h2]
  have := (foldl_max ((parents D a).map fun p => lv D.length D p + 1) 0).2.1 _ (List.mem_map_of_mem hp)
  omega
/-- what a loop over the parents' levels finds -/
theorem level_top {D : List Nd} (h : Inv D) {a : Bs} (ha : has D a = true) : level D a = ((parents D a).map (level D)).foldl max (-1) + 1 := by
  rw [level_in ha, lv_eq h ha]
  have key : ∀ (l : List Bs), (∀ p ∈ l, has D p = true) → ∀ m : Nat, (((l.map fun p => lv D.length D p + 1).foldl max m : Nat) : Int) = (l.map (level D)).foldl max ((m : Int) - 1) + 1 := by
    intro l
    induction l with
    | nil => intro _ m; simp
    | cons p r ih =>
      intro hl m
      rw [List.map_cons, List.foldl_cons, List.map_cons, List.foldl_cons, ih (fun q hq => hl q (List.mem_cons_of_mem _ hq)), level_in (hl p List.mem_cons_self)]
      congr 2
      omega
  exact key _ (fun p hp => (parents_in h hp).1) 0
/-- b stands on a, or is it -/
inductive On (D : List Nd) : Bs → Bs → Prop where
  | self (a : Bs) : On D a a
  | step {a p b : Bs} : p ∈ parents D b → On D a p → On D a b
theorem On.trans {D : List Nd} {a b c : Bs} (h1 : On D a b) (h2 : On D b c) : On D a c := by
  induction h2 with
  | self => exact h1
  | step hp _ ih => exact .step hp ih
theorem ab_on {D : List Nd} : ∀ (k : Nat) (a b : Bs), ab k D a b = true → On D a b
  | 0, a, b, h => by
    unfold ab at h
    rw [decide_eq_true_iff] at h
    rw [h]; exact .self _
  | k + 1, a, b, h => by
    unfold ab at h
    rw [Bool.or_eq_true, decide_eq_true_iff, List.any_eq_true] at h
    rcases h with h | ⟨p, hp, h⟩
    · rw [h]; exact .self _
    · exact .step hp (ab_on k a p h)
theorem on_ab {D : List Nd} {r : Bs → Nat} (hr : ∀ a p, p ∈ parents D a → r p < r a) : ∀ (k : Nat) (a b : Bs), r b ≤ k → On D a b → ab k D a b = true := by
  intro k
  induction k with
  | zero =>
    intro a b hb h
    cases h with
    | self => simp [ab]
    | step hp _ => have := hr _ _ hp; omega
  | succ k ih =>
    intro a b hb h
    unfold ab
    rw [Bool.or_eq_true, decide_eq_true_iff, List.any_eq_true]
    cases h with
    | self => exact .inl rfl
    | step hp h => exact .inr ⟨_, hp, ih a _ (by have := hr _ _ hp; omega) h⟩
theorem on_has {D : List Nd} (h : Inv D) {a b : Bs} (ho : On D a b) (hb : has D b = true) : has D a = true := by
  induction ho with
  | self => exact hb
  | step hp _ ih => exact ih (parents_in h hp).1
theorem above_iff {D : List Nd} (h : Inv D) {a b : Bs} : above D a b = true ↔ has D b = true ∧ On D a b := by
  unfold above
  rw [Bool.and_eq_true, Bool.and_eq_true]
  constructor
  · rintro ⟨⟨_, h2⟩, h3⟩
    exact ⟨h2, ab_on _ _ _ h3⟩
  · rintro ⟨h2, h3⟩
    obtain ⟨r, r1, r2⟩ := h.ranked
    exact ⟨⟨on_has h h3 h2, h2⟩, on_ab r2 _ _ _ (Nat.le_of_lt (Nat.lt_of_lt_of_le (r1 b h2) (cnt_le D))) h3⟩
theorem above_self {D : List Nd} (h : Inv D) {a : Bs} (ha : has D a = true) : above D a a = true := (above_iff h).2 ⟨ha, .self _⟩
theorem above_parent {D : List Nd} (h : Inv D) {a p : Bs} (hp : p ∈ parents D a) : above D p a = true := (above_iff h).2 ⟨(parents_in h hp).2, .step hp (.self _)⟩
theorem on_rank {D : List Nd} {r : Bs → Nat} (hr : ∀ a p, p ∈ parents D a → r p < r a) {a b : Bs} (h : On D a b) : a = b ∨ r a < r b := by
  induction h with
  | self => exact .inl rfl
  | step hp _ ih =>
    have := hr _ _ hp
    rcases ih with e | k
    · rw [e]; exact .inr this
    · exact .inr (by omega)
theorem above_back {D : List Nd} (h : Inv D) {a p : Bs} (hp : p ∈ parents D a) : above D a p = false := by
  cases hb : above D a p with
  | false => rfl
  | true =>
    obtain ⟨r, _, r2⟩ := h.ranked
    have h1 := on_rank r2 ((above_iff h).1 hb).2
    have h2 := r2 _ _ hp
    rcases h1 with e | k
    · rw [e] at h2; omega
    · omega
theorem heads_mem {D : List Nd} (h : Up (D.map Nd.id)) {a : Bs} : a ∈ heads D ↔ has D a = true ∧ ∀ b, a ∉ parents D b := by
  unfold heads
  rw [List.mem_map]
  constructor
  · rintro ⟨n, hn, rfl⟩
    obtain ⟨h1, h2⟩ := List.mem_filter.1 hn
    rw [Bool.and_eq_true, Bool.not_eq_true'] at h2
    refine ⟨by rw [has_of h h1]; exact h2.1, fun b hb => ?_⟩
    unfold parents at hb
    split at hb
    · next m hg =>
      split at hb
      · next ho =>
        have := List.any_eq_false.1 h2.2 m (get_some hg).1
        rw [ho, Bool.true_and, List.contains_iff_mem] at this
        exact this hb
      · cases hb
    · cases hb
  · rintro ⟨h1, h2⟩
    obtain ⟨n, hn, rfl, ho⟩ := (has_iff h).1 h1
    refine ⟨n, List.mem_filter.2 ⟨hn, ?_⟩, rfl⟩
    rw [ho, Bool.true_and, Bool.not_eq_true', List.any_eq_false]
    intro m hm hc
    rw [Bool.and_eq_true, List.contains_iff_mem] at hc
    refine h2 m.id ?_
    rw [parents_of h hm, if_pos hc.1]; exact hc.2
/-- each id that is in stands below a head -/
theorem below_head {D : List Nd} (h : Inv D) {a : Bs} (ha : has D a = true) : ∃ b ∈ heads D, above D a b = true := by
  obtain ⟨r, r1, r2⟩ := h.ranked
  suffices ∀ k a, has D a = true → cnt D ≤ r a + k → ∃ b ∈ heads D, above D a b = true from this (cnt D) a ha (by omega)
  intro k
  induction k with
  | zero => intro a ha hk; have := r1 a ha; omega
  | succ k ih =>
    intro a ha hk
    by_cases hh : a ∈ heads D
    · exact ⟨a, hh, above_self h ha⟩
    · have : ∃ b, a ∈ parents D b := by
        refine Classical.byContradiction fun hn => hh ((heads_mem h.up).2 ⟨ha, fun b hb => hn ⟨b, hb⟩⟩)
      obtain ⟨b, hb⟩ := this
      have hlt := r2 _ _ hb
      obtain ⟨c, hc, h2⟩ := ih b (parents_in h hb).2 (by omega)
      obtain ⟨k1, k2⟩ := (above_iff h).1 h2
      exact ⟨c, hc, (above_iff h).2 ⟨k1, On.trans (.step hb (.self _)) k2⟩⟩
/-- no head stands below another id -/
theorem head_top {D : List Nd} (h : Inv D) {a b : Bs} (ha : a ∈ heads D) (hb : above D a b = true) : a = b := by
  obtain ⟨_, k⟩ := (above_iff h).1 hb
  induction k with
  | self => rfl
  | step hp k ih =>
    have e := ih ((above_iff h).2 ⟨(parents_in h hp).1, k⟩) (parents_in h hp).1
    rw [← e] at hp
    exact absurd hp (((heads_mem h.up).1 ha).2 _)
theorem add_known {D : List Nd} {id : Bs} (h : (get D id).isSome = true) (ps : List Bs) : add D id ps = (D, []) := by
  unfold add; rw [if_pos h]
end Go.Proofs.Ytlfncnnfpniigaa.Dq
