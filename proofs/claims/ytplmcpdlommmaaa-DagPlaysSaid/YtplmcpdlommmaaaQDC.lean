/-
  A graph of ids: levels, what stands on what, heads.
-/
import Derived.Test.YtplmcpdlommmaaaQDF
namespace Go.Proofs.Ytplmcpdlommmaaa.Dq
open Go Tr

theorem parents_of {D : List Nd} (h : Up (D.map Nd.id)) {n : Nd} (hn : n ∈ D) : parents D n.id = if n.on then n.ps else [] := by
  unfold parents
  rw [get_of h hn]
theorem parents_in {D : List Nd} (h : Inv D) {a p : Bs} (hp : p ∈ parents D a) : has D p = true ∧ has D a = true := by
  unfold parents at hp
  split at hp
  · next n hg =>
    obtain ⟨h1, h2⟩ := get_some hg
    split at hp
    · next ho =>
      obtain ⟨r, _, r2⟩ := h.rank
      refine ⟨(r2 n h1 ho p hp).1, ?_⟩
      rw [← h2, has_of h.up h1]; exact ho
    · cases hp
  · cases hp
theorem parents_not {D : List Nd} {a : Bs} (h : has D a = false) : parents D a = [] := by
  unfold has at h
  unfold parents
  cases hg : get D a with
  | none => rfl
  | some n => rw [hg] at h; simp only at h ⊢; rw [if_neg (by rw [h]; decide)]
/-- a rank by ids: below that of who stands on them -/
theorem Inv.ranked {D : List Nd} (h : Inv D) : ∃ r : Bs → Nat, (∀ a, has D a = true → r a < cnt D) ∧ ∀ a p, p ∈ parents D a → r p < r a := by
  obtain ⟨r, r1, r2⟩ := h.rank
  refine ⟨r, fun a ha => ?_, fun a p hp => ?_⟩
  · obtain ⟨n, hn, rfl, ho⟩ := (has_iff h.up).1 ha
    exact r1 n hn ho
  · obtain ⟨n, hn, rfl, ho⟩ := (has_iff h.up).1 (parents_in h hp).2
    rw [parents_of h.up hn, if_pos ho] at hp
    exact (r2 n hn ho p hp).2
theorem foldl_max (l : List Nat) : ∀ a : Nat, a ≤ l.foldl max a ∧ (∀ x ∈ l, x ≤ l.foldl max a) ∧ (l.foldl max a = a ∨ l.foldl max a ∈ l) := by
  induction l with
  | nil => intro a; exact ⟨Nat.le_refl _, fun x hx => (by cases hx), .inl rfl⟩
  | cons y r ih =>
    intro a
    obtain ⟨h1, h2, h3⟩ := ih (max a y)
    rw [List.foldl_cons]
    refine ⟨by omega, fun x hx => ?_, ?_⟩
    · rcases List.mem_cons.1 hx with rfl | hx
      · omega
      · exact h2 x hx
    · rcases h3 with h3 | h3
      · rw [h3]
        rcases Nat.le_total a y with k | k
        · rw [Nat.max_eq_right k]; exact .inr List.mem_cons_self
        · rw [Nat.max_eq_left k]; exact .inl rfl
      · exact .inr (List.mem_cons_of_mem _ h3)
theorem lv_stays {D : List Nd} {r : Bs → Nat} (hr : ∀ a p, p ∈ parents D a → r p < r a) : ∀ (k : Nat) (a : Bs), r a < k → ∀ f, lv (k + f) D a = lv k D a
  | 0, a, h, f => by omega
  | k + 1, a, h, f => by
    rw [Nat.succ_add]
    unfold lv
    congr 1
    apply List.map_congr_left
    intro p hp
    rw [lv_stays hr k p (by have := hr a p hp; omega) f]
/-- levels, by parents -/
theorem lv_eq {D : List Nd} (h : Inv D) {a : Bs} (ha : has D a = true) : lv D.length D a = ((parents D a).map fun p => lv D.length D p + 1).foldl max 0 := by
  obtain ⟨r, r1, r2⟩ := h.ranked
  have := lv_stays r2 D.length a (Nat.lt_of_lt_of_le (r1 a ha) (cnt_le D)) 1
  rw [← this]; rfl
theorem level_in {D : List Nd} {a : Bs} (ha : has D a = true) : level D a = (lv D.length D a : Int) := by
  unfold level; rw [if_pos ha]
theorem level_out {D : List Nd} {a : Bs} (ha : has D a = false) : level D a = -1 := by
  unfold level; rw [if_neg (by rw [ha]; decide)]
theorem level_below {D : List Nd} (h : Inv D) {a p : Bs} (hp : p ∈ parents D a) : level D p < level D a := by
  obtain ⟨h1, h2⟩ := parents_in h hp
  rw [level_in h1, level_in h2, lv_eq h h2]
  have := (foldl_max ((parents D a).map fun p => lv D.length D p + 1) 0).2.1 _ (List.mem_map_of_mem hp)
  omega
/-- what a loop over the parents' levels finds -/
theorem level_top {D : List Nd} (h : Inv D) {a : Bs} (ha : has D a = true) : level D a = ((parents D a).map (level D)).foldl max (-1) + 1 := by
  rw [level_in ha, lv_eq h ha]
  have key : ∀ (l : List Bs), (∀ p ∈ l, has D p = true) → ∀ m : Nat, (((l.map fun p => lv D.length D p + 1).foldl max m : Nat) : Int) = (l.map (level D)).foldl max ((m : Int) - 1) + 1 := by
    intro l
    induction l with
    | nil => intro _ m; simp
    | cons p r ih =>
      intro hl m
      rw [List.map_cons, List.foldl_cons, List.map_cons, List.foldl_cons, ih (fun q hq => hl q (List.mem_cons_of_mem _ hq)), level_in (hl p List.mem_cons_self)]
      congr 2
      omega
  exact key _ (fun p hp => (parents_in h hp).1) 0
/-- b stands on a, or is it -/
inductive On (D : List Nd) : Bs → Bs → Prop where
  | self (a : Bs) : On D a a
  | step {a p b : Bs} : p ∈ parents D b → On D a p → On D a b
theorem On.trans {D : List Nd} {a b c : Bs} (h1 : On D a b) (h2 : On D b c) : On D a c := by
  induction h2 with
  | self => exact h1
  | step hp _ ih => exact .step hp ih
theorem ab_on {D : List Nd} : ∀ (k : Nat) (a b : Bs), ab k D a b = true → On D a b
  | 0, a, b, h => by
    unfold ab at h
    rw [decide_eq_true_iff] at h
    rw [h]; exact .self _
  | k + 1, a, b, h => by
    unfold ab at h
    rw [Bool.or_eq_true, decide_eq_true_iff, List.any_eq_true] at h
    rcases h with h | ⟨p, hp, h⟩
    · rw [h]; exact .self _
    · exact .step hp (ab_on k a p h)
theorem on_ab {D : List Nd} {r : Bs → Nat} (hr : ∀ a p, p ∈ parents D a → r p < r a) : ∀ (k : Nat) (a b : Bs), r b ≤ k → On D a b → ab k D a b = true := by
  intro k
  induction k with
  | zero =>
    intro a b hb h
    cases h with
    | self => simp [ab]
    | step hp _ => have := hr _ _ hp; omega
  | succ k ih =>
    intro a b hb h
    unfold ab
    rw [Bool.or_eq_true, decide_eq_true_iff, List.any_eq_true]
    cases h with
    | self => exact .inl rfl
    | step hp h => exact .inr ⟨_, hp, ih a _ (by have := hr _ _ hp; omega) h⟩
theorem on_has {D : List Nd} (h : Inv D) {a b : Bs} (ho : On D a b) (hb : has D b = true) : has D a = true := by
  induction ho with
  | self => exact hb
  | step hp _ ih => exact ih (parents_in h hp).1
theorem above_iff {D : List Nd} (h : Inv D) {a b : Bs} : above D a b = true ↔ has D b = true ∧ On D a b := by
  unfold above
  rw [Bool.and_eq_true, Bool.and_eq_true]
  constructor
  · rintro ⟨⟨_, h2⟩, h3⟩
    exact ⟨h2, ab_on _ _ _ h3⟩
  · rintro ⟨h2, h3⟩
    obtain ⟨r, r1, r2⟩ := h.ranked
    exact ⟨⟨on_has h h3 h2, h2⟩, on_ab r2 _ _ _ (Nat.le_of_lt (Nat.lt_of_lt_of_le (r1 b h2) (cnt_le D))) h3⟩
theorem above_self {D : List Nd} (h : Inv D) {a : Bs} (ha : has D a = true) : above D a a = true := (above_iff h).2 ⟨ha, .self _⟩
theorem above_parent {D : List Nd} (h : Inv D) {a p : Bs} (hp : p ∈ parents D a) : above D p a = true := (above_iff h).2 ⟨(parents_in h hp).2, .step hp (.self _)⟩
theorem on_rank {D : List Nd} {r : Bs → Nat} (hr : ∀ a p, p ∈ parents D a → r p < r a) {a b : Bs} (h : On D a b) : a = b ∨ r a < r b := by
  induction h with
  | self => exact .inl rfl
  | step hp _ ih =>
    have := hr _ _ hp
    rcases ih with e | k
    · rw [e]; exact .inr this
    · exact .inr (by omega)
theorem above_back {D : List Nd} (h : Inv D) {a p : Bs} (hp : p ∈ parents D a) : above D a p = false := by
  cases hb : above D a p with
  | false => rfl
  | true =>
    obtain ⟨r, _, r2⟩ := h.ranked
    have h1 := on_rank r2 ((above_iff h).1 hb).2
    have h2 := r2 _ _ hp
    rcases h1 with e | k
    · rw [e] at h2; omega
    · omega
theorem heads_mem {D : List Nd} (h : Up (D.map Nd.id)) {a : Bs} : a ∈ heads D ↔ has D a = true ∧ ∀ b, a ∉ parents D b := by
  unfold heads
  rw [List.mem_map]
  constructor
  · rintro ⟨n, hn, rfl⟩
    obtain ⟨h1, h2⟩ := List.mem_filter.1 hn
    rw [Bool.and_eq_true, Bool.not_eq_true'] at h2
    refine ⟨by rw [has_of h h1]; exact h2.1, fun b hb => ?_⟩
    unfold parents at hb
    split at hb
    · next m hg =>
      split at hb
      · next ho =>
        have := List.any_eq_false.1 h2.2 m (get_some hg).1
        rw [ho, Bool.true_and, List.contains_iff_mem] at this
        exact this hb
      · cases hb
    · cases hb
  · rintro ⟨h1, h2⟩
    obtain ⟨n, hn, rfl, ho⟩ := (has_iff h).1 h1
    refine ⟨n, List.mem_filter.2 ⟨hn, ?_⟩, rfl⟩
    rw [ho, Bool.true_and, Bool.not_eq_true', List.any_eq_false]
    intro m hm hc
    rw [Bool.and_eq_true, List.contains_iff_mem] at hc
    refine h2 m.id ?_
    rw [parents_of h hm, if_pos hc.1]; exact hc.2
/-- each id that is in stands below a head -/
theorem below_head {D : List Nd} (h : Inv D) {a : Bs} (ha : has D a = true) : ∃ b ∈ heads D, above D a b = true := by
  obtain ⟨r, r1, r2⟩ := h.ranked
  suffices ∀ k a, has D a = true → cnt D ≤ r a + k → ∃ b ∈ heads D, above D a b = true from this (cnt D) a ha (by omega)
  intro k
  induction k with
  | zero => intro a ha hk; have := r1 a ha; omega
  | succ k ih =>
    intro a ha hk
    by_cases hh : a ∈ heads D
    · exact ⟨a, hh, above_self h ha⟩
    · have : ∃ b, a ∈ parents D b := by
        refine Classical.byContradiction fun hn => hh ((heads_mem h.up).2 ⟨ha, fun b hb => hn ⟨b, hb⟩⟩)
      obtain ⟨b, hb⟩ := this
      have hlt := r2 _ _ hb
      obtain ⟨c, hc, h2⟩ := ih b (parents_in h hb).2 (by omega)
      obtain ⟨k1, k2⟩ := (above_iff h).1 h2
      exact ⟨c, hc, (above_iff h).2 ⟨k1, On.trans (.step hb (.self _)) k2⟩⟩
/-- no head stands below another id -/
theorem head_top {D : List Nd} (h : Inv D) {a b : Bs} (ha : a ∈ heads D) (hb : above D a b = true) : a = b := by
  obtain ⟨_, k⟩ := (above_iff h).1 hb
  induction k with
  | self => rfl
  | step hp k ih =>
    have e := ih ((above_iff h).2 ⟨(parents_in h hp).1, k⟩) (parents_in h hp).1
    rw [← e] at hp
    exact absurd hp (((heads_mem h.up).1 ha).2 _)
theorem add_known {D : List Nd} {id : Bs} (h : (get D id).isSome = true) (ps : List Bs) : add D id ps = (D, []) := by
  unfold add; rw [if_pos h]
end Go.Proofs.Ytplmcpdlommmaaa.Dq
namespace Go.Proofs.Ytplmcpdlommmaaa.Dq
open Tr

theorem putId_mem {l : List Bs} {x y : Bs} : y ∈ putId l x ↔ y = x ∨ y ∈ l := by
  induction l with
  | nil => simp [putId]
  | cons z r ih =>
    unfold putId
    split
    · next h =>
      subst h
      simp [List.mem_cons]
    · split
      · simp [List.mem_cons]
      · rw [List.mem_cons, ih, List.mem_cons]
        constructor
        · rintro (h | h | h)
          · exact .inr (.inl h)
          · exact .inl h
          · exact .inr (.inr h)
        · rintro (h | h | h)
          · exact .inr (.inl h)
          · exact .inl h
          · exact .inr (.inr h)
theorem putId_len (l : List Bs) (x : Bs) : (putId l x).length ≤ l.length + 1 := by
  induction l with
  | nil => exact Nat.le_refl _
  | cons z r ih =>
    unfold putId
    split
    · simp
    · split
      · simp
      · simp only [List.length_cons]; omega
theorem sortIds_mem {l : List Bs} {y : Bs} : y ∈ sortIds l ↔ y ∈ l := by
  suffices ∀ (l o : List Bs), y ∈ l.foldl putId o ↔ y ∈ o ∨ y ∈ l from (this l []).trans ⟨fun h => h.elim (fun z => by cases z) id, .inr⟩
  intro l
  induction l with
  | nil => intro o; simp
  | cons x r ih =>
    intro o
    rw [List.foldl_cons, ih, putId_mem, List.mem_cons]
    constructor
    · rintro ((h | h) | h)
      · exact .inr (.inl h)
      · exact .inl h
      · exact .inr (.inr h)
    · rintro (h | h | h)
      · exact .inl (.inr h)
      · exact .inl (.inl h)
      · exact .inr h
theorem sortIds_len (l : List Bs) : (sortIds l).length ≤ l.length := by
  suffices ∀ (l o : List Bs), (l.foldl putId o).length ≤ o.length + l.length from by have := this l []; simpa [sortIds] using this
  intro l
  induction l with
  | nil => intro o; exact Nat.le_refl _
  | cons x r ih =>
    intro o
    have := putId_len o x
    have := ih (putId o x)
    rw [List.foldl_cons, List.length_cons]; omega
/-- a graph as it comes to be, of a size that is looked at -/
structure Okd (D : List Nd) : Prop where
  inv : Inv D
  full : Full D
  few : D.length ≤ 40
  ids : ∀ n ∈ D, n.id.length ≤ 50 ∧ n.ps.length ≤ 10 ∧ ∀ p ∈ n.ps, p.length ≤ 50
theorem Okd.nil : Okd [] := ⟨empty_inv.1, empty_inv.2, Nat.zero_le _, fun n hn => (by cases hn)⟩
theorem Okd.add {D : List Nd} (h : Okd D) (hl : D.length < 40) {id : Bs} {ps : List Bs} (hi : id.length ≤ 50) (hp : ps.length ≤ 10 ∧ ∀ p ∈ ps, p.length ≤ 50) : Okd (add D id ps).1 ∧ (add D id ps).1.length ≤ D.length + 1 := by
  obtain ⟨q1, q2, q3, q4⟩ := add_keeps h.inv h.full id ps
  refine ⟨⟨q1, q2, by omega, fun n hn => ?_⟩, q4⟩
  rcases (q3 (n.id, n.ps)).1 (List.mem_map.2 ⟨n, hn, rfl⟩) with k | ⟨_, k⟩
  · obtain ⟨m, hm, e⟩ := List.mem_map.1 k
    injection e with e1 e2
    rw [← e1, ← e2]
    exact h.ids m hm
  · injection k with e1 e2
    rw [e1, e2]
    exact ⟨hi, Nat.le_trans (sortIds_len ps) hp.1, fun p hpp => hp.2 p (sortIds_mem.1 hpp)⟩
theorem all_len (D : List Nd) (b : Bool) : (all D b).length ≤ D.length := by
  unfold all
  rw [List.length_map]
  exact List.length_filter_le _ _
/-- a list with one more, in the middle of the loop -/
def putGo (x : Bs) (d : Bool) (r : List Bs) : List Bs := if d then r else putId r x
theorem putGo_eq {x y : Bs} {d : Bool} {r : List Bs} (h : y = x) : putGo x d (y :: r) = y :: putGo x true r := by
  unfold putGo
  cases d <;> simp [putId, h]
theorem putGo_yes {x : Bs} {r : List Bs} {y : Bs} : putGo x true (y :: r) = y :: putGo x true r := rfl
theorem putGo_lt {x y : Bs} {r : List Bs} (h : y ≠ x) (hl : lt x y = true) : putGo x false (y :: r) = x :: y :: putGo x true r := by
  unfold putGo
  simp [putId, h, hl]
theorem putGo_ge {x y : Bs} {r : List Bs} (h : y ≠ x) (hl : lt x y = false) : putGo x false (y :: r) = y :: putGo x false r := by
  unfold putGo
  simp [putId, h, hl]
/-- the same of nodes -/
def insGo (x : Nd) (d : Bool) (r : List Nd) : List Nd := if d then r else insN x r
theorem insGo_yes {x y : Nd} {r : List Nd} : insGo x true (y :: r) = y :: insGo x true r := rfl
theorem insGo_lt {x y : Nd} {r : List Nd} (hl : lt x.id y.id = true) : insGo x false (y :: r) = x :: y :: insGo x true r := by
  unfold insGo
  simp [insN, hl]
theorem insGo_ge {x y : Nd} {r : List Nd} (hl : lt x.id y.id = false) : insGo x false (y :: r) = y :: insGo x false r := by
  unfold insGo
  simp [insN, hl]
/-- the place of an id -/
def fnd (D : List Nd) (id : Bs) : Int := match D.findIdx? fun n => decide (n.id = id) with
  | some i => (i : Int)
  | none => -1
theorem fnd_get {D : List Nd} {id : Bs} : (∃ (i : Nat) (n : Nd), fnd D id = (i : Int) ∧ D[i]? = some n ∧ n.id = id ∧ get D id = some n ∧ i < D.length) ∨ (fnd D id = -1 ∧ get D id = none) := by
  unfold fnd get
  cases h : D.findIdx? fun n => decide (n.id = id) with
  | none =>
    right
    refine ⟨rfl, ?_⟩
    rw [List.find?_eq_none]
    intro n hn
    simpa using List.findIdx?_eq_none_iff.1 h n hn
  | some i =>
    left
    obtain ⟨hi, hp, hb⟩ := List.findIdx?_eq_some_iff_getElem.1 h
    refine ⟨i, D[i], rfl, List.getElem?_eq_getElem hi, by simpa using hp, ?_, hi⟩
    rw [List.find?_eq_some_iff_getElem]
    exact ⟨hp, i, hi, rfl, fun j hj => by have := hb j hj; simpa using this⟩
theorem fnd_at {D : List Nd} {id : Bs} {i : Nat} {n : Nd} (hi : D[i]? = some n) (h1 : n.id = id) (h2 : ∀ (j : Nat) (m : Nd), j < i → D[j]? = some m → m.id ≠ id) : fnd D id = (i : Int) := by
  have hlt := (List.getElem?_eq_some_iff.1 hi).1
  have he := (List.getElem?_eq_some_iff.1 hi).2
  have : (D.findIdx? fun n => decide (n.id = id)) = some i := by
    rw [List.findIdx?_eq_some_iff_getElem]
    refine ⟨hlt, by rw [he]; simpa using h1, fun j hj => ?_⟩
    have := h2 j D[j] hj (List.getElem?_eq_getElem (by omega))
    simpa using this
  unfold fnd
  rw [this]
theorem fnd_no {D : List Nd} {id : Bs} (h2 : ∀ (j : Nat) (m : Nd), D[j]? = some m → m.id ≠ id) : fnd D id = -1 := by
  have : (D.findIdx? fun n => decide (n.id = id)) = none := by
    rw [List.findIdx?_eq_none_iff]
    intro n hn
    obtain ⟨j, hj⟩ := List.mem_iff_getElem?.1 hn
    simpa using h2 j n hj
  unfold fnd
  rw [this]
theorem has_get (D : List Nd) (id : Bs) : Dq.has D id = match get D id with
  | some n => n.on
  | none => false := rfl
/-- the loop of Add, at place i -/
theorem nxt_here {D : List Nd} {i : Nat} {n : Nd} (hi : D[i]? = some n) (h1 : n.on = false) (h2 : ready D n.ps = true) (h3 : ∀ (j : Nat) (m : Nd), j < i → D[j]? = some m → m.on = true ∨ ready D m.ps = false) : nxt D = some i := by
  have hlt := (List.getElem?_eq_some_iff.1 hi).1
  have he := (List.getElem?_eq_some_iff.1 hi).2
  unfold nxt
  rw [List.findIdx?_eq_some_iff_getElem]
  refine ⟨hlt, by rw [he, h1, h2]; rfl, fun j hj => ?_⟩
  rcases h3 j D[j] hj (List.getElem?_eq_getElem (by omega)) with h | h <;> rw [h] <;> simp
theorem nxt_over {D : List Nd} (h3 : ∀ (j : Nat) (m : Nd), D[j]? = some m → m.on = true ∨ ready D m.ps = false) : nxt D = none := by
  unfold nxt
  rw [List.findIdx?_eq_none_iff]
  intro n hn
  obtain ⟨j, hj⟩ := List.mem_iff_getElem?.1 hn
  rcases h3 j n hj with h | h <;> rw [h] <;> simp
theorem fill_none {f : Nat} {D : List Nd} {o : List Bs} (h : nxt D = none) : fill f D o = (D, o) := by
  cases f with
  | zero => rfl
  | succ f => unfold fill; rw [h]
theorem fill_some {f i : Nat} {D : List Nd} {o : List Bs} {n : Nd} (h : nxt D = some i) (hi : D[i]? = some n) : fill (f + 1) D o = fill f (turnOn D i) (o ++ [n.id]) := by
  conv => lhs; unfold fill
  rw [h]
  simp [List.getD_eq_getElem?_getD, hi]
theorem turnOn_at (D : List Nd) (i : Nat) {n : Nd} (hi : D[i]? = some n) (j : Nat) : (turnOn D i)[j]? = if i = j then some ⟨n.id, n.ps, true⟩ else D[j]? := by
  unfold turnOn
  rw [List.getElem?_modify]
  by_cases e : i = j
  · subst e; rw [hi]; simp
  · simp [e]
theorem all_snoc (D : List Nd) (b : Bool) (n : Nd) : all (D ++ [n]) b = all D b ++ if n.on = b then [n.id] else [] := by
  unfold all
  rw [List.filter_append, List.map_append]
  congr 1
  by_cases h : n.on = b
  · rw [if_pos h, List.filter_cons, if_pos (by simpa using h)]; rfl
  · rw [if_neg h, List.filter_cons, if_neg (by simpa using h)]; rfl
/-- what is lacked, one list of parents more -/
def lackGo (D : List Nd) (o : List Bs) (l : List Bs) : List Bs := l.foldl (fun o p => if (get D p).isSome then o else putId o p) o
def lackUp (D : List Nd) (L : List Nd) : List Bs := lackGo D [] ((L.filter fun n => !n.on).flatMap Nd.ps)
theorem lacks_up (D : List Nd) : lacks D = lackUp D D := rfl
theorem lackUp_snoc (D L : List Nd) (n : Nd) : lackUp D (L ++ [n]) = if n.on then lackUp D L else lackGo D (lackUp D L) n.ps := by
  unfold lackUp
  rw [List.filter_append, List.flatMap_append]
  cases h : n.on
  · rw [if_neg (by simp), List.filter_cons, if_pos (by simp [h])]
    simp [lackGo, List.foldl_append]
  · rw [if_pos rfl, List.filter_cons, if_neg (by simp [h])]
    simp
theorem lackGo_snoc (D : List Nd) (o l : List Bs) (p : Bs) : lackGo D o (l ++ [p]) = if (get D p).isSome then lackGo D (lackGo D o l) [] else putId (lackGo D o l) p := by
  unfold lackGo
  rw [List.foldl_append]; rfl
/-- b and what it stands on, by as many steps -/
def round (D : List Nd) (o l : List Bs) : List Bs := l.foldl (fun o a => (parents D a).foldl putId o) o
def below : Nat → List Nd → Bs → List Bs
  | 0, _, b => [b]
  | t + 1, D, b => round D (below t D b) (below t D b)
theorem foldPut_mem {y : Bs} (l : List Bs) : ∀ o : List Bs, y ∈ l.foldl putId o ↔ y ∈ o ∨ y ∈ l := by
  induction l with
  | nil => intro o; simp
  | cons x r ih =>
    intro o
    rw [List.foldl_cons, ih, putId_mem, List.mem_cons]
    constructor
    · rintro ((h | h) | h)
      · exact .inr (.inl h)
      · exact .inl h
      · exact .inr (.inr h)
    · rintro (h | h | h)
      · exact .inl (.inr h)
      · exact .inl (.inl h)
      · exact .inr h
theorem round_mem {D : List Nd} {y : Bs} (l : List Bs) : ∀ o : List Bs, y ∈ round D o l ↔ y ∈ o ∨ ∃ a ∈ l, y ∈ parents D a := by
  induction l with
  | nil => intro o; simp [round]
  | cons x r ih =>
    intro o
    have := ih ((parents D x).foldl putId o)
    unfold round at this ⊢
    rw [List.foldl_cons, this, foldPut_mem]
    constructor
    · rintro ((h | h) | ⟨a, ha, h⟩)
      · exact .inl h
      · exact .inr ⟨x, List.mem_cons_self, h⟩
      · exact .inr ⟨a, List.mem_cons_of_mem _ ha, h⟩
    · rintro (h | ⟨a, ha, h⟩)
      · exact .inl (.inl h)
      · rcases List.mem_cons.1 ha with rfl | ha
        · exact .inl (.inr h)
        · exact .inr ⟨a, ha, h⟩
theorem below_on {D : List Nd} {b : Bs} : ∀ (t : Nat) (a : Bs), a ∈ below t D b → On D a b
  | 0, a, h => by
    rw [List.mem_singleton.1 h]; exact .self _
  | t + 1, a, h => by
    rcases (round_mem _ _).1 h with h | ⟨c, hc, h⟩
    · exact below_on t a h
    · exact On.trans (.step h (.self _)) (below_on t c hc)
theorem below_mono {D : List Nd} {b a : Bs} {t : Nat} (h : a ∈ below t D b) : ∀ s, t ≤ s → a ∈ below s D b := by
  intro s hs
  induction s with
  | zero =>
    obtain rfl : t = 0 := by omega
    exact h
  | succ s ih =>
    by_cases e : t = s + 1
    · subst e; exact h
    · exact (round_mem _ _).2 (.inl (ih (by omega)))
theorem on_below {D : List Nd} {r : Bs → Nat} (hr : ∀ a p, p ∈ parents D a → r p < r a) {a b : Bs} (h : On D a b) : ∀ (c : Bs), b ∈ below (r c - r b) D c → r b ≤ r c → a ∈ below (r c - r a) D c ∧ r a ≤ r c := by
  induction h with
  | self => intro c hc hl; exact ⟨hc, hl⟩
  | step hp _ ih =>
    intro c hc hl
    have := hr _ _ hp
    rename_i p b _
    exact ih c (below_mono (t := r c - r b + 1) ((round_mem _ _).2 (.inr ⟨_, hc, hp⟩)) (r c - r p) (by omega)) (by omega)
theorem above_below {D : List Nd} (h : Inv D) (a b : Bs) : above D a b = (has D b && decide (a ∈ below D.length D b)) := by
  rw [Bool.eq_iff_iff, above_iff h, Bool.and_eq_true, decide_eq_true_iff]
  constructor
  · rintro ⟨h1, h2⟩
    obtain ⟨r, r1, r2⟩ := h.ranked
    refine ⟨h1, below_mono (on_below r2 h2 b ?_ (Nat.le_refl _)).1 _ ?_⟩
    · rw [Nat.sub_self]; simp [below]
    · have := r1 b h1
      have := cnt_le D
      omega
  · rintro ⟨h1, h2⟩
    exact ⟨h1, below_on _ _ h2⟩
/-- levels, raised: t rounds are done, and in this one all ahead of i, and of i's parents the first k -/
def Lof (D : List Nd) (j : Nat) : Nat := match D[j]? with
  | some n => if n.on then lv D.length D n.id else 0
  | none => 0
structure Rs (D : List Nd) (t i : Nat) (out : List Int) : Prop where
  len : out.length = D.length
  le : ∀ j x, out[j]? = some x → 0 ≤ x ∧ x ≤ (Lof D j : Int)
  done : ∀ j x, out[j]? = some x → Lof D j ≤ t → x = (Lof D j : Int)
  now : ∀ j x, out[j]? = some x → j < i → Lof D j ≤ t + 1 → x = (Lof D j : Int)
theorem Rs.start (D : List Nd) : Rs D 0 0 (List.replicate D.length 0) :=
  ⟨List.length_replicate, fun j x h => by
    obtain ⟨_, h2⟩ := List.getElem?_eq_some_iff.1 h
    rw [List.getElem_replicate] at h2
    subst h2; exact ⟨Int.le_refl _, Int.natCast_nonneg _⟩, fun j x h hl => by
    obtain ⟨_, h2⟩ := List.getElem?_eq_some_iff.1 h
    rw [List.getElem_replicate] at h2
    subst h2; omega, fun j x _ hj => absurd hj (Nat.not_lt_zero _)⟩
theorem Rs.turn {D : List Nd} {t : Nat} {out : List Int} (h : Rs D t D.length out) : Rs D (t + 1) 0 out :=
  ⟨h.len, h.le, fun j x hj hl => h.now j x hj (by have := (List.getElem?_eq_some_iff.1 hj).1; have := h.len; omega) hl, fun j x _ hj => absurd hj (Nat.not_lt_zero _)⟩
theorem Lof_at {D : List Nd} {j : Nat} {n : Nd} (h : D[j]? = some n) : Lof D j = if n.on then lv D.length D n.id else 0 := by
  unfold Lof; rw [h]
/-- a node that waits has nothing to raise -/
theorem Rs.off {D : List Nd} {t i : Nat} {out : List Int} (h : Rs D t i out) {n : Nd} (hi : D[i]? = some n) (ho : n.on = false) : Rs D t (i + 1) out :=
  ⟨h.len, h.le, h.done, fun j x hj hl hL => by
    by_cases e : j = i
    · subst e
      have h1 := h.le j x hj
      have h2 : Lof D j = 0 := by rw [Lof_at hi, if_neg (by rw [ho]; decide)]
      omega
    · exact h.now j x hj (by omega) hL⟩
/-- a parent's place, and its level -/
theorem parent_at {D : List Nd} (hI : Inv D) {i : Nat} {n : Nd} (hi : D[i]? = some n) (ho : n.on = true) {p : Bs} (hp : p ∈ n.ps) : ∃ q : Nat, fnd D p = (q : Int) ∧ q < D.length ∧ q ≠ i ∧ Lof D q + 1 ≤ Lof D i ∧ Lof D q = lv D.length D p := by
  have hn : n ∈ D := List.mem_of_getElem? hi
  have hpp : p ∈ parents D n.id := by rw [parents_of hI.up hn, if_pos ho]; exact hp
  obtain ⟨h1, h2⟩ := parents_in hI hpp
  have hl := level_below hI hpp
  rw [level_in h1, level_in h2] at hl
  rcases fnd_get (D := D) (id := p) with ⟨q, m, e1, e2, e3, e4, e5⟩ | ⟨_, e⟩
  · have hm : m.on = true := by rw [has_get, e4] at h1; exact h1
    have hL : Lof D q = lv D.length D p := by rw [Lof_at e2, if_pos hm, e3]
    have hLi : Lof D i = lv D.length D n.id := by rw [Lof_at hi, if_pos ho]
    refine ⟨q, e1, e5, fun e => ?_, by omega, hL⟩
    subst e
    rw [hi] at e2
    injection e2 with e2
    rw [← e2] at e3
    rw [e3] at hl; omega
  · rw [has_get, e] at h1; cases h1
theorem Rs.raise {D : List Nd} (hI : Inv D) {t i : Nat} {out : List Int} (h : Rs D t i out) {n : Nd} (hi : D[i]? = some n) (ho : n.on = true) {p : Bs} (hp : p ∈ n.ps) {q : Nat} (hq : fnd D p = (q : Int)) {x y : Int} (hx : out[i]? = some x) (hy : out[q]? = some y) : Rs D t i (out.set i (max x (y + 1))) := by
  obtain ⟨q', e1, e2, e3, e4, _⟩ := parent_at hI hi ho hp
  obtain rfl : q = q' := by omega
  have h1 := h.le i x hx
  have h2 := h.le q y hy
  have hlt := (List.getElem?_eq_some_iff.1 hx).1
  refine ⟨by rw [List.length_set]; exact h.len, fun j z hz => ?_, fun j z hz hl => ?_, fun j z hz hj hl => ?_⟩
  · rw [List.getElem?_set] at hz
    split at hz
    · next e =>
      subst e
      injection hz with hz
      omega
    · exact h.le j z hz
  · rw [List.getElem?_set] at hz
    split at hz
    · next e =>
      subst e
      injection hz with hz
      have := h.done i x hx hl
      omega
    · exact h.done j z hz hl
  · rw [List.getElem?_set, if_neg (by omega)] at hz
    exact h.now j z hz hj hl
/-- the first k parents are below -/
def Past (D : List Nd) (n : Nd) (out : List Int) (i k : Nat) : Prop := ∀ q p, q < k → n.ps[q]? = some p → ∀ s y x, fnd D p = ((s : Nat) : Int) → out[s]? = some y → out[i]? = some x → y + 1 ≤ x
theorem Past.nil (D : List Nd) (n : Nd) (out : List Int) (i : Nat) : Past D n out i 0 := fun q _ h => absurd h (Nat.not_lt_zero q)
theorem Past.raise {D : List Nd} (hI : Inv D) {i k : Nat} {out : List Int} {n : Nd} (h : Past D n out i k) (hi : D[i]? = some n) (ho : n.on = true) {p : Bs} (hp : n.ps[k]? = some p) {q : Nat} (hq : fnd D p = (q : Int)) {x y : Int} (hx : out[i]? = some x) (hy : out[q]? = some y) : Past D n (out.set i (max x (y + 1))) i (k + 1) := by
  have hlt := (List.getElem?_eq_some_iff.1 hx).1
  intro r pr hr hpr s y' x' hs hy' hx'
  obtain ⟨s', e1, _, e3, _⟩ := parent_at hI hi ho (List.mem_of_getElem? hpr)
  obtain rfl : s = s' := by omega
  rw [List.getElem?_set, if_neg (by omega)] at hy'
  rw [List.getElem?_set, if_pos rfl, if_pos hlt] at hx'
  injection hx' with hx'
  by_cases e : r = k
  · subst e
    rw [hp] at hpr
    injection hpr with hpr
    subst hpr
    obtain rfl : s = q := by omega
    rw [hy] at hy'
    injection hy' with hy'
    omega
  · have := h r pr (by omega) hpr s y' x hs hy' hx
    omega
theorem Rs.past {D : List Nd} (hI : Inv D) {t i : Nat} {out : List Int} (h : Rs D t i out) {n : Nd} (hi : D[i]? = some n) (ho : n.on = true) (hp : Past D n out i n.ps.length) : Rs D t (i + 1) out := by
  refine ⟨h.len, h.le, h.done, fun j x hj hl hL => ?_⟩
  by_cases e : j = i
  · subst e
    have h1 := h.le j x hj
    have hn : n ∈ D := List.mem_of_getElem? hi
    have hh : has D n.id = true := by rw [has_of hI.up hn]; exact ho
    have hLj : Lof D j = lv D.length D n.id := by rw [Lof_at hi, if_pos ho]
    rw [hLj] at hL h1 ⊢
    rw [lv_eq hI hh, parents_of hI.up hn, if_pos ho] at hL h1 ⊢
    rcases (foldl_max (n.ps.map fun p => lv D.length D p + 1) 0).2.2 with e | e
    · rw [e] at h1 ⊢; omega
    · obtain ⟨p, hpm, he⟩ := List.mem_map.1 e
      rw [← he] at h1 hL ⊢
      obtain ⟨q, e1, e2, _, _, e5⟩ := parent_at hI hi ho hpm
      obtain ⟨k, hk⟩ := List.mem_iff_getElem?.1 hpm
      have hkl := (List.getElem?_eq_some_iff.1 hk).1
      obtain ⟨y, hy⟩ : ∃ y, out[q]? = some y := ⟨_, List.getElem?_eq_getElem (by rw [h.len]; exact e2)⟩
      have hy2 := h.done q y hy (by omega)
      have := hp k p hkl hk q y x e1 hy hj
      omega
  · exact h.now j x hj (by omega) hL
theorem lv_few {D : List Nd} (hI : Inv D) {a : Bs} (ha : has D a = true) : lv D.length D a < D.length := by
  obtain ⟨r, r1, r2⟩ := hI.ranked
  have key : ∀ (k : Nat) (a : Bs), lv k D a ≤ r a := by
    intro k
    induction k with
    | zero => intro a; exact Nat.zero_le _
    | succ k ih =>
      intro a
      unfold lv
      rcases (foldl_max ((parents D a).map fun p => lv k D p + 1) 0).2.2 with e | e
      · rw [e]; exact Nat.zero_le _
      · obtain ⟨p, hp, he⟩ := List.mem_map.1 e
        rw [← he]
        have := ih p
        have := r2 a p hp
        omega
  have := key D.length a
  have := r1 a ha
  have := cnt_le D
  omega
theorem Rs.levels {D : List Nd} (hI : Inv D) {out : List Int} (h : Rs D D.length 0 out) {j : Nat} {n : Nd} (hj : D[j]? = some n) (ho : n.on = true) : out[j]? = some (level D n.id) := by
  have hn : n ∈ D := List.mem_of_getElem? hj
  have hh : has D n.id = true := by rw [has_of hI.up hn]; exact ho
  have hlt := (List.getElem?_eq_some_iff.1 hj).1
  obtain ⟨x, hx⟩ : ∃ x, out[j]? = some x := ⟨_, List.getElem?_eq_getElem (by rw [h.len]; exact hlt)⟩
  have hL : Lof D j = lv D.length D n.id := by rw [Lof_at hj, if_pos ho]
  have := lv_few hI hh
  rw [hx, h.done j x hx (by omega), hL, level_in hh]
end Go.Proofs.Ytplmcpdlommmaaa.Dq
