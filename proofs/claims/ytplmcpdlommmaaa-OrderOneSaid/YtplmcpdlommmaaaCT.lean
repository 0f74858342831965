/-
  order: ids sorted by rank by the library: what a partition is.
-/
import Derived.Test.YtplmcpdlommmaaaQCM
namespace Go.Proofs.Ytplmcpdlommmaaa.Oq
open Go Go.RowKit Kt Kg Lw Tr Dq

theorem at_mem {l : List Bs} {k : Nat} (h : k < l.length) : at_ l k ∈ l := by
  unfold at_
  rw [List.getD_eq_getElem?_getD, List.getElem?_eq_getElem h]
  exact List.getElem_mem h
theorem at_of {l : List Bs} {x : Bs} (h : x ∈ l) : ∃ k, k < l.length ∧ at_ l k = x := by
  obtain ⟨k, hk, e⟩ := List.mem_iff_getElem.1 h
  exact ⟨k, hk, by unfold at_; rw [List.getD_eq_getElem?_getD, List.getElem?_eq_getElem hk]; exact e⟩
theorem at_inj {l : List Bs} (h : l.Nodup) {i j : Nat} (hi : i < l.length) (hj : j < l.length) (e : at_ l i = at_ l j) : i = j := by
  unfold at_ at e
  rw [List.getD_eq_getElem?_getD, List.getD_eq_getElem?_getD, List.getElem?_eq_getElem hi, List.getElem?_eq_getElem hj] at e
  rcases Nat.lt_trichotomy i j with k | k | k
  · exact absurd e (List.pairwise_iff_getElem.1 h i j hi hj k)
  · exact k
  · exact absurd e.symm (List.pairwise_iff_getElem.1 h j i hj hi k)
theorem swp_of {l : List Bs} {i j : Nat} (hi : i < l.length) (hj : j < l.length) (k : Nat) : at_ (swp l i j) k = if k = j then at_ l i else if k = i then at_ l j else at_ l k := by
  unfold at_
  exact swp_at hi hj k
/-- the loops of a partition -/
structure Prt (D : List Nd) (P : Bs) (l l' : List Bs) (n i j : Nat) : Prop where
  perm : l'.Perm l
  zero : at_ l' 0 = P
  one : 1 ≤ i
  ij : i ≤ j + 1
  jn : j < n
  lo : ∀ k, 1 ≤ k → k < i → rlt D (at_ l' k) P
  hi : ∀ k, j < k → k < n → ¬ rlt D (at_ l' k) P
/-- what it ends with -/
structure Don (D : List Nd) (P : Bs) (l : List Bs) (n m : Nat) : Prop where
  mn : m < n
  at_m : at_ l m = P
  lo : ∀ k, k < m → rlt D (at_ l k) P
  hi : ∀ k, m < k → k < n → ¬ rlt D (at_ l k) P
theorem Prt.start {D : List Nd} {l l' : List Bs} {n : Nat} (hp : l'.Perm l) (hn : 1 ≤ n) : Prt D (at_ l' 0) l l' n 1 (n - 1) := ⟨hp, rfl, Nat.le_refl _, by omega, by omega, fun k h1 h2 => by omega, fun k h1 h2 => by omega⟩
theorem Prt.up {D : List Nd} {P : Bs} {l l' : List Bs} {n i j : Nat} (h : Prt D P l l' n i j) (hij : i ≤ j) (hr : rlt D (at_ l' i) P) : Prt D P l l' n (i + 1) j := by
  have := h.one
  refine ⟨h.perm, h.zero, by omega, by omega, h.jn, fun k h1 h2 => ?_, h.hi⟩
  by_cases e : k = i
  · rw [e]; exact hr
  · exact h.lo k h1 (by omega)
theorem Prt.down {D : List Nd} {P : Bs} {l l' : List Bs} {n i j : Nat} (h : Prt D P l l' n i (j + 1)) (hij : i ≤ j + 1) (hr : ¬ rlt D (at_ l' (j + 1)) P) : Prt D P l l' n i j := by
  have := h.jn
  refine ⟨h.perm, h.zero, h.one, by omega, by omega, h.lo, fun k h1 h2 => ?_⟩
  by_cases e : k = j + 1
  · rw [e]; exact hr
  · exact h.hi k (by omega) h2
theorem Prt.turn {D : List Nd} {P : Bs} {l l' : List Bs} {n i j : Nat} (h : Prt D P l l' n i (j + 1)) (hl : l'.length = n) (hij : i ≤ j + 1) (hi : ¬ rlt D (at_ l' i) P) (hj : rlt D (at_ l' (j + 1)) P) : Prt D P l (swp l' i (j + 1)) n (i + 1) j := by
  have h1 := h.one
  have h2 := h.jn
  have hne : i ≠ j + 1 := fun e => hi (by rw [e]; exact hj)
  have e := swp_of (l := l') (i := i) (j := j + 1) (by omega) (by omega)
  refine ⟨(swp_perm (by omega) (by omega)).trans h.perm, ?_, by omega, by omega, by omega, fun k k1 k2 => ?_, fun k k1 k2 => ?_⟩
  · rw [e 0, if_neg (by omega), if_neg (by omega)]; exact h.zero
  · rw [e k]
    by_cases ek : k = i
    · rw [if_neg (by omega), if_pos ek]; exact hj
    · rw [if_neg (by omega), if_neg ek]; exact h.lo k k1 (by omega)
  · rw [e k]
    by_cases ek : k = j + 1
    · rw [if_pos ek]; exact hi
    · rw [if_neg ek, if_neg (by omega)]; exact h.hi k (by omega) k2
theorem Prt.done {D : List Nd} {P : Bs} {l l' : List Bs} {n i j : Nat} (h : Prt D P l l' n i j) (hl : l'.length = n) (hij : j < i) : Don D P (swp l' j 0) n j ∧ (swp l' j 0).Perm l := by
  have h1 := h.one
  have h2 := h.jn
  have h3 := h.ij
  have e := swp_of (l := l') (i := j) (j := 0) (by omega) (by omega)
  refine ⟨⟨h2, ?_, fun k k1 => ?_, fun k k1 k2 => ?_⟩, (swp_perm (by omega) (by omega)).trans h.perm⟩
  · rw [e j]
    by_cases e0 : j = 0
    · rw [if_pos e0, e0]; exact h.zero
    · rw [if_neg e0, if_pos rfl]; exact h.zero
  · rw [e k]
    by_cases e0 : k = 0
    · rw [if_pos e0]; exact h.lo j (by omega) (by omega)
    · rw [if_neg e0, if_neg (by omega)]; exact h.lo k (by omega) (by omega)
  · rw [e k, if_neg (by omega), if_neg (by omega)]
    exact h.hi k k1 k2
theorem Don.mid {D : List Nd} {P : Bs} {l : List Bs} {n m : Nat} (h : Don D P l n m) (hl : l.length = n) {x y : Bs} (hx : x ∈ l) (hy : y ∈ l) (h1 : rlt D x P) (h2 : rlt D P y) : 1 ≤ m ∧ m + 2 ≤ n := by
  obtain ⟨p, hp, ep⟩ := at_of hx
  obtain ⟨q, hq, eq⟩ := at_of hy
  have hmn := h.mn
  have a1 : p < m := by
    refine Nat.lt_of_not_le fun hle => ?_
    by_cases e : p = m
    · rw [e, h.at_m] at ep; rw [← ep] at h1; exact rlt_irr h1
    · exact h.hi p (by omega) (by omega) (by rw [ep]; exact h1)
  have a2 : m < q := by
    refine Nat.lt_of_not_le fun hle => ?_
    by_cases e : q = m
    · rw [e, h.at_m] at eq; rw [← eq] at h2; exact rlt_irr h2
    · exact rlt_asymm h2 (by have := h.lo q (by omega); rwa [eq] at this)
  omega
/-- what was told of places is told of them again -/
theorem Mvd.seg {l l' : List Bs} {a b : Nat} {Q : Bs → Prop} (h : Mvd l l' a b) (hab : a ≤ b) (hb : b ≤ l.length) (hq : ∀ k, a ≤ k → k < b → Q (at_ l k)) : ∀ k, a ≤ k → k < b → Q (at_ l' k) := by
  have hl := h.len
  have hat : ∀ (s : List Bs) (k : Nat), k < s.length → s[k]? = some (at_ s k) := fun s k hk => by
    unfold at_
    rw [List.getD_eq_getElem?_getD, List.getElem?_eq_getElem hk]; rfl
  have ht : l'.take a = l.take a := List.ext_getElem? fun k => by
    rw [List.getElem?_take, List.getElem?_take]
    by_cases hk : k < a
    · rw [if_pos hk, if_pos hk, hat l' k (by omega), hat l k (by omega), h.out k (.inl hk)]
    · rw [if_neg hk, if_neg hk]
  have hd : l'.drop b = l.drop b := List.ext_getElem? fun k => by
    rw [List.getElem?_drop, List.getElem?_drop]
    by_cases hk : b + k < l.length
    · rw [hat l' _ (by omega), hat l _ hk, h.out _ (.inr (by omega))]
    · rw [List.getElem?_eq_none (by omega), List.getElem?_eq_none (by omega)]
  have hs : ∀ s : List Bs, s = s.take a ++ ((s.drop a).take (b - a) ++ s.drop b) := fun s => by
    have e : s.drop b = (s.drop a).drop (b - a) := by rw [List.drop_drop]; congr 1; omega
    rw [e, List.take_append_drop, List.take_append_drop]
  have hp : ((l'.drop a).take (b - a)).Perm ((l.drop a).take (b - a)) := by
    have h1 := h.perm
    rw [hs l', hs l, ht, hd] at h1
    exact (List.perm_append_right_iff _).1 ((List.perm_append_left_iff _).1 h1)
  intro k h1 h2
  have hm : at_ l' k ∈ (l'.drop a).take (b - a) := by
    refine List.mem_of_getElem? (i := k - a) ?_
    rw [List.getElem?_take, if_pos (by omega), List.getElem?_drop, show a + (k - a) = k from by omega]
    exact hat l' k (by omega)
  obtain ⟨i, hi⟩ := List.mem_iff_getElem?.1 (hp.mem_iff.1 hm)
  rw [List.getElem?_take] at hi
  by_cases hib : i < b - a
  · rw [if_pos hib, List.getElem?_drop, hat l _ (by omega)] at hi
    injection hi with hi
    rw [← hi]
    exact hq _ (by omega) (by omega)
  · rw [if_neg hib] at hi; cases hi
theorem Don.mv {D : List Nd} {P : Bs} {l l' : List Bs} {n m a b : Nat} (h : Don D P l n m) (hv : Mvd l l' a b) (hab : a ≤ b) (hs : b ≤ m ∨ m < a) (hb : b ≤ n) (hl : l.length = n) : Don D P l' n m := by
  refine ⟨h.mn, ?_, fun k hk => ?_, fun k k1 k2 => ?_⟩
  · rw [hv.out m (by omega)]; exact h.at_m
  · by_cases e : a ≤ k ∧ k < b
    · exact hv.seg (Q := fun x => rlt D x P) hab (by omega) (fun q q1 q2 => h.lo q (by omega)) k e.1 e.2
    · rw [hv.out k (by omega)]; exact h.lo k hk
  · by_cases e : a ≤ k ∧ k < b
    · exact hv.seg (Q := fun x => ¬ rlt D x P) hab (by omega) (fun q q1 q2 => h.hi q (by omega) (by omega)) k e.1 e.2
    · rw [hv.out k (by omega)]; exact h.hi k k1 k2
theorem Asc.mv {D : List Nd} {l l' : List Bs} {a b p q : Nat} (h : Asc D l p q) (hv : Mvd l l' a b) (hs : q ≤ a ∨ b ≤ p) : Asc D l' p q := fun x y h1 h2 h3 => by
  rw [hv.out x (by omega), hv.out y (by omega)]
  exact h x y h1 h2 h3
theorem Don.asc {D : List Nd} {P : Bs} {l : List Bs} {n m : Nat} (h : Don D P l n m) (h1 : Asc D l 0 m) (h2 : Asc D l (m + 1) n) : Asc D l 0 n := fun p q _ hpq hq => by
  by_cases e1 : q < m
  · exact h1 p q (Nat.zero_le _) hpq e1
  · by_cases e2 : q = m
    · rw [e2, h.at_m]; exact rlt_asymm (h.lo p (by omega))
    · by_cases e3 : p < m
      · intro hr
        exact h.hi q (by omega) hq (rlt_trans hr (h.lo p e3))
      · by_cases e4 : p = m
        · rw [e4, h.at_m]; exact h.hi q (by omega) hq
        · exact h2 p q (by omega) hpq hq
theorem asc_step {D : List Nd} {l : List Bs} {n : Nat} (h : ∀ k, 1 ≤ k → k < n → ¬ rlt D (at_ l k) (at_ l (k - 1))) : Asc D l 0 n := by
  intro p q _ hpq hq
  obtain ⟨d, rfl⟩ : ∃ d, q = p + 1 + d := ⟨q - p - 1, by omega⟩
  clear hpq
  induction d with
  | zero => exact h (p + 1) (by omega) hq
  | succ d ih => exact nlt_trans (ih (by omega)) (h (p + 1 + (d + 1)) (by omega) hq)
/-- two places, the lower one first -/
structure So2 (D : List Nd) (l : List Bs) (a b x y : Nat) : Prop where
  or : x = a ∧ y = b ∨ x = b ∧ y = a
  lt : rlt D (at_ l x) (at_ l y)
/-- between two others -/
structure Med (D : List Nd) (l : List Bs) (n m : Nat) : Prop where
  mn : m < n
  lo : ∃ x ∈ l, rlt D x (at_ l m)
  hi : ∃ x ∈ l, rlt D (at_ l m) x
theorem So2.med {D : List Nd} {l : List Bs} {a b c a1 b1 b2 c2 a3 b3 : Nat} (h1 : So2 D l a b a1 b1) (h2 : So2 D l b1 c b2 c2) (h3 : So2 D l a1 b2 a3 b3) (ha : a < l.length) (hb : b < l.length) (hc : c < l.length) : Med D l l.length b3 := by
  obtain ⟨o1, r1⟩ := h1
  obtain ⟨o2, r2⟩ := h2
  obtain ⟨o3, r3⟩ := h3
  have k1 : a1 < l.length := by omega
  have k2 : b1 < l.length := by omega
  have k3 : b2 < l.length := by omega
  have k4 : c2 < l.length := by omega
  rcases o3 with ⟨rfl, rfl⟩ | ⟨rfl, rfl⟩
  · exact ⟨k3, ⟨_, at_mem k1, r3⟩, ⟨_, at_mem k4, r2⟩⟩
  · refine ⟨k1, ⟨_, at_mem k3, r3⟩, ?_⟩
    rcases o2 with ⟨rfl, rfl⟩ | ⟨rfl, rfl⟩
    · exact absurd r3 (rlt_asymm r1)
    · exact ⟨_, at_mem k2, r1⟩
end Go.Proofs.Ytplmcpdlommmaaa.Oq
