/-
  One line of all, on lists alone: the log, ranks, what is below, what two have in common. No program is named here.
-/
import Derived.Test.YtplmcpdlommmaaaQDC
namespace Go.Proofs.Ytplmcpdlommmaaa.Oq
open Tr Dq

/-! ### The log -/
/-- the least one that isn't told yet, and whose parents are -/
def nextL (D : List Nd) (o : List Bs) : Option Bs := (all D true).find? fun a => !decide (a ∈ o) && (parents D a).all fun p => decide (p ∈ o)
def logF : Nat → List Nd → List Bs → List Bs
  | 0, _, o => o
  | f + 1, D, o => match nextL D o with
    | none => o
    | some a => logF f D (o ++ [a])
def log (D : List Nd) : List Bs := logF (all D true).length D []
theorem all_in2 {D : List Nd} (h : Inv D) (k : Bs) : k ∈ all D true ↔ has D k = true := by
  rw [has_iff h.up]
  unfold all
  simp only [List.mem_map, List.mem_filter, beq_iff_eq]
  exact ⟨fun ⟨n, ⟨h1, h2⟩, h3⟩ => ⟨n, h1, h3, h2⟩, fun ⟨n, h1, h3, h2⟩ => ⟨n, ⟨h1, h2⟩, h3⟩⟩
theorem all_up2 {D : List Nd} (h : Inv D) (b : Bool) : Up (all D b) := List.Pairwise.sublist ((List.filter_sublist (l := D)).map Nd.id) h.up
theorem up_once2 {l : List Bs} (h : Up l) : l.Nodup := h.imp fun h e => lt_ne h e
theorem len_le : ∀ {l m : List Bs}, l.Nodup → (∀ x ∈ l, x ∈ m) → l.length ≤ m.length
  | [], _, _, _ => Nat.zero_le _
  | x :: l, m, h, hs => by
    obtain ⟨h1, h2⟩ := List.nodup_cons.1 h
    have hx := hs x List.mem_cons_self
    have := len_le (m := m.erase x) h2 fun y hy => (List.mem_erase_of_ne (by rintro rfl; exact h1 hy)).2 (hs y (List.mem_cons_of_mem _ hy))
    rw [List.length_erase_of_mem hx] at this
    have := List.length_pos_of_mem hx
    rw [List.length_cons]; omega
/-- what is told so far -/
structure Tld (D : List Nd) (o : List Bs) : Prop where
  once : o.Nodup
  sub : ∀ a ∈ o, has D a = true
  ahead : ∀ l1 a l2, o = l1 ++ a :: l2 → ∀ p ∈ parents D a, p ∈ l1
theorem Tld.nil (D : List Nd) : Tld D [] := ⟨List.nodup_nil, fun a h => (by cases h), fun l1 a l2 h => (by cases l1 <;> cases h)⟩
theorem nextL_some {D : List Nd} {o : List Bs} {a : Bs} (h : nextL D o = some a) : a ∈ all D true ∧ a ∉ o ∧ ∀ p ∈ parents D a, p ∈ o := by
  unfold nextL at h
  have h1 := List.mem_of_find?_eq_some h
  have h2 := List.find?_some h
  simp only [Bool.and_eq_true, Bool.not_eq_true', decide_eq_false_iff_not, List.all_eq_true, decide_eq_true_eq] at h2
  exact ⟨h1, h2.1, h2.2⟩
theorem nextL_least {D : List Nd} (hI : Inv D) {o : List Bs} {a b : Bs} (h : nextL D o = some a) (hb : has D b = true) (h1 : b ∉ o) (h2 : ∀ p ∈ parents D b, p ∈ o) : b = a ∨ lt a b = true := by
  unfold nextL at h
  obtain ⟨h0, ps, bs, he, hn⟩ := List.find?_eq_some_iff_append.1 h
  have hm : b ∈ ps ++ a :: bs := by rw [← he]; exact (all_in2 hI b).2 hb
  rcases List.mem_append.1 hm with k | k
  · have := hn b k
    simp only [Bool.not_eq_true', Bool.and_eq_false_iff, Bool.not_eq_false', decide_eq_true_eq] at this
    rcases this with z | z
    · exact absurd z h1
    · rw [List.all_eq_true.2 fun p hp => by simpa using h2 p hp] at z
      cases z
  · rcases List.mem_cons.1 k with k | k
    · exact .inl k
    · have hu := all_up2 hI true
      rw [he] at hu
      have := (List.pairwise_append.1 hu).2.1
      exact .inr ((List.pairwise_cons.1 this).1 b k)
theorem nextL_is {D : List Nd} (hI : Inv D) {o : List Bs} {a : Bs} (h0 : has D a = true) (h1 : a ∉ o) (h2 : ∀ p ∈ parents D a, p ∈ o) (h3 : ∀ b, has D b = true → b ∉ o → (∀ p ∈ parents D b, p ∈ o) → b = a ∨ lt a b = true) : nextL D o = some a := by
  cases hn : nextL D o with
  | none =>
    unfold nextL at hn
    have := List.find?_eq_none.1 hn a ((all_in2 hI a).2 h0)
    simp only [Bool.not_eq_true, Bool.and_eq_false_iff, Bool.not_eq_false', decide_eq_true_eq] at this
    rcases this with z | z
    · exact absurd z h1
    · rw [List.all_eq_true.2 fun p hp => by simpa using h2 p hp] at z
      cases z
  | some b =>
    obtain ⟨q1, q2, q3⟩ := nextL_some hn
    rcases h3 b ((all_in2 hI b).1 q1) q2 q3 with e | k
    · rw [e]
    · rcases nextL_least hI hn h0 h1 h2 with e | z
      · rw [e]
      · rw [lt_asymm k] at z; cases z
theorem nextL_none {D : List Nd} (hI : Inv D) {o : List Bs} (h : nextL D o = none) : ∀ a, has D a = true → a ∈ o := by
  obtain ⟨r, r1, r2⟩ := hI.ranked
  suffices ∀ k a, r a < k → has D a = true → a ∈ o from fun a => this (r a + 1) a (Nat.lt_succ_self _)
  intro k
  induction k with
  | zero => intro a hk; omega
  | succ k ih =>
    intro a hk ha
    have hp : ∀ p ∈ parents D a, p ∈ o := fun p hp => ih p (by have := r2 a p hp; omega) (parents_in hI hp).1
    have := List.find?_eq_none.1 h a ((all_in2 hI a).2 ha)
    simp only [Bool.not_eq_true, Bool.and_eq_false_iff, Bool.not_eq_false', decide_eq_true_eq] at this
    rcases this with z | z
    · exact z
    · rw [List.all_eq_true.2 fun p hp' => by simpa using hp p hp'] at z
      cases z
theorem Tld.next {D : List Nd} (hI : Inv D) {o : List Bs} (h : Tld D o) {a : Bs} (hn : nextL D o = some a) : Tld D (o ++ [a]) := by
  obtain ⟨q1, q2, q3⟩ := nextL_some hn
  refine ⟨List.nodup_append.2 ⟨h.once, by simp, fun x hx y hy e => ?_⟩, fun x hx => ?_, fun l1 x l2 he => ?_⟩
  · rw [List.mem_singleton.1 hy] at e
    rw [e] at hx
    exact q2 hx
  · rcases List.mem_append.1 hx with k | k
    · exact h.sub x k
    · rw [List.mem_singleton.1 k]; exact (all_in2 hI a).1 q1
  · rcases l2.eq_nil_or_concat with rfl | ⟨l3, z, rfl⟩
    · have e2 := List.append_inj' he rfl
      obtain ⟨e3, e4⟩ := e2
      injection e4 with e4
      rw [← e3, ← e4]; exact q3
    · rw [List.concat_eq_append, ← List.cons_append, ← List.append_assoc] at he
      exact h.ahead l1 x l3 (List.append_inj' he rfl).1
theorem Tld.few {D : List Nd} (hI : Inv D) {o : List Bs} (h : Tld D o) : o.length ≤ (all D true).length := len_le h.once fun x hx => (all_in2 hI x).2 (h.sub x hx)
theorem logF_tld {D : List Nd} (hI : Inv D) : ∀ (f : Nat) (o : List Bs), Tld D o → Tld D (logF f D o)
  | 0, _, h => h
  | f + 1, o, h => by
    unfold logF
    split
    · exact h
    · next a hn => exact logF_tld hI f _ (h.next hI hn)
theorem logF_over {D : List Nd} {o : List Bs} (h : nextL D o = none) : ∀ f, logF f D o = o
  | 0 => rfl
  | f + 1 => by unfold logF; rw [h]
/-- enough rounds: all are told -/
theorem logF_whole {D : List Nd} (hI : Inv D) : ∀ (f : Nat) (o : List Bs), Tld D o → (all D true).length ≤ o.length + f → nextL D (logF f D o) = none
  | 0, o, h, hl => by
    show nextL D o = none
    cases hn : nextL D o with
    | none => rfl
    | some a =>
      have := (h.next hI hn).few hI
      rw [List.length_append, List.length_cons, List.length_nil] at this
      omega
  | f + 1, o, h, hl => by
    unfold logF
    cases hn : nextL D o with
    | none => exact hn
    | some a => exact logF_whole hI f _ (h.next hI hn) (by rw [List.length_append, List.length_cons, List.length_nil]; omega)
theorem logF_add {D : List Nd} : ∀ (f : Nat) (o : List Bs) (g : Nat), logF (f + g) D o = logF g D (logF f D o)
  | 0, o, g => by rw [Nat.zero_add]; rfl
  | f + 1, o, g => by
    rw [show f + 1 + g = f + g + 1 by omega]
    cases hn : nextL D o with
    | none => rw [logF_over hn, logF_over hn, logF_over hn]
    | some a =>
      show (match nextL D o with | none => o | some a => logF (f + g) D (o ++ [a])) = logF g D (match nextL D o with | none => o | some a => logF f D (o ++ [a]))
      rw [hn]
      exact logF_add f (o ++ [a]) g
theorem log_tld {D : List Nd} (hI : Inv D) : Tld D (log D) := logF_tld hI _ _ (Tld.nil D)
theorem log_over {D : List Nd} (hI : Inv D) : nextL D (log D) = none := logF_whole hI _ _ (Tld.nil D) (by simp)
theorem log_more {D : List Nd} (hI : Inv D) (f : Nat) (hf : (all D true).length ≤ f) : logF f D [] = log D := by
  obtain ⟨g, rfl⟩ : ∃ g, f = (all D true).length + g := ⟨f - (all D true).length, by omega⟩
  rw [logF_add]
  exact logF_over (log_over hI) g
theorem log_mem {D : List Nd} (hI : Inv D) {a : Bs} : a ∈ log D ↔ has D a = true := ⟨(log_tld hI).sub a, nextL_none hI (log_over hI) a⟩
theorem log_len {D : List Nd} (hI : Inv D) : (log D).length = (all D true).length := by
  refine Nat.le_antisymm ((log_tld hI).few hI) (len_le (up_once2 (all_up2 hI true)) fun x hx => (log_mem hI).2 ((all_in2 hI x).1 hx))
/-- who is told next: nobody that could be told ahead is passed by -/
theorem logF_next {D : List Nd} (hI : Inv D) {o : List Bs} (hl : o.length < (all D true).length) : ∃ a, nextL D o = some a := by
  cases hn : nextL D o with
  | some a => exact ⟨a, rfl⟩
  | none =>
    have := len_le (up_once2 (all_up2 hI true)) fun x hx => nextL_none hI hn x ((all_in2 hI x).1 hx)
    omega
/-! ### Ranks -/
/-- a's rank is less than b's -/
def rlt (D : List Nd) (a b : Bs) : Prop := level D a < level D b ∨ (level D a = level D b ∧ lt a b = true)
def ranks (D : List Nd) (l : List Bs) : List Bs := (List.range (D.length + 1)).flatMap fun (k : Nat) => (sortIds l).filter fun a => decide (level D a = (k : Int))
theorem rlt_irr {D : List Nd} {a : Bs} : ¬ rlt D a a := by
  rintro (h | ⟨_, h⟩)
  · omega
  · rw [lt_irr] at h; cases h
theorem rlt_trans {D : List Nd} {a b c : Bs} (h1 : rlt D a b) (h2 : rlt D b c) : rlt D a c := by
  rcases h1 with h1 | ⟨h1, h3⟩
  · rcases h2 with h2 | ⟨h2, _⟩
    · exact .inl (by omega)
    · exact .inl (by omega)
  · rcases h2 with h2 | ⟨h2, h4⟩
    · exact .inl (by omega)
    · exact .inr ⟨by omega, lt_trans h3 h4⟩
theorem rlt_tri (D : List Nd) (a b : Bs) : rlt D a b ∨ a = b ∨ rlt D b a := by
  rcases Int.lt_trichotomy (level D a) (level D b) with h | h | h
  · exact .inl (.inl h)
  · rcases lt_tri a b with k | k | k
    · exact .inl (.inr ⟨h, k⟩)
    · exact .inr (.inl k)
    · exact .inr (.inr (.inr ⟨h.symm, k⟩))
  · exact .inr (.inr (.inl h))
theorem ord_ext {R : Bs → Bs → Prop} (hi : ∀ a, ¬ R a a) (ht : ∀ a b c, R a b → R b c → R a c) : ∀ {l m : List Bs}, l.Pairwise R → m.Pairwise R → (∀ x, x ∈ l ↔ x ∈ m) → l = m
  | [], [], _, _, _ => rfl
  | [], y :: m, _, _, h => by have := (h y).2 List.mem_cons_self; cases this
  | x :: l, [], _, _, h => by have := (h x).1 List.mem_cons_self; cases this
  | x :: l, y :: m, h1, h2, h => by
    obtain ⟨a1, a2⟩ := List.pairwise_cons.1 h1
    obtain ⟨b1, b2⟩ := List.pairwise_cons.1 h2
    have e : x = y := by
      rcases List.mem_cons.1 ((h x).1 List.mem_cons_self) with k | k
      · exact k
      · rcases List.mem_cons.1 ((h y).2 List.mem_cons_self) with z | z
        · exact z.symm
        · exact absurd (ht _ _ _ (a1 y z) (b1 x k)) (hi x)
    subst e
    rw [ord_ext hi ht a2 b2 fun z => ?_]
    constructor
    · intro hz
      rcases List.mem_cons.1 ((h z).1 (List.mem_cons_of_mem _ hz)) with k | k
      · exact absurd (by rw [k] at hz; exact a1 x hz) (hi x)
      · exact k
    · intro hz
      rcases List.mem_cons.1 ((h z).2 (List.mem_cons_of_mem _ hz)) with k | k
      · exact absurd (by rw [k] at hz; exact b1 x hz) (hi x)
      · exact k
theorem foldPut_up (l : List Bs) : ∀ o : List Bs, Up o → Up (l.foldl putId o) := by
  have one : ∀ (o : List Bs) (x : Bs), Up o → Up (putId o x) := by
    intro o
    induction o with
    | nil => intro x _; unfold putId; exact List.pairwise_singleton _ _
    | cons y r ih =>
      intro x h
      obtain ⟨h1, h2⟩ := List.pairwise_cons.1 h
      unfold putId
      split
      · exact h
      · next hne =>
        split
        · next hl =>
          refine List.pairwise_cons.2 ⟨fun b hb => ?_, h⟩
          rcases List.mem_cons.1 hb with rfl | hb
          · exact hl
          · exact lt_trans hl (h1 b hb)
        · next hl =>
          refine List.pairwise_cons.2 ⟨fun b hb => ?_, ih x h2⟩
          rcases putId_mem.1 hb with rfl | hb
          · rcases lt_tri y b with k | k | k
            · exact k
            · exact absurd k hne
            · exact absurd k hl
          · exact h1 b hb
  induction l with
  | nil => intro o h; exact h
  | cons x r ih => intro o h; exact ih _ (one o x h)
theorem sortIds_up (l : List Bs) : Up (sortIds l) := foldPut_up l [] List.Pairwise.nil
theorem sortIds_id {l : List Bs} (h : Up l) : sortIds l = l := up_ext (sortIds_up l) h fun _ => sortIds_mem
theorem level_has {D : List Nd} (hI : Inv D) {a : Bs} (h : has D a = true) : 0 ≤ level D a ∧ level D a < D.length := by
  rw [level_in h]
  have := lv_few hI h
  omega
theorem ranks_mem {D : List Nd} (hI : Inv D) {l : List Bs} {a : Bs} : a ∈ ranks D l ↔ a ∈ l ∧ has D a = true := by
  unfold ranks
  simp only [List.mem_flatMap, List.mem_range, List.mem_filter, decide_eq_true_eq, sortIds_mem]
  constructor
  · rintro ⟨k, hk, h1, h2⟩
    refine ⟨h1, ?_⟩
    cases h : has D a with
    | true => rfl
    | false => rw [level_out h] at h2; omega
  · rintro ⟨h1, h2⟩
    have := level_has hI h2
    exact ⟨(level D a).toNat, by omega, h1, by omega⟩
theorem ranks_up (D : List Nd) (l : List Bs) : (ranks D l).Pairwise (rlt D) := by
  unfold ranks
  rw [List.pairwise_flatMap]
  refine ⟨fun k _ => ?_, ?_⟩
  · have h1 := (sortIds_up l).filter fun a => decide (level D a = (k : Int))
    refine List.Pairwise.imp_of_mem (fun {a b} ha hb hlt => ?_) h1
    have e1 := (List.mem_filter.1 ha).2
    have e2 := (List.mem_filter.1 hb).2
    rw [decide_eq_true_eq] at e1 e2
    exact .inr ⟨by rw [e1, e2], hlt⟩
  · refine List.Pairwise.imp (fun {i j} hij a ha b hb => ?_) List.pairwise_lt_range
    have e1 := (List.mem_filter.1 ha).2
    have e2 := (List.mem_filter.1 hb).2
    rw [decide_eq_true_eq] at e1 e2
    exact .inl (by rw [e1, e2]; omega)
theorem ranks_ext {D : List Nd} (hI : Inv D) {l m : List Bs} (h : m.Pairwise (rlt D)) (hm : ∀ a, a ∈ m ↔ a ∈ l ∧ has D a = true) : m = ranks D l :=
  ord_ext (fun _ => rlt_irr) (fun _ _ _ => rlt_trans) h (ranks_up D l) fun a => by rw [hm a, ranks_mem hI]
theorem ranks_len {D : List Nd} (hI : Inv D) (l : List Bs) : (ranks D l).length ≤ l.length :=
  len_le (show (ranks D l).Pairwise (fun a b => a ≠ b) from (ranks_up D l).imp fun {a b} h => by rintro rfl; exact rlt_irr h) fun x hx => ((ranks_mem hI).1 hx).1
/-- parents have lesser ranks -/
theorem rlt_parent {D : List Nd} (hI : Inv D) {a p : Bs} (h : p ∈ parents D a) : rlt D p a := .inl (level_below hI h)
/-! ### What is below -/
def bel (D : List Nd) (l : List Bs) : List Bs := (all D true).filter fun a => l.any fun x => above D a x
theorem bel_mem {D : List Nd} (hI : Inv D) {l : List Bs} {a : Bs} : a ∈ bel D l ↔ ∃ x ∈ l, above D a x = true := by
  unfold bel
  rw [List.mem_filter, List.any_eq_true, all_in2 hI]
  constructor
  · exact fun h => h.2
  · rintro ⟨x, hx, h⟩
    obtain ⟨q1, q2⟩ := (above_iff hI).1 h
    exact ⟨on_has hI q2 q1, x, hx, h⟩
theorem bel_has {D : List Nd} (hI : Inv D) {l : List Bs} {a : Bs} (h : a ∈ bel D l) : has D a = true := (all_in2 hI a).1 (List.mem_filter.1 h).1
theorem bel_up {D : List Nd} (hI : Inv D) (l : List Bs) : Up (bel D l) := (all_up2 hI true).filter _
theorem bel_len (D : List Nd) (l : List Bs) : (bel D l).length ≤ (all D true).length := List.length_filter_le _ _
theorem bel_ext {D : List Nd} (hI : Inv D) {l m : List Bs} (h : Up m) (hm : ∀ a, a ∈ m ↔ ∃ x ∈ l, above D a x = true) : m = bel D l :=
  up_ext h (bel_up hI l) fun a => by rw [hm a, bel_mem hI]
/-- what is below goes on down -/
theorem bel_down {D : List Nd} (hI : Inv D) {l : List Bs} {a p : Bs} (h : a ∈ bel D l) (hp : p ∈ parents D a) : p ∈ bel D l := by
  obtain ⟨x, hx, h⟩ := (bel_mem hI).1 h
  obtain ⟨q1, q2⟩ := (above_iff hI).1 h
  exact (bel_mem hI).2 ⟨x, hx, (above_iff hI).2 ⟨q1, On.trans (.step hp (.self _)) q2⟩⟩
/-! ### What two have in common -/
def both (D : List Nd) (a b : List Bs) : List Bs := (bel D a).filter fun x => decide (x ∈ bel D b)
def common (D : List Nd) (a b : List Bs) : Option Bs := (ranks D (both D a b)).getLast?
theorem both_mem {D : List Nd} {a b : List Bs} {x : Bs} : x ∈ both D a b ↔ x ∈ bel D a ∧ x ∈ bel D b := by
  unfold both
  rw [List.mem_filter, decide_eq_true_eq]
theorem last_is {R : Bs → Bs → Prop} (hi : ∀ a, ¬ R a a) (ht : ∀ a b c, R a b → R b c → R a c) {l : List Bs} (h : l.Pairwise R) {m : Bs} (hm : m ∈ l) (hx : ∀ y ∈ l, y = m ∨ R y m) : l.getLast? = some m := by
  rcases l.eq_nil_or_concat with rfl | ⟨r, z, rfl⟩
  · cases hm
  · rw [List.concat_eq_append] at *
    rw [List.getLast?_concat]
    rcases List.mem_append.1 hm with k | k
    · have h1 := (List.pairwise_append.1 h).2.2 m k z (by simp)
      rcases hx z (by simp) with e | k2
      · rw [e]
      · exact absurd (ht _ _ _ h1 k2) (hi m)
    · rw [List.mem_singleton.1 k]
theorem last_of {R : Bs → Bs → Prop} {l : List Bs} (h : l.Pairwise R) {m : Bs} (hm : l.getLast? = some m) : m ∈ l ∧ ∀ y ∈ l, y = m ∨ R y m := by
  rcases l.eq_nil_or_concat with rfl | ⟨r, z, rfl⟩
  · cases hm
  · rw [List.concat_eq_append] at *
    rw [List.getLast?_concat] at hm
    injection hm with hm
    subst hm
    refine ⟨by simp, fun y hy => ?_⟩
    rcases List.mem_append.1 hy with k | k
    · exact .inr ((List.pairwise_append.1 h).2.2 y k z (by simp))
    · exact .inl (List.mem_singleton.1 k)
theorem common_is {D : List Nd} (hI : Inv D) {a b : List Bs} {m : Bs} (h1 : m ∈ bel D a) (h2 : m ∈ bel D b) (h3 : ∀ y, y ∈ bel D a → y ∈ bel D b → y = m ∨ rlt D y m) : common D a b = some m :=
  last_is (fun _ => rlt_irr) (fun _ _ _ => rlt_trans) (ranks_up D _) ((ranks_mem hI).2 ⟨both_mem.2 ⟨h1, h2⟩, bel_has hI h1⟩) fun y hy => by
    have := both_mem.1 ((ranks_mem hI).1 hy).1
    exact h3 y this.1 this.2
theorem common_none {D : List Nd} (hI : Inv D) {a b : List Bs} (h : ∀ y, y ∈ bel D a → y ∉ bel D b) : common D a b = none := by
  unfold common
  rw [List.getLast?_eq_none_iff, List.eq_nil_iff_forall_not_mem]
  intro x hx
  have := both_mem.1 ((ranks_mem hI).1 hx).1
  exact h x this.1 this.2
theorem common_some {D : List Nd} (hI : Inv D) {a b : List Bs} {m : Bs} (h : common D a b = some m) : m ∈ bel D a ∧ m ∈ bel D b ∧ ∀ y, y ∈ bel D a → y ∈ bel D b → y = m ∨ rlt D y m := by
  obtain ⟨q1, q2⟩ := last_of (ranks_up D _) h
  have := both_mem.1 ((ranks_mem hI).1 q1).1
  exact ⟨this.1, this.2, fun y h1 h2 => q2 y ((ranks_mem hI).2 ⟨both_mem.2 ⟨h1, h2⟩, bel_has hI h1⟩)⟩
theorem common_not {D : List Nd} (hI : Inv D) {a b : List Bs} (h : common D a b = none) : ∀ y, y ∈ bel D a → y ∉ bel D b := by
  intro y h1 h2
  unfold common at h
  rw [List.getLast?_eq_none_iff] at h
  have := (ranks_mem hI).2 ⟨both_mem.2 ⟨h1, h2⟩, bel_has hI h1⟩
  rw [h] at this; cases this
end Go.Proofs.Ytplmcpdlommmaaa.Oq
namespace Go.Proofs.Ytplmcpdlommmaaa.Oq
open Tr Dq

/-- who waits for f, too -/
def wt (D : List Nd) (f a : Bs) : Nd := ⟨a, sortIds (parents D a ++ [f]), false⟩
def wts (D : List Nd) (f : Bs) (l : List Bs) : List Nd := l.map (wt D f)
/-- f came, and those of o -/
def Eo (D : List Nd) (f : Bs) (o : List Bs) : List Nd := (all D true).map (fun a => ⟨a, sortIds (parents D a ++ [f]), decide (a ∈ o)⟩) ++ [⟨f, [], true⟩]
theorem insN_end {x : Nd} : ∀ {D : List Nd}, (∀ n ∈ D, lt x.id n.id = false) → insN x D = D ++ [x]
  | [], _ => rfl
  | y :: r, h => by
    unfold insN
    rw [if_neg (by rw [h y List.mem_cons_self]; decide), insN_end fun n hn => h n (List.mem_cons_of_mem _ hn)]; rfl
theorem wts_len (D : List Nd) (f : Bs) (l : List Bs) : (wts D f l).length = l.length := by simp [wts]
theorem wts_ids (D : List Nd) (f : Bs) (l : List Bs) : (wts D f l).map Nd.id = l := by
  unfold wts
  rw [List.map_map]
  exact List.map_id'' (fun _ => rfl) l
theorem get_no {D : List Nd} {id : Bs} (h : id ∉ D.map Nd.id) : get D id = none := by
  cases hg : get D id with
  | none => rfl
  | some n => exact absurd (List.mem_map.2 ⟨n, (get_some hg).1, (get_some hg).2⟩) h
theorem has_no {D : List Nd} {id : Bs} (h : id ∉ D.map Nd.id) : has D id = false := by unfold has; rw [get_no h]
/-- one more that waits -/
theorem again_next {D : List Nd} (hI : Inv D) {f : Bs} (hf : ∀ a ∈ all D true, lt a f = true) {k : Nat} {a : Bs} (hk : (all D true)[k]? = some a) :
    add (wts D f ((all D true).take k)) a (parents D a ++ [f]) = (wts D f ((all D true).take (k + 1)), []) := by
  have hu := all_up2 hI true
  have hkl := (List.getElem?_eq_some_iff.1 hk).1
  have hlt : ∀ b ∈ (all D true).take k, lt b a = true := fun b hb => by
    obtain ⟨j, hj⟩ := List.mem_iff_getElem?.1 hb
    have hjl := (List.getElem?_eq_some_iff.1 hj).1
    rw [List.length_take] at hjl
    rw [List.getElem?_take, if_pos (by omega)] at hj
    have := List.pairwise_iff_getElem.1 hu j k (by omega) hkl (by omega)
    rwa [(List.getElem?_eq_some_iff.1 hj).2, (List.getElem?_eq_some_iff.1 hk).2] at this
  have hna : a ∉ (wts D f ((all D true).take k)).map Nd.id := by
    rw [wts_ids]
    intro h
    exact absurd rfl (lt_ne (hlt a h))
  have hnf : f ∉ (wts D f ((all D true).take k)).map Nd.id := by
    rw [wts_ids]
    intro h
    exact absurd rfl (lt_ne (hf f (List.mem_of_mem_take h)))
  unfold add
  rw [get_no hna, if_neg (by simp)]
  have hr : ready (wts D f ((all D true).take k)) (sortIds (parents D a ++ [f])) = false := by
    cases h : ready (wts D f ((all D true).take k)) (sortIds (parents D a ++ [f])) with
    | false => rfl
    | true =>
      have := ready_iff.1 h f (sortIds_mem.2 (by simp))
      rw [has_no hnf] at this; cases this
  rw [if_neg (by rw [hr]; decide)]
  rw [insN_end fun n hn => ?_]
  · rw [List.take_add_one, hk]
    simp [wts, wt]
  · obtain ⟨b, hb, rfl⟩ := List.mem_map.1 hn
    exact lt_asymm (hlt b hb)
theorem eo_ids (D : List Nd) (f : Bs) (o : List Bs) : (Eo D f o).map Nd.id = all D true ++ [f] := by
  unfold Eo
  rw [List.map_append, List.map_map]
  congr 1
  exact List.map_id'' (fun _ => rfl) _
theorem eo_up {D : List Nd} (hI : Inv D) {f : Bs} (hf : ∀ a ∈ all D true, lt a f = true) (o : List Bs) : Up ((Eo D f o).map Nd.id) := by
  rw [eo_ids]
  exact List.pairwise_append.2 ⟨all_up2 hI true, List.pairwise_singleton _ _, fun a ha b hb => by rw [List.mem_singleton.1 hb]; exact hf a ha⟩
theorem eo_has {D : List Nd} (hI : Inv D) {f : Bs} (hf : ∀ a ∈ all D true, lt a f = true) {o : List Bs} (ho : ∀ a ∈ o, a ∈ all D true) (x : Bs) : has (Eo D f o) x = true ↔ x ∈ o ∨ x = f := by
  rw [has_iff (eo_up hI hf o)]
  unfold Eo
  constructor
  · rintro ⟨n, hn, rfl, h⟩
    rcases List.mem_append.1 hn with k | k
    · obtain ⟨a, _, rfl⟩ := List.mem_map.1 k
      exact .inl (by simpa using h)
    · rw [List.mem_singleton.1 k]; exact .inr rfl
  · rintro (h | h)
    · exact ⟨_, List.mem_append_left _ (List.mem_map.2 ⟨x, ho x h, rfl⟩), rfl, by simpa using h⟩
    · exact ⟨_, List.mem_append_right _ (List.mem_singleton.2 rfl), h.symm, rfl⟩
theorem eo_ready {D : List Nd} (hI : Inv D) {f : Bs} (hf : ∀ a ∈ all D true, lt a f = true) {o : List Bs} (ho : ∀ a ∈ o, a ∈ all D true) (a : Bs) : ready (Eo D f o) (sortIds (parents D a ++ [f])) = (parents D a).all fun p => decide (p ∈ o) := by
  rw [Bool.eq_iff_iff, ready_iff, List.all_eq_true]
  constructor
  · intro h p hp
    rcases (eo_has hI hf ho p).1 (h p (sortIds_mem.2 (List.mem_append_left _ hp))) with k | k
    · exact decide_eq_true k
    · have := hf p ((all_in2 hI p).2 (parents_in hI hp).1)
      rw [k, lt_irr] at this; cases this
  · intro h p hp
    rw [eo_has hI hf ho]
    rcases List.mem_append.1 (sortIds_mem.1 hp) with k | k
    · exact .inl (of_decide_eq_true (h p k))
    · exact .inr (List.mem_singleton.1 k)
theorem eo_at {D : List Nd} {f : Bs} {o : List Bs} {j : Nat} {a : Bs} (h : (all D true)[j]? = some a) : (Eo D f o)[j]? = some ⟨a, sortIds (parents D a ++ [f]), decide (a ∈ o)⟩ := by
  have hl := (List.getElem?_eq_some_iff.1 h).1
  unfold Eo
  rw [List.getElem?_append_left (by rw [List.length_map]; exact hl), List.getElem?_map, h]; rfl
theorem eo_turn {D : List Nd} (hI : Inv D) {f : Bs} {o : List Bs} {i : Nat} {a : Bs} (h : (all D true)[i]? = some a) : turnOn (Eo D f o) i = Eo D f (o ++ [a]) := by
  have hil := (List.getElem?_eq_some_iff.1 h).1
  apply List.ext_getElem?
  intro j
  rw [turnOn_at _ i (eo_at h)]
  rcases Nat.lt_or_ge j (all D true).length with hj | hj
  · have hb : (all D true)[j]? = some (all D true)[j] := List.getElem?_eq_getElem hj
    rw [eo_at hb, eo_at hb]
    by_cases e : i = j
    · subst e
      rw [if_pos rfl]
      rw [h] at hb
      injection hb with hb
      simp [← hb]
    · rw [if_neg e]
      have hne : (all D true)[j] ≠ a := fun e2 => by
        have hn := up_once2 (all_up2 hI true)
        have he := (List.getElem?_eq_some_iff.1 h).2
        exact e ((List.getElem_inj (h₀ := hil) (h₁ := hj) hn).1 (he.trans e2.symm))
      simp [hne]
  · rw [if_neg (by omega)]
    unfold Eo
    rw [List.getElem?_append_right (by rw [List.length_map]; exact hj), List.getElem?_append_right (by rw [List.length_map]; exact hj), List.length_map, List.length_map]
theorem fill_log {D : List Nd} (hI : Inv D) {f : Bs} (hf : ∀ a ∈ all D true, lt a f = true) : ∀ (k : Nat) (o q : List Bs), (∀ a ∈ o, a ∈ all D true) → ∃ r, logF k D o = o ++ r ∧ (fill k (Eo D f o) q).2 = q ++ r
  | 0, o, q, _ => ⟨[], by simp [logF], by simp [fill]⟩
  | k + 1, o, q, ho => by
    cases hn : nextL D o with
    | none =>
      refine ⟨[], by rw [logF_over hn, List.append_nil], ?_⟩
      rw [fill_none, List.append_nil]
      refine nxt_over fun j m hj => ?_
      rcases Nat.lt_or_ge j (all D true).length with hl | hl
      · have hb : (all D true)[j]? = some (all D true)[j] := List.getElem?_eq_getElem hl
        rw [eo_at hb] at hj
        injection hj with hj
        subst hj
        have := List.find?_eq_none.1 hn _ (List.getElem_mem hl)
        simp only [Bool.not_eq_true, Bool.and_eq_false_iff, Bool.not_eq_false'] at this
        rw [eo_ready hI hf ho]
        exact this
      · unfold Eo at hj
        rw [List.getElem?_append_right (by rw [List.length_map]; exact hl)] at hj
        have := List.mem_of_getElem? hj
        rw [List.mem_singleton.1 this]; exact .inl rfl
    | some a =>
      obtain ⟨q1, q2, q3⟩ := nextL_some hn
      have hn' := hn
      unfold nextL at hn'
      obtain ⟨h0, i, hi, he, hb⟩ := List.find?_eq_some_iff_getElem.1 hn'
      have hia : (all D true)[i]? = some a := by rw [List.getElem?_eq_getElem hi, he]
      have hx : nxt (Eo D f o) = some i := by
        refine nxt_here (eo_at hia) (decide_eq_false q2) ?_ fun j m hj hm => ?_
        · rw [eo_ready hI hf ho, List.all_eq_true]
          exact fun p hp => decide_eq_true (q3 p hp)
        · have hjl : j < (all D true).length := by omega
          rw [eo_at (List.getElem?_eq_getElem hjl)] at hm
          injection hm with hm
          subst hm
          have := hb j hj
          simp only [Bool.not_eq_true', Bool.and_eq_false_iff, Bool.not_eq_false'] at this
          rw [eo_ready hI hf ho]
          exact this
      obtain ⟨r, r1, r2⟩ := fill_log hI hf k (o ++ [a]) (q ++ [a]) fun b hb => by
        rcases List.mem_append.1 hb with z | z
        · exact ho b z
        · rw [List.mem_singleton.1 z]; exact q1
      refine ⟨a :: r, ?_, ?_⟩
      · show (match nextL D o with | none => o | some a => logF k D (o ++ [a])) = _
        rw [hn]
        rw [show o ++ a :: r = (o ++ [a]) ++ r by simp]
        exact r1
      · rw [fill_some hx (eo_at hia), eo_turn hI hia, r2]
        simp
/-- once f comes, the log is told -/
theorem again_tells {D : List Nd} (hI : Inv D) {f : Bs} (hf : ∀ a ∈ all D true, lt a f = true) : (add (wts D f (all D true)) f []).2 = f :: log D := by
  have hnf : f ∉ (wts D f (all D true)).map Nd.id := by
    rw [wts_ids]
    intro h
    exact absurd rfl (lt_ne (hf f h))
  unfold add
  rw [get_no hnf, if_neg (by simp), if_pos (show ready _ (sortIds []) = true from rfl)]
  have he : insN ⟨f, sortIds [], true⟩ (wts D f (all D true)) = Eo D f [] := by
    rw [insN_end fun n hn => ?_]
    · unfold Eo wts wt
      congr 1
    · obtain ⟨b, hb, rfl⟩ := List.mem_map.1 hn
      exact lt_asymm (hf b hb)
  rw [he, wts_len]
  obtain ⟨r, r1, r2⟩ := fill_log hI hf ((all D true).length + 1) [] [f] fun a h => (by cases h)
  rw [r2]
  rw [log_more hI _ (Nat.le_succ _), List.nil_append] at r1
  rw [r1]; rfl
/-- the last id, with a byte behind it, is greater than all -/
theorem lt_behind (a : Bs) (x : UInt8) : lt a (a ++ [x]) = true := by
  induction a with
  | nil => rfl
  | cons y r ih => rw [List.cons_append, lt_cons, ih]; simp
theorem first_top {D : List Nd} (hI : Inv D) {z : Bs} (hz : (all D true).getLast? = some z) (x : UInt8) : ∀ a ∈ all D true, lt a (z ++ [x]) = true := by
  intro a ha
  rcases (last_of (all_up2 hI true) hz).2 a ha with e | h
  · rw [e]; exact lt_behind z x
  · exact lt_trans h (lt_behind z x)
end Go.Proofs.Ytplmcpdlommmaaa.Oq
