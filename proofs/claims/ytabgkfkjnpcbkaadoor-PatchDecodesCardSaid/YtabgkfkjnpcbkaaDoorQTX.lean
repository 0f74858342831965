/-
  trees: a file's form.
-/
import Derived.BigQuiet
import Derived.Test.YtabgkfkjnpcbkaaDoorQWH
import Derived.Test.YtabgkfkjnpcbkaaDoorQTH
import Derived.Test.YtabgkfkjnpcbkaaDoorTF
import Derived.Test.YtabgkfkjnpcbkaaDoorKit
import Derived.Lib.SmallJoins
import Derived.Test.YtabgkfkjnpcbkaaDoorQWS
namespace Go.Proofs.YtabgkfkjnpcbkaaDoor.Tr
open Go Go.RowKit Kt Lw Li Lx Df Wr

/-- what holds of an operation's value once it is done -/
def PhiX (p x : Bs) (g B : Nat) : Nat → Value → World → Prop
  | 0, v, _ => v = .pointer (some ⟨g, 0, none⟩)
  | 1, v, _ => v = .string ⟨p.toArray⟩
  | 2, v, w => Is w (fun _ => True) v p
  | 3, v, w => Is w (fun _ => True) v (form p.length ++ p)
  | 4, v, _ => v = .pointer (some ⟨g, 1, none⟩)
  | 5, v, _ => v = .string ⟨x.toArray⟩
  | 6, v, w => Is w (fun _ => True) v x
  | 7, v, w => Own w B 5 v (fFl ⟨p, x⟩)
  | _, _, _ => True
theorem PhiX.keep {p x : Bs} {g B k : Nat} {v : Value} {w w' : World} (h : PhiX p x g B k v w) (hb : Below w.heap.size w w') : PhiX p x g B k v w' := by
  unfold PhiX at h ⊢
  split at h <;> first | exact h | exact h.below hb | exact h.kept hb
def updX (v : Nat → Value) (k : Nat) (x : Value) : Nat → Value := fun j => if j = k then x else v j
theorem updX_same (v : Nat → Value) (k : Nat) (x : Value) : updX v k x k = x := if_pos rfl
theorem updX_other (v : Nat → Value) (k : Nat) (x : Value) (j : Nat) (h : j ≠ k) : updX v k x j = v j := if_neg h
def frX (r p1 x2 : Value) (v : Nat → Value) : Act := { tmps := List.toArray (r :: p1 :: x2 :: v 3 :: v 4 :: v 5 :: v 6 :: v 7 :: v 8 :: v 9 :: v 10 :: []), defers := [] }
theorem repX_false (n k : Nat) : (Array.replicate n false).getD k false = false := by
  unfold Array.getD
  split
  · simp
  · rfl
/-- what holds of all that is done so far -/
structure DnX (p x : Bs) (g B : Nat) (w1 : World) (listed : Array Bool) (v : Nat → Value) (x2 : Value) (w : World) : Prop where
  low : Below w1.heap.size w1 w
  phi : ∀ k, k < 8 → listed.getD k false = true → PhiX p x g B k (v (k + 3)) w
  fin : listed.getD 8 false = true → Own w B 5 x2 (fFl ⟨p, x⟩)
theorem DnX.step {p x : Bs} {g B : Nat} {w1 : World} {listed : Array Bool} {v : Nat → Value} {x2 : Value} {w : World} (h : DnX p x g B w1 listed v x2 w) (k : Nat) (hk : k < 8) {nv : Value} {w' : World} (hb : Below w.heap.size w w') (hn : PhiX p x g B k nv w') :
    DnX p x g B w1 (listed.setIfInBounds k true) (updX v (k + 3) nv) x2 w' := by
  refine ⟨h.low.trans (hb.mono h.low.size), fun j hj hl => ?_, fun hl => ?_⟩
  · by_cases e : j = k
    · subst e; rw [updX_same]; exact hn
    · rw [updX_other _ _ _ _ (by omega)]
      rw [getD_set_ne false (fun h => e h.symm)] at hl
      exact (h.phi j hj hl).keep hb
  · rw [getD_set_ne false (by omega)] at hl
    exact (h.fin hl).kept hb
theorem DnX.last {p x : Bs} {g B : Nat} {w1 : World} {listed : Array Bool} {v : Nat → Value} {x2 : Value} {w : World} (h : DnX p x g B w1 listed v x2 w) {nv : Value} (hn : Own w B 5 nv (fFl ⟨p, x⟩)) :
    DnX p x g B w1 (listed.setIfInBounds 8 true) v nv w :=
  ⟨h.low, fun j hj hl => h.phi j hj (by rw [getD_set_ne false (by omega)] at hl; exact hl), fun _ => hn⟩
end Go.Proofs.YtabgkfkjnpcbkaaDoor.Tr
namespace Go.Proofs.YtabgkfkjnpcbkaaDoor.Kf
open Go

def findB (n : Nat) : Code → Option Code
  | .seq a b => (findB n a).or (findB n b)
  | .block m b => if m = n then some (.block m b) else findB n b
  | .loop b => findB n b
  | .cond _ a b => (findB n a).or (findB n b)
  | _ => none
def findR (n : Nat) : Code → Option Code
  | .seq a b => (findR n a).or (findR n b)
  | .block _ b => findR n b
  | .loop b => findR n b
  | .cond _ a b => (findR n a).or (findR n b)
  | .region m ops dr => if m = n then some (.region m ops dr) else none
  | _ => none
theorem wp_last {P : Program} {c : Code} {Q : Exit → Act → World → Prop} {a : Act} {w : World} (h : Code.wp P c (Exit.then (fun a w => Q .normal a w) Q) a w) : Code.wp P c Q a w :=
  Code.wp_mono (fun e _ _ h => by cases e <;> exact h) h
end Go.Proofs.YtabgkfkjnpcbkaaDoor.Kf
namespace Go.Proofs.YtabgkfkjnpcbkaaDoor.Tr
open Go

/-- paths that rise, behind one -/
def asc : Option Bs → List Bs → Bool
  | _, [] => true
  | p, q :: l => above p q && asc (some q) l
/-- a path among others -/
def insP (p : Bs) : List Bs → List Bs
  | [] => [p]
  | q :: l => if p = q then q :: l else if lt p q then p :: q :: l else q :: insP p l
/-- the same, as it is done one behind the other -/
def insR (p : Bs) : Bool → List Bs → List Bs
  | d, [] => if d then [] else [p]
  | d, q :: l => if !(d || q == p) && lt p q then p :: q :: insR p true l else q :: insR p (d || q == p) l
theorem insR_done (p : Bs) : ∀ l : List Bs, insR p true l = l
  | [] => rfl
  | q :: l => by rw [insR, Bool.true_or, insR_done p l]; rfl
theorem insR_is (p : Bs) : ∀ l : List Bs, insR p false l = insP p l
  | [] => rfl
  | q :: l => by
    rw [insR, insP, Bool.false_or]
    by_cases h : p = q
    · subst h
      rw [if_pos rfl, beq_self_eq_true, insR_done]; rfl
    · have hb : (q == p) = false := by rw [beq_eq_false_iff_ne]; exact fun e => h e.symm
      rw [if_neg h, hb, Bool.not_false, Bool.true_and]
      split
      · rw [insR_done]
      · rw [insR_is p l]
theorem mem_insP {p x : Bs} : ∀ {l : List Bs}, x ∈ insP p l ↔ x = p ∨ x ∈ l
  | [] => by simp [insP]
  | q :: l => by
    have ih := mem_insP (p := p) (x := x) (l := l)
    rw [insP]
    split
    · next h =>
      subst h
      rw [List.mem_cons]
      constructor
      · exact fun h => .inr h
      · rintro (h | h)
        · exact .inl h
        · exact h
    · split
      · rw [List.mem_cons]
      · rw [List.mem_cons, ih, List.mem_cons]
        constructor
        · rintro (h | h | h)
          · exact .inr (.inl h)
          · exact .inl h
          · exact .inr (.inr h)
        · rintro (h | h | h)
          · exact .inr (.inl h)
          · exact .inl h
          · exact .inr (.inr h)
theorem asc_insP (p : Bs) : ∀ {q : Option Bs} {l : List Bs}, asc q l = true → above q p = true → asc q (insP p l) = true
  | q, [], _, h => by simp [insP, asc, h]
  | q, r :: l, h, hp => by
    have h0 := h
    simp only [asc, Bool.and_eq_true] at h
    rw [insP]
    split
    · exact h0
    · next hne =>
      split
      · next hl =>
        simp only [asc, Bool.and_eq_true]
        exact ⟨hp, hl, h.2⟩
      · next hl =>
        simp only [asc, Bool.and_eq_true]
        refine ⟨h.1, asc_insP p h.2 ?_⟩
        show lt r p = true
        rcases lt_tri p r with h1 | h1 | h1
        · exact absurd h1 hl
        · exact absurd h1 hne
        · exact h1
theorem insP_len (p : Bs) : ∀ l : List Bs, (insP p l).length ≤ l.length + 1
  | [] => Nat.le_refl _
  | q :: l => by
    have := insP_len p l
    rw [insP]
    split
    · simp
    · split
      · simp
      · simp only [List.length_cons]; omega
theorem asc_above : ∀ {q : Option Bs} {l : List Bs}, asc q l = true → ∀ p ∈ l, above q p = true
  | _, [], _, p, hp => by cases hp
  | q, r :: l, h, p, hp => by
    simp only [asc, Bool.and_eq_true] at h
    rcases List.mem_cons.1 hp with rfl | hp
    · exact h.1
    · exact above_trans h.1 (asc_above h.2 p hp)
theorem asc_ext : ∀ {q r : Option Bs} {l m : List Bs}, asc q l = true → asc r m = true → (∀ p, p ∈ l ↔ p ∈ m) → l = m
  | _, _, [], [], _, _, _ => rfl
  | _, _, [], p :: m, _, _, h => by have := (h p).2 (by simp); cases this
  | _, _, p :: l, [], _, _, h => by have := (h p).1 (by simp); cases this
  | q, r, x :: l, y :: m, h1, h2, h => by
    simp only [asc, Bool.and_eq_true] at h1 h2
    have a1 := asc_above h1.2
    have a2 := asc_above h2.2
    have e : x = y := by
      rcases List.mem_cons.1 ((h x).1 (by simp)) with h' | h'
      · exact h'
      · rcases List.mem_cons.1 ((h y).2 (by simp)) with h'' | h''
        · exact h''.symm
        · have := lt_trans (a1 y h'') (a2 x h')
          rw [lt_irr] at this; cases this
    subst e
    congr 1
    refine asc_ext h1.2 h2.2 fun z => ⟨fun hz => ?_, fun hz => ?_⟩
    · rcases List.mem_cons.1 ((h z).1 (by simp [hz])) with h' | h'
      · subst h'; have := a1 z hz; rw [show above (some z) z = lt z z from rfl, lt_irr] at this; cases this
      · exact h'
    · rcases List.mem_cons.1 ((h z).2 (by simp [hz])) with h' | h'
      · subst h'; have := a2 z hz; rw [show above (some z) z = lt z z from rfl, lt_irr] at this; cases this
      · exact h'
theorem asc_weak {q r : Option Bs} {l : List Bs} (h : asc q l = true) (hw : ∀ p ∈ l, above r p = true) : asc r l = true := by
  cases l with
  | nil => rfl
  | cons p l =>
    simp only [asc, Bool.and_eq_true] at h ⊢
    exact ⟨hw p (by simp), h.2⟩
theorem asc_filter (f : Bs → Bool) : ∀ {q : Option Bs} {l : List Bs}, asc q l = true → asc q (l.filter f) = true
  | _, [], _ => rfl
  | q, p :: l, h => by
    simp only [asc, Bool.and_eq_true] at h
    have ih := asc_filter f h.2
    rw [List.filter_cons]
    split
    · simp only [asc, Bool.and_eq_true]; exact ⟨h.1, ih⟩
    · exact asc_weak ih fun x hx => above_trans h.1 (asc_above ih x hx)
/-- more paths among others -/
def addP (l : List Bs) (t : List Fl) : List Bs := t.foldl (fun l f => insP f.path l) l
/-- the paths of two trees -/
def both (a b : List Fl) : List Bs := addP (addP [] a) b
theorem mem_addP {x : Bs} : ∀ {t : List Fl} {l : List Bs}, x ∈ addP l t ↔ (∃ f ∈ t, f.path = x) ∨ x ∈ l
  | [], l => by simp [addP]
  | f :: t, l => by
    have ih := mem_addP (x := x) (t := t) (l := insP f.path l)
    unfold addP at ih ⊢
    rw [List.foldl_cons, ih, mem_insP]
    constructor
    · rintro (⟨g, hg, e⟩ | h | h)
      · exact .inl ⟨g, by simp [hg], e⟩
      · exact .inl ⟨f, by simp, h.symm⟩
      · exact .inr h
    · rintro (⟨g, hg, e⟩ | h)
      · rcases List.mem_cons.1 hg with rfl | hg
        · exact .inr (.inl e.symm)
        · exact .inl ⟨g, hg, e⟩
      · exact .inr (.inr h)
theorem asc_addP : ∀ {t : List Fl} {l : List Bs}, asc none l = true → asc none (addP l t) = true
  | [], _, h => h
  | f :: t, l, h => by
    unfold addP
    rw [List.foldl_cons]
    exact asc_addP (t := t) (asc_insP f.path h rfl)
theorem addP_len : ∀ {t : List Fl} {l : List Bs}, (addP l t).length ≤ l.length + t.length
  | [], _ => Nat.le_refl _
  | f :: t, l => by
    have h1 := addP_len (t := t) (l := insP f.path l)
    have h2 := insP_len f.path l
    unfold addP at h1 ⊢
    rw [List.foldl_cons, List.length_cons]; omega
theorem mem_both {a b : List Fl} {x : Bs} : x ∈ both a b ↔ (∃ f ∈ a, f.path = x) ∨ (∃ f ∈ b, f.path = x) := by
  unfold both
  rw [mem_addP, mem_addP]
  constructor
  · rintro (h | h | h)
    · exact .inr h
    · exact .inl h
    · cases h
  · rintro (h | h)
    · exact .inr (.inl h)
    · exact .inl h
theorem asc_both (a b : List Fl) : asc none (both a b) = true := asc_addP (asc_addP rfl)
theorem both_len (a b : List Fl) : (both a b).length ≤ a.length + b.length := by
  have h1 := addP_len (t := b) (l := addP [] a)
  have h2 := addP_len (t := a) (l := [])
  unfold both
  simp only [List.length_nil] at h2
  omega
theorem both_sw (a b : List Fl) : both b a = both a b := asc_ext (asc_both b a) (asc_both a b) fun p => by
  rw [mem_both, mem_both]
  exact ⟨fun h => h.symm, fun h => h.symm⟩

section
variable (mg : Bs → Bs → Bs → Bs × Nat)
/-- what becomes of a path: a text, whether there is one, whether it clashes -/
def one (o a b : List Fl) (p : Bs) : Bs × Bool × Bool :=
  if get a p = get b p ∨ get b p = get o p then ((get a p).1, (get a p).2, false)
  else if get a p = get o p then ((get b p).1, (get b p).2, false)
  else if (get a p).2 = false then ((get b p).1, true, true)
  else if (get b p).2 = false then ((get a p).1, true, true)
  else if 65536 < (mg (get o p).1 (get a p).1 (get b p).1).1.length then (if lt (get a p).1 (get b p).1 then (get b p).1 else (get a p).1, true, true)
  else ((mg (get o p).1 (get a p).1 (get b p).1).1, true, decide (0 < (mg (get o p).1 (get a p).1 (get b p).1).2))
/-- the files of paths -/
def outs (h : Bs → Bs × Bool × Bool) : List Bs → List Fl
  | [] => []
  | p :: l => if (h p).2.1 then ⟨p, (h p).1⟩ :: outs h l else outs h l
/-- the paths that clash -/
def odds (h : Bs → Bs × Bool × Bool) (l : List Bs) : List Bs := l.filter fun p => (h p).2.2
def trees (o a b : List Fl) : List Fl × List Bs := ((outs (one mg o a b) (both a b)).take 1000, odds (one mg o a b) (both a b))
end
theorem outs_len (h : Bs → Bs × Bool × Bool) : ∀ l : List Bs, (outs h l).length ≤ l.length
  | [] => Nat.le_refl _
  | p :: l => by
    have := outs_len h l
    rw [outs]
    split <;> simp only [List.length_cons] <;> omega
theorem mem_outs {h : Bs → Bs × Bool × Bool} {f : Fl} : ∀ {l : List Bs}, f ∈ outs h l ↔ f.path ∈ l ∧ (h f.path).2.1 = true ∧ f.text = (h f.path).1
  | [] => by simp [outs]
  | p :: l => by
    have ih := mem_outs (h := h) (f := f) (l := l)
    rw [outs]
    obtain ⟨q, x⟩ := f
    by_cases hp : (h p).2.1 = true
    · rw [if_pos hp, List.mem_cons, ih, List.mem_cons]
      constructor
      · rintro (e | ⟨h1, h2⟩)
        · injection e with e1 e2
          subst e1 e2
          exact ⟨.inl rfl, hp, rfl⟩
        · exact ⟨.inr h1, h2⟩
      · rintro ⟨h1 | h1, h2, h3⟩
        · left
          simp only at h1 h3
          subst h1
          rw [h3]
        · exact .inr ⟨h1, h2, h3⟩
    · rw [if_neg hp, ih, List.mem_cons]
      constructor
      · rintro ⟨h1, h2⟩
        exact ⟨.inr h1, h2⟩
      · rintro ⟨h1 | h1, h2, h3⟩
        · simp only at h1 h2
          rw [h1] at h2
          exact absurd h2 hp
        · exact ⟨h1, h2, h3⟩
/-- files of rising paths are right -/
theorem go_outs {h : Bs → Bs × Bool × Bool} : ∀ {q : Option Bs} {l : List Bs}, asc q l = true → (∀ p ∈ l, can p = true ∧ (h p).1.length ≤ 65536) → go q (outs h l) = true
  | _, [], _, _ => rfl
  | q, p :: l, ha, hc => by
    simp only [asc, Bool.and_eq_true] at ha
    have ih := go_outs (h := h) ha.2 fun x hx => hc x (by simp [hx])
    have hp := hc p (by simp)
    rw [outs]
    split
    · simp only [go, Bool.and_eq_true, decide_eq_true_eq]
      exact ⟨⟨⟨hp.1, hp.2⟩, ha.1⟩, ih⟩
    · exact go_weak ih fun x hx => above_trans ha.1 hx
theorem get_outs {h : Bs → Bs × Bool × Bool} {q : Option Bs} {l : List Bs} (hg : go q (outs h l) = true) {p : Bs} (hp : p ∈ l) (ht : (h p).2.1 = true) : get (outs h l) p = ((h p).1, true) :=
  get_is (f := ⟨p, (h p).1⟩) hg (mem_outs.2 ⟨hp, ht, rfl⟩)
theorem get_short {q : Option Bs} {t : List Fl} (h : go q t = true) (p : Bs) : (get t p).1.length ≤ 65536 := by
  cases hb : (get t p).2 with
  | true =>
    obtain ⟨f, hf, _, e⟩ := get_some hb
    rw [e]; exact (go_above h f hf).2.2
  | false =>
    have : ∀ (t : List Fl), (get t p).2 = false → (get t p).1 = [] := by
      intro t
      induction t with
      | nil => intro _; rfl
      | cons f t ih =>
        rw [get]
        split
        · intro h; cases h
        · exact ih
    rw [this t hb]; simp
theorem get_empty : ∀ {t : List Fl} {p : Bs}, (get t p).2 = false → get t p = ([], false)
  | [], _, _ => rfl
  | f :: t, p, h => by
    rw [get] at h ⊢
    split at h
    · cases h
    · next hf => rw [if_neg hf]; exact get_empty h
theorem one_short (mg : Bs → Bs → Bs → Bs × Nat) {o a b : List Fl} (ha : go none a = true) (hb : go none b = true) (p : Bs) : (one mg o a b p).1.length ≤ 65536 := by
  have h1 := get_short ha p
  have h2 := get_short hb p
  unfold one
  split
  · exact h1
  · split
    · exact h2
    · split
      · exact h2
      · split
        · exact h1
        · split
          · simp only []
            split
            · exact h2
            · exact h1
          · next h => simp only []; omega
theorem one_both (mg : Bs → Bs → Bs → Bs × Nat) {o a b : List Fl} {p : Bs} (ha : (get a p).2 = true) (hb : (get b p).2 = true) : (one mg o a b p).2.1 = true := by
  unfold one
  split
  · exact ha
  · split
    · exact hb
    · split
      · rfl
      · split
        · rfl
        · split <;> rfl
theorem one_clash (mg : Bs → Bs → Bs → Bs × Nat) {o a b : List Fl} {p : Bs} (h : (one mg o a b p).2.2 = true) : (one mg o a b p).2.1 = true := by
  unfold one at h ⊢
  split at h
  · cases h
  · next h1 =>
    rw [if_neg h1]
    split at h
    · cases h
    · next h2 =>
      rw [if_neg h2]
      split
      · rfl
      · split
        · rfl
        · split <;> rfl
theorem can_both {a b : List Fl} (ha : go none a = true) (hb : go none b = true) {p : Bs} (hp : p ∈ both a b) : can p = true := by
  rcases mem_both.1 hp with ⟨f, hf, rfl⟩ | ⟨f, hf, rfl⟩
  · exact (go_above ha f hf).2.1
  · exact (go_above hb f hf).2.1
/-- P11.2: the tree is right -/
theorem trees_go (mg : Bs → Bs → Bs → Bs × Nat) {o a b : List Fl} (ha : go none a = true) (hb : go none b = true) : go none (outs (one mg o a b) (both a b)) = true :=
  go_outs (asc_both a b) fun _ hp => ⟨can_both ha hb hp, one_short mg ha hb _⟩
theorem trees_is (mg : Bs → Bs → Bs → Bs × Nat) (o : List Fl) {a b : List Fl} (hl : a.length + b.length ≤ 1000) : trees mg o a b = (outs (one mg o a b) (both a b), odds (one mg o a b) (both a b)) := by
  unfold trees
  rw [List.take_of_length_le]
  have h1 := outs_len (one mg o a b) (both a b)
  have h2 := both_len a b
  omega
/-- what one side alone changed is taken -/
theorem outs_all {h : Bs → Bs × Bool × Bool} {x : List Fl} {l : List Bs} (hx : go none x = true) (hl : asc none l = true) (hc : ∀ p ∈ l, can p = true) (hh : ∀ p, h p = ((get x p).1, (get x p).2, false)) (hm : ∀ f ∈ x, f.path ∈ l) : outs h l = x ∧ odds h l = [] := by
  have hg : go none (outs h l) = true := go_outs hl fun p hp => ⟨hc p hp, by rw [hh p]; exact get_short hx p⟩
  refine ⟨go_ext hg hx fun f => ?_, ?_⟩
  · rw [mem_outs, hh f.path]
    constructor
    · rintro ⟨_, h2, h3⟩
      obtain ⟨g, hg, e, ht⟩ := get_some h2
      simp only at h3
      rw [ht] at h3
      obtain ⟨q, y⟩ := f
      obtain ⟨q', y'⟩ := g
      simp only at e h3
      subst e h3
      exact hg
    · intro hf
      rw [get_is hx hf]
      exact ⟨hm f hf, rfl, rfl⟩
  · unfold odds
    rw [List.filter_eq_nil_iff]
    intro p _
    rw [hh p]
    simp
theorem one_left (mg : Bs → Bs → Bs → Bs × Nat) (o a : List Fl) (p : Bs) : one mg o a o p = ((get a p).1, (get a p).2, false) := by
  unfold one
  rw [if_pos (.inr rfl)]
theorem one_right (mg : Bs → Bs → Bs → Bs × Nat) (o a : List Fl) (p : Bs) : one mg o o a p = ((get a p).1, (get a p).2, false) := by
  unfold one
  by_cases h : get o p = get a p ∨ get a p = get o p
  · rw [if_pos h]
    have e : get o p = get a p := h.elim id Eq.symm
    rw [e]
  · rw [if_neg h, if_pos rfl]
theorem one_alike (mg : Bs → Bs → Bs → Bs × Nat) (o a : List Fl) (p : Bs) : one mg o a a p = ((get a p).1, (get a p).2, false) := by
  unfold one
  rw [if_pos (.inl rfl)]
/-- P11.2: with the sides changed -/
structure Sym (mg : Bs → Bs → Bs → Bs × Nat) : Prop where
  n : ∀ o a b, (mg o b a).2 = (mg o a b).2
  len : ∀ o a b, (mg o b a).1.length = (mg o a b).1.length
  txt : ∀ o a b, (mg o a b).2 = 0 → (mg o b a).1 = (mg o a b).1
theorem one_sw {mg : Bs → Bs → Bs → Bs × Nat} (hs : Sym mg) (o a b : List Fl) (p : Bs) : (one mg o b a p).2 = (one mg o a b p).2 ∧ ((one mg o a b p).2.2 = false → (one mg o b a p).1 = (one mg o a b p).1) := by
  by_cases e1 : get a p = get b p
  · have l1 : one mg o a b p = ((get a p).1, (get a p).2, false) := by unfold one; rw [if_pos (.inl e1)]
    have l2 : one mg o b a p = ((get b p).1, (get b p).2, false) := by unfold one; rw [if_pos (.inl e1.symm)]
    rw [l1, l2, e1]
    exact ⟨rfl, fun _ => rfl⟩
  · by_cases e2 : get b p = get o p
    · have e3 : ¬ get a p = get o p := fun h => e1 (h.trans e2.symm)
      have l1 : one mg o a b p = ((get a p).1, (get a p).2, false) := by unfold one; rw [if_pos (.inr e2)]
      have l2 : one mg o b a p = ((get a p).1, (get a p).2, false) := by unfold one; rw [if_neg (fun h => h.elim (fun h => e1 h.symm) e3), if_pos e2]
      rw [l1, l2]
      exact ⟨rfl, fun _ => rfl⟩
    · by_cases e3 : get a p = get o p
      · have l1 : one mg o a b p = ((get b p).1, (get b p).2, false) := by unfold one; rw [if_neg (fun h => h.elim e1 e2), if_pos e3]
        have l2 : one mg o b a p = ((get b p).1, (get b p).2, false) := by unfold one; rw [if_pos (.inr e3)]
        rw [l1, l2]
        exact ⟨rfl, fun _ => rfl⟩
      · have n1 : ¬ (get a p = get b p ∨ get b p = get o p) := fun h => h.elim e1 e2
        have n2 : ¬ (get b p = get a p ∨ get a p = get o p) := fun h => h.elim (fun h => e1 h.symm) e3
        by_cases ha : (get a p).2 = false
        · by_cases hb : (get b p).2 = false
          · exact absurd ((get_empty ha).trans (get_empty hb).symm) e1
          · have l1 : one mg o a b p = ((get b p).1, true, true) := by unfold one; rw [if_neg n1, if_neg e3, if_pos ha]
            have l2 : one mg o b a p = ((get b p).1, true, true) := by unfold one; rw [if_neg n2, if_neg e2, if_neg hb, if_pos ha]
            rw [l1, l2]
            exact ⟨rfl, fun _ => rfl⟩
        · by_cases hb : (get b p).2 = false
          · have l1 : one mg o a b p = ((get a p).1, true, true) := by unfold one; rw [if_neg n1, if_neg e3, if_neg ha, if_pos hb]
            have l2 : one mg o b a p = ((get a p).1, true, true) := by unfold one; rw [if_neg n2, if_neg e2, if_pos hb]
            rw [l1, l2]
            exact ⟨rfl, fun _ => rfl⟩
          · by_cases hl : 65536 < (mg (get o p).1 (get a p).1 (get b p).1).1.length
            · have l1 : (one mg o a b p).2 = (true, true) := by unfold one; rw [if_neg n1, if_neg e3, if_neg ha, if_neg hb, if_pos hl]
              have l2 : (one mg o b a p).2 = (true, true) := by unfold one; rw [if_neg n2, if_neg e2, if_neg hb, if_neg ha, if_pos (by rw [hs.len]; exact hl)]
              rw [l1, l2]
              exact ⟨rfl, fun h => by cases h⟩
            · have l1 : one mg o a b p = ((mg (get o p).1 (get a p).1 (get b p).1).1, true, decide (0 < (mg (get o p).1 (get a p).1 (get b p).1).2)) := by unfold one; rw [if_neg n1, if_neg e3, if_neg ha, if_neg hb, if_neg hl]
              have l2 : one mg o b a p = ((mg (get o p).1 (get b p).1 (get a p).1).1, true, decide (0 < (mg (get o p).1 (get b p).1 (get a p).1).2)) := by unfold one; rw [if_neg n2, if_neg e2, if_neg hb, if_neg ha, if_neg (by rw [hs.len]; exact hl)]
              rw [l1, l2, hs.n]
              refine ⟨rfl, fun h => hs.txt _ _ _ ?_⟩
              simp only [decide_eq_false_iff_not] at h
              omega
theorem outs_sw {h k : Bs → Bs × Bool × Bool} (he : ∀ p, (k p).2 = (h p).2 ∧ ((h p).2.2 = false → (k p).1 = (h p).1)) : ∀ l : List Bs, (outs k l).length = (outs h l).length ∧ ∀ (i : Nat) (f g : Fl), (outs h l)[i]? = some f → (outs k l)[i]? = some g → f.path = g.path ∧ f.path ∈ l ∧ ((h f.path).2.2 = true ∨ f.text = g.text)
  | [] => ⟨rfl, fun i f g h => by simp [outs] at h⟩
  | p :: l => by
    have ih := outs_sw he l
    obtain ⟨h1, h2⟩ := he p
    rw [outs, outs, h1]
    by_cases hp : (h p).2.1 = true
    · rw [if_pos hp, if_pos hp]
      refine ⟨by rw [List.length_cons, List.length_cons, ih.1], fun i f g hf hg => ?_⟩
      rcases i with _ | i
      · obtain rfl := Option.some.inj hf
        obtain rfl := Option.some.inj hg
        refine ⟨rfl, by simp, ?_⟩
        cases hc : (h p).2.2 with
        | true => exact .inl rfl
        | false => exact .inr (h2 hc).symm
      · obtain ⟨k1, k2, k3⟩ := ih.2 i f g hf hg
        exact ⟨k1, by simp [k2], k3⟩
    · rw [if_neg hp, if_neg hp]
      refine ⟨ih.1, fun i f g hf hg => ?_⟩
      obtain ⟨k1, k2, k3⟩ := ih.2 i f g hf hg
      exact ⟨k1, by simp [k2], k3⟩
theorem odds_sw {h k : Bs → Bs × Bool × Bool} (he : ∀ p, (k p).2 = (h p).2 ∧ ((h p).2.2 = false → (k p).1 = (h p).1)) (l : List Bs) : odds k l = odds h l := by
  unfold odds
  congr 1
  funext p
  rw [(he p).1]
end Go.Proofs.YtabgkfkjnpcbkaaDoor.Tr
namespace Go.Proofs.YtabgkfkjnpcbkaaDoor.Tr
open Go

/-- a change -/
structure Ch where
  path : Bs
  gone : Bool
  text : Bs
deriving DecidableEq
/-- are changes right, behind a path? -/
def cgo : Option Bs → List Ch → Bool
  | _, [] => true
  | p, c :: l => can c.path && decide (c.text.length ≤ 65536) && (!c.gone || decide (c.text = [])) && above p c.path && cgo (some c.path) l
theorem cgo_cons {p : Option Bs} {c : Ch} {l : List Ch} (h : cgo p (c :: l) = true) : can c.path = true ∧ c.text.length ≤ 65536 ∧ (c.gone = true → c.text = []) ∧ above p c.path = true ∧ cgo (some c.path) l = true := by
  simp only [cgo, Bool.and_eq_true, Bool.or_eq_true, Bool.not_eq_true', decide_eq_true_eq] at h
  exact ⟨h.1.1.1.1, h.1.1.1.2, fun hg => h.1.1.2.resolve_left (by rw [hg]; decide), h.1.2, h.2⟩
theorem cgo_of {p : Option Bs} {c : Ch} {l : List Ch} (h1 : can c.path = true) (h2 : c.text.length ≤ 65536) (h3 : c.gone = true → c.text = []) (h4 : above p c.path = true) (h5 : cgo (some c.path) l = true) : cgo p (c :: l) = true := by
  simp only [cgo, Bool.and_eq_true, Bool.or_eq_true, Bool.not_eq_true', decide_eq_true_eq]
  refine ⟨⟨⟨⟨h1, h2⟩, ?_⟩, h4⟩, h5⟩
  cases hg : c.gone with
  | true => exact .inr (h3 hg)
  | false => exact .inl rfl
theorem cgo_above : ∀ {p : Option Bs} {l : List Ch}, cgo p l = true → ∀ c ∈ l, above p c.path = true ∧ can c.path = true ∧ c.text.length ≤ 65536 ∧ (c.gone = true → c.text = [])
  | _, [], _, c, hc => by cases hc
  | p, d :: l, h, c, hc => by
    obtain ⟨h1, h2, h3, h4, h5⟩ := cgo_cons h
    rcases List.mem_cons.1 hc with rfl | hc
    · exact ⟨h4, h1, h2, h3⟩
    · obtain ⟨k1, k2⟩ := cgo_above h5 c hc
      exact ⟨above_trans h4 k1, k2⟩
theorem cgo_weak {p q : Option Bs} {l : List Ch} (h : cgo p l = true) (hw : ∀ c ∈ l, above q c.path = true) : cgo q l = true := by
  cases l with
  | nil => rfl
  | cons c l =>
    obtain ⟨h1, h2, h3, _, h5⟩ := cgo_cons h
    exact cgo_of h1 h2 h3 (hw c (by simp)) h5
theorem cgo_filter (f : Ch → Bool) : ∀ {p : Option Bs} {l : List Ch}, cgo p l = true → cgo p (l.filter f) = true
  | _, [], _ => rfl
  | p, c :: l, h => by
    obtain ⟨h1, h2, h3, h4, h5⟩ := cgo_cons h
    have ih := cgo_filter f h5
    rw [List.filter_cons]
    split
    · exact cgo_of h1 h2 h3 h4 ih
    · exact cgo_weak ih fun x hx => above_trans h4 (cgo_above ih x hx).1
/-- changes with one path are one -/
theorem cgo_one : ∀ {p : Option Bs} {l : List Ch}, cgo p l = true → ∀ c ∈ l, ∀ d ∈ l, c.path = d.path → c = d
  | _, [], _, c, hc, _, _, _ => by cases hc
  | p, e :: l, h, c, hc, d, hd, he => by
    obtain ⟨_, _, _, _, h5⟩ := cgo_cons h
    have hne : ∀ x ∈ l, e.path ≠ x.path := fun x hx h0 => by
      have := (cgo_above h5 x hx).1
      rw [show above (some e.path) x.path = lt e.path x.path from rfl, h0, lt_irr] at this
      cases this
    rcases List.mem_cons.1 hc with k1 | k1
    · rcases List.mem_cons.1 hd with k2 | k2
      · rw [k1, k2]
      · exact absurd (by rw [← k1]; exact he) (hne d k2)
    · rcases List.mem_cons.1 hd with k2 | k2
      · exact absurd (by rw [← k2]; exact he.symm) (hne c k1)
      · exact cgo_one h5 c k1 d k2 he
theorem cgo_ext : ∀ {p q : Option Bs} {l m : List Ch}, cgo p l = true → cgo q m = true → (∀ c, c ∈ l ↔ c ∈ m) → l = m
  | _, _, [], [], _, _, _ => rfl
  | _, _, [], c :: m, _, _, h => by have := (h c).2 (by simp); cases this
  | _, _, c :: l, [], _, _, h => by have := (h c).1 (by simp); cases this
  | p, q, c :: l, d :: m, h1, h2, h => by
    obtain ⟨_, _, _, _, a5⟩ := cgo_cons h1
    obtain ⟨_, _, _, _, b5⟩ := cgo_cons h2
    have e : c = d := by
      rcases List.mem_cons.1 ((h c).1 (by simp)) with h' | h'
      · exact h'
      · rcases List.mem_cons.1 ((h d).2 (by simp)) with h'' | h''
        · exact h''.symm
        · have k1 := (cgo_above b5 c h').1
          have k2 := (cgo_above a5 d h'').1
          have := lt_trans (show lt d.path c.path = true from k1) k2
          rw [lt_irr] at this; cases this
    subst e
    have irr : ∀ x : Ch, above (some x.path) x.path ≠ true := fun x => by rw [show above (some x.path) x.path = lt x.path x.path from rfl, lt_irr]; decide
    congr 1
    refine cgo_ext a5 b5 fun z => ⟨fun hz => ?_, fun hz => ?_⟩
    · rcases List.mem_cons.1 ((h z).1 (by simp [hz])) with h' | h'
      · subst h'; exact absurd (cgo_above a5 z hz).1 (irr z)
      · exact h'
    · rcases List.mem_cons.1 ((h z).2 (by simp [hz])) with h' | h'
      · subst h'; exact absurd (cgo_above b5 z hz).1 (irr z)
      · exact h'
/-- a change done to a tree -/
def does (t : List Fl) (c : Ch) : List Fl := if c.gone then drop t c.path else if (put t ⟨c.path, c.text⟩).2 = 0 then (put t ⟨c.path, c.text⟩).1 else t
def play (t : List Fl) (l : List Ch) : List Fl := l.foldl does t
theorem play_cons (t : List Fl) (c : Ch) (l : List Ch) : play t (c :: l) = play (does t c) l := rfl
theorem play_append (t : List Fl) (l m : List Ch) : play t (l ++ m) = play (play t l) m := List.foldl_append
theorem does_put {t : List Fl} {c : Ch} (hl : t.length < 1000) (hc : can c.path = true) (hx : c.text.length ≤ 65536) (hg : c.gone = false) : does t c = ins ⟨c.path, c.text⟩ (drop t c.path) := by
  unfold does
  rw [hg, if_neg (by decide), put_ok (f := ⟨c.path, c.text⟩) hl hc hx, if_pos rfl]
theorem does_drop {t : List Fl} {c : Ch} (hg : c.gone = true) : does t c = drop t c.path := by
  unfold does
  rw [hg, if_pos rfl]
theorem does_any {t : List Fl} {c : Ch} (ht : go none t = true) (hl : t.length < 1000) (hc : can c.path = true) (hx : c.text.length ≤ 65536) :
    go none (does t c) = true ∧ (does t c).length ≤ t.length + 1 ∧ ∀ f, f ∈ does t c ↔ (c.gone = false ∧ f = ⟨c.path, c.text⟩) ∨ (f ∈ t ∧ f.path ≠ c.path) := by
  cases hg : c.gone with
  | true =>
    rw [does_drop hg]
    refine ⟨go_drop c.path ht, Nat.le_succ_of_le (drop_le t c.path), fun f => ?_⟩
    rw [mem_drop]
    constructor
    · exact fun h => .inr h
    · rintro (⟨h, _⟩ | h)
      · cases h
      · exact h
  | false =>
    rw [does_put hl hc hx hg]
    refine ⟨go_put (f := ⟨c.path, c.text⟩) ht hc hx, put_len t ⟨c.path, c.text⟩, fun f => ?_⟩
    rw [mem_put (f := ⟨c.path, c.text⟩)]
    constructor
    · rintro (h | h)
      · exact .inl ⟨rfl, h⟩
      · exact .inr h
    · rintro (⟨_, h⟩ | h)
      · exact .inl h
      · exact .inr h
/-- P12.3: what a tree is with changes -/
theorem play_any : ∀ {l : List Ch} {t : List Fl} {p : Option Bs}, cgo p l = true → go none t = true → t.length + l.length ≤ 1000 →
    go none (play t l) = true ∧ (play t l).length ≤ t.length + l.length ∧ ∀ f, f ∈ play t l ↔ (∃ c ∈ l, c.gone = false ∧ f = ⟨c.path, c.text⟩) ∨ (f ∈ t ∧ ∀ c ∈ l, f.path ≠ c.path)
  | [], t, _, _, ht, _ => ⟨ht, Nat.le_refl _, fun f => by simp [play]⟩
  | c :: l, t, p, h, ht, hl => by
    simp only [List.length_cons] at hl
    obtain ⟨h1, h2, _, _, h5⟩ := cgo_cons h
    obtain ⟨d1, d2, d3⟩ := does_any ht (c := c) (by omega) h1 h2
    obtain ⟨i1, i2, i3⟩ := play_any h5 d1 (by omega)
    rw [play_cons]
    refine ⟨i1, by simp only [List.length_cons]; omega, fun f => ?_⟩
    have hne : ∀ x ∈ l, c.path ≠ x.path := fun x hx h0 => by
      have := (cgo_above h5 x hx).1
      rw [show above (some c.path) x.path = lt c.path x.path from rfl, h0, lt_irr] at this
      cases this
    rw [i3, d3]
    constructor
    · rintro (⟨d, hd, hg⟩ | ⟨⟨hg, rfl⟩ | ⟨hf, hp⟩, ha⟩)
      · exact .inl ⟨d, by simp [hd], hg⟩
      · exact .inl ⟨c, by simp, hg, rfl⟩
      · refine .inr ⟨hf, fun d hd => ?_⟩
        rcases List.mem_cons.1 hd with rfl | hd
        · exact hp
        · exact ha d hd
    · rintro (⟨d, hd, hg⟩ | ⟨hf, ha⟩)
      · rcases List.mem_cons.1 hd with rfl | hd
        · exact .inr ⟨.inl hg, fun x hx => by rw [hg.2]; exact hne x hx⟩
        · exact .inl ⟨d, hd, hg⟩
      · exact .inr ⟨.inr ⟨hf, ha c (by simp)⟩, fun x hx => ha x (by simp [hx])⟩
/-- changes done twice are done once -/
theorem play_twice {l : List Ch} {t : List Fl} (hl : cgo none l = true) (ht : go none t = true) (hn : t.length + 2 * l.length ≤ 1000) : play (play t l) l = play t l := by
  obtain ⟨a1, a2, a3⟩ := play_any hl ht (by omega)
  obtain ⟨b1, _, b3⟩ := play_any hl a1 (by omega)
  refine go_ext b1 a1 fun f => ?_
  rw [b3, a3]
  constructor
  · rintro (h | ⟨h | h, ha⟩)
    · exact .inl h
    · exact .inl h
    · exact .inr h
  · rintro (h | h)
    · exact .inl h
    · exact .inr ⟨.inr h, h.2⟩
/-- what a tree has at a path, with changes -/
theorem play_get_in {l : List Ch} {t : List Fl} (hl : cgo none l = true) (ht : go none t = true) (hn : t.length + l.length ≤ 1000) {c : Ch} (hc : c ∈ l) : get (play t l) c.path = if c.gone then ([], false) else (c.text, true) := by
  obtain ⟨a1, _, a3⟩ := play_any hl ht hn
  cases hg : c.gone with
  | true =>
    rw [if_pos rfl]
    refine get_none fun f hf e => ?_
    rcases (a3 f).1 hf with ⟨d, hd, hdg, rfl⟩ | ⟨_, ha⟩
    · have := cgo_one hl d hd c hc e
      rw [this, hg] at hdg
      cases hdg
    · exact ha c hc e
  | false =>
    rw [if_neg (by decide)]
    exact get_is (f := ⟨c.path, c.text⟩) a1 ((a3 _).2 (.inl ⟨c, hc, hg, rfl⟩))
theorem play_get_out {l : List Ch} {t : List Fl} (hl : cgo none l = true) (ht : go none t = true) (hn : t.length + l.length ≤ 1000) {p : Bs} (hp : ∀ c ∈ l, c.path ≠ p) : get (play t l) p = get t p := by
  obtain ⟨a1, _, a3⟩ := play_any hl ht hn
  refine get_same a1 ht fun f hf => ?_
  rw [a3]
  constructor
  · rintro (⟨c, hc, _, rfl⟩ | h)
    · exact absurd hf (hp c hc)
    · exact h.1
  · exact fun h => .inr ⟨h, fun c hc e => hp c hc (by rw [← e]; exact hf)⟩
end Go.Proofs.YtabgkfkjnpcbkaaDoor.Tr
namespace Go.Proofs.YtabgkfkjnpcbkaaDoor.Tr
open Go Wr

/-- so many files, what is left, and why it failed; those behind a fault are empty -/
def rd : Nat → Bs → Nat → List Fl × Bs × Nat
  | 0, b, e => ([], b, e)
  | n + 1, b, e =>
    let s := stepText b e 200
    let u := stepText s.2.1 s.2.2 65536
    let r := rd n u.2.1 u.2.2
    (⟨s.1, u.1⟩ :: r.1, r.2)
theorem step_bad {e : Nat} (he : e ≠ 0) (b : Bs) (most : Int) : stepText b e most = ([], b, e) := by unfold stepText; rw [if_neg he]
theorem step_ok (b : Bs) (most : Int) : stepText b 0 most = ((textOf b most).1, b.drop (textOf b most).2.1, (textOf b most).2.2) := rfl
theorem rd_bad {e : Nat} (he : e ≠ 0) : ∀ (n : Nat) (b : Bs), (rd n b e).2 = (b, e)
  | 0, _ => rfl
  | n + 1, b => by
    simp only [rd]
    rw [step_bad he, step_bad he, rd_bad he n b]
theorem rd_files : ∀ (n : Nat) (b : Bs), ((files n b).2.2 = 0 → rd n b 0 = files n b) ∧ ((files n b).2.2 ≠ 0 → (rd n b 0).2.2 = (files n b).2.2)
  | 0, b => ⟨fun _ => rfl, fun _ => rfl⟩
  | n + 1, b => by
    rw [files]
    simp only [rd]
    rw [step_ok]
    by_cases h1 : (textOf b 200).2.2 ≠ 0
    · rw [if_pos h1]
      refine ⟨fun h => absurd h h1, fun _ => ?_⟩
      simp only []
      rw [step_bad h1, rd_bad h1]
    · have h1' : (textOf b 200).2.2 = 0 := by simpa using h1
      rw [if_neg h1]
      simp only [h1']
      rw [step_ok]
      by_cases h2 : (textOf (b.drop (textOf b 200).2.1) 65536).2.2 ≠ 0
      · rw [if_pos h2]
        refine ⟨fun h => absurd h h2, fun _ => ?_⟩
        simp only []
        rw [rd_bad h2]
      · have h2' : (textOf (b.drop (textOf b 200).2.1) 65536).2.2 = 0 := by simpa using h2
        rw [if_neg h2]
        simp only [h2']
        have ih := rd_files n ((b.drop (textOf b 200).2.1).drop (textOf (b.drop (textOf b 200).2.1) 65536).2.1)
        refine ⟨fun h => ?_, fun h => ih.2 h⟩
        rw [ih.1 h]
/-- what the form of bytes is, as it is read -/
def rdAll (b : Bs) : List Fl × Bs × Nat := rd (stepNum b 0).1 (stepNum b 0).2.1 (stepNum b 0).2.2
theorem decode_rd (b : Bs) : decode b =
    if 1000 < (stepNum b 0).1 then ([], 4)
    else if endOf (rdAll b).2.1 (rdAll b).2.2 ≠ 0 then ([], endOf (rdAll b).2.1 (rdAll b).2.2)
    else if right (rdAll b).1 then ((rdAll b).1, 0) else ([], 3) := by
  have hs : stepNum b 0 = ((numOf b).1, b.drop (numOf b).2.1, (numOf b).2.2) := rfl
  unfold decode rdAll
  rw [hs]
  by_cases h0 : (numOf b).2.2 ≠ 0
  · obtain ⟨h1, _, _⟩ := numOf_fail b (numOf b).1 (numOf b).2.1 (numOf b).2.2 rfl h0
    rw [if_pos h0]
    rw [h1]
    have he : ∀ x : Bs, endOf x (numOf b).2.2 = (numOf b).2.2 := fun x => by unfold endOf; rw [if_neg h0]
    rw [if_neg (show ¬ 1000 < 0 by omega), rd]
    simp only [he]
    rw [if_pos h0]
  · have h0' : (numOf b).2.2 = 0 := by simpa using h0
    rw [if_neg h0]
    simp only [h0']
    by_cases h1 : 1000 < (numOf b).1
    · rw [if_pos h1, if_pos h1]
    · rw [if_neg h1, if_neg h1]
      have hf := rd_files (numOf b).1 (b.drop (numOf b).2.1)
      by_cases h2 : (files (numOf b).1 (b.drop (numOf b).2.1)).2.2 ≠ 0
      · have he : ∀ x : Bs, endOf x (files (numOf b).1 (b.drop (numOf b).2.1)).2.2 = (files (numOf b).1 (b.drop (numOf b).2.1)).2.2 := fun x => by unfold endOf; rw [if_neg h2]
        rw [if_pos h2, hf.2 h2]
        simp only [he]
        rw [if_pos h2]
      · have h2' : (files (numOf b).1 (b.drop (numOf b).2.1)).2.2 = 0 := by simpa using h2
        rw [if_neg h2, hf.1 h2', h2']
        by_cases h3 : (files (numOf b).1 (b.drop (numOf b).2.1)).2.1 ≠ []
        · have : 0 < (files (numOf b).1 (b.drop (numOf b).2.1)).2.1.length := List.length_pos_iff.2 h3
          have he : endOf (files (numOf b).1 (b.drop (numOf b).2.1)).2.1 0 = 5 := by unfold endOf; rw [if_pos rfl, if_pos this]
          rw [if_pos h3, he, if_pos (by decide)]
        · have h3' : (files (numOf b).1 (b.drop (numOf b).2.1)).2.1 = [] := by simpa using h3
          rw [if_neg h3, h3']
          have he : endOf ([] : Bs) 0 = 0 := rfl
          rw [he, if_neg (show ¬ (0 ≠ 0) by simp)]
theorem rd_len : ∀ (n : Nat) (b : Bs) (e : Nat), (rd n b e).1.length = n
  | 0, _, _ => rfl
  | n + 1, b, e => by simp only [rd, List.length_cons]; rw [rd_len n]
theorem step_len (b : Bs) (e : Nat) (most : Int) : (stepText b e most).1.length ≤ b.length ∧ (stepText b e most).2.1.length ≤ b.length := by
  unfold stepText
  split
  · refine ⟨?_, by simp only [List.length_drop]; omega⟩
    unfold textOf
    split
    · simp
    · split
      · simp
      · split
        · simp
        · simp only [List.length_take, List.length_drop]; omega
  · simp
theorem rd_short : ∀ (n : Nat) (b : Bs) (e : Nat), ∀ f ∈ (rd n b e).1, f.path.length ≤ b.length ∧ f.text.length ≤ b.length
  | 0, _, _, f, h => by cases h
  | n + 1, b, e, f, h => by
    have h1 := step_len b e 200
    have h2 := step_len (stepText b e 200).2.1 (stepText b e 200).2.2 65536
    simp only [rd] at h
    rcases List.mem_cons.1 h with rfl | h
    · exact ⟨h1.1, by have := h2.1; show (stepText _ _ _).1.length ≤ _; omega⟩
    · have := rd_short n _ _ f h
      omega
end Go.Proofs.YtabgkfkjnpcbkaaDoor.Tr
namespace Go.Proofs.YtabgkfkjnpcbkaaDoor.Tr
open Go Wr

/-- a patch -/
structure Pch where
  ids : List Bs
  author : Bs
  note : Bs
  chs : List Ch
deriving DecidableEq
def txt (s : Bs) : Bs := form s.length ++ s
def fCh (c : Ch) : Bs := txt c.path ++ (form (if c.gone then 1 else 0) ++ txt c.text)
def pform (p : Pch) : Bs := form p.ids.length ++ (p.ids.flatMap txt ++ (txt p.author ++ (txt p.note ++ (form p.chs.length ++ p.chs.flatMap fCh))))
/-- are ids right, behind one? -/
def igo : Option Bs → List Bs → Bool
  | _, [] => true
  | p, q :: l => decide (q.length = 32) && above p q && igo (some q) l
def pright (p : Pch) : Bool := decide (p.ids.length ≤ 16) && decide (p.author.length ≤ 100) && decide (p.note.length ≤ 1000) && decide (p.chs.length ≤ 100) && igo none p.ids && cgo none p.chs && decide ((pform p).length ≤ 131072)
theorem pright_is {p : Pch} (h : pright p = true) : p.ids.length ≤ 16 ∧ p.author.length ≤ 100 ∧ p.note.length ≤ 1000 ∧ p.chs.length ≤ 100 ∧ igo none p.ids = true ∧ cgo none p.chs = true ∧ (pform p).length ≤ 131072 := by
  simp only [pright, Bool.and_eq_true, decide_eq_true_eq] at h
  exact ⟨h.1.1.1.1.1.1, h.1.1.1.1.1.2, h.1.1.1.1.2, h.1.1.1.2, h.1.1.2, h.1.2, h.2⟩
theorem igo_len : ∀ {q : Option Bs} {l : List Bs}, igo q l = true → ∀ x ∈ l, x.length = 32
  | _, [], _, x, h => by cases h
  | q, p :: l, h, x, hx => by
    simp only [igo, Bool.and_eq_true, decide_eq_true_eq] at h
    rcases List.mem_cons.1 hx with rfl | hx
    · exact h.1.1
    · exact igo_len h.2 x hx
/-- a patch of no kind -/
abbrev noPch : Pch := ⟨[], [], [], []⟩
/-- so many ids, as they are read -/
def rdIds : Nat → Bs → Nat → List Bs × Bs × Nat
  | 0, b, e => ([], b, e)
  | n + 1, b, e =>
    let s := stepText b e 32
    let r := rdIds n s.2.1 s.2.2
    (s.1 :: r.1, r.2)
/-- so many changes, as they are read, and whether a number was odd -/
def rdChs : Nat → Bs → Nat → (List Ch × Bool) × Bs × Nat
  | 0, b, e => (([], false), b, e)
  | n + 1, b, e =>
    let s := stepText b e 200
    let g := stepNum s.2.1 s.2.2
    let x := stepText g.2.1 g.2.2 65536
    let r := rdChs n x.2.1 x.2.2
    ((⟨s.1, decide (g.1 = 1), x.1⟩ :: r.1.1, decide (1 < g.1) || r.1.2), r.2)
def pdecode (b : Bs) : Pch × Nat :=
  if 131072 < b.length then (noPch, 4) else
  let n := stepNum b 0
  if 16 < n.1 then (noPch, 4) else
  let i := rdIds n.1 n.2.1 n.2.2
  let a := stepText i.2.1 i.2.2 100
  let o := stepText a.2.1 a.2.2 1000
  let m := stepNum o.2.1 o.2.2
  if 100 < m.1 then (noPch, 4) else
  let c := rdChs m.1 m.2.1 m.2.2
  if endOf c.2.1 c.2.2 ≠ 0 then (noPch, endOf c.2.1 c.2.2)
  else if c.1.2 || !pright ⟨i.1, a.1, o.1, c.1.1⟩ then (noPch, 3) else (⟨i.1, a.1, o.1, c.1.1⟩, 0)
theorem pdecode_none {b : Bs} (h : (pdecode b).2 ≠ 0) : (pdecode b).1 = noPch := by
  unfold pdecode at h ⊢
  split
  · rfl
  · next h1 =>
    rw [if_neg h1] at h
    simp only [] at h ⊢
    split
    · rfl
    · next h2 =>
      rw [if_neg h2] at h
      split
      · rfl
      · next h3 =>
        rw [if_neg h3] at h
        split
        · rfl
        · next h4 =>
          rw [if_neg h4] at h
          split
          · rfl
          · next h5 =>
            rw [if_neg h5] at h
            exact absurd rfl h
theorem step_txt {s r : Bs} {most : Int} (h : (s.length : Int) ≤ most) (hl : s.length < 18446744073709551616) : stepText (txt s ++ r) 0 most = (s, r, 0) := by
  have e : txt s ++ r = form s.length ++ (s ++ r) := by unfold txt; simp
  rw [step_ok, e, textOf_form s r most h hl]
  simp only []
  rw [← List.drop_drop, List.drop_left, List.drop_left]
theorem step_form {n : Nat} {r : Bs} (h : n < 18446744073709551616) : stepNum (form n ++ r) 0 = (n, r, 0) := by
  have hs : ∀ b, stepNum b 0 = ((numOf b).1, b.drop (numOf b).2.1, (numOf b).2.2) := fun _ => rfl
  rw [hs, numOf_form _ _ h]
  simp only []
  rw [List.drop_left]
theorem step_txt_ok {b r s : Bs} {e : Nat} {most : Int} (h : stepText b e most = (s, r, 0)) : e = 0 ∧ b = txt s ++ r ∧ (s.length : Int) ≤ max most 0 := by
  by_cases he : e = 0
  · subst he
    rw [step_ok] at h
    simp only [Prod.mk.injEq] at h
    obtain ⟨h1, h2, h3⟩ := h
    obtain ⟨k1, k2⟩ := textOf_ok (b := b) (most := most) (s := s) (k := (textOf b most).2.1) (by rw [← h1, ← h3])
    refine ⟨rfl, ?_, k2⟩
    unfold txt
    rw [k1, ← h2]
    simp
  · rw [step_bad he] at h
    simp only [Prod.mk.injEq] at h
    exact absurd h.2.2 he
theorem step_num_ok {b r : Bs} {e n : Nat} (h : stepNum b e = (n, r, 0)) : e = 0 ∧ b = form n ++ r := by
  by_cases he : e = 0
  · subst he
    have hs : stepNum b 0 = ((numOf b).1, b.drop (numOf b).2.1, (numOf b).2.2) := rfl
    rw [hs] at h
    simp only [Prod.mk.injEq] at h
    obtain ⟨h1, h2, h3⟩ := h
    obtain ⟨_, _, _, _, hf⟩ := numOf_ok b (numOf b).1 (numOf b).2.1 (by rw [← h3])
    refine ⟨rfl, ?_⟩
    rw [← h1, ← h2, hf, List.take_append_drop]
  · unfold stepNum at h
    rw [if_neg he] at h
    simp only [Prod.mk.injEq] at h
    exact absurd h.2.2 he
theorem ids_enc : ∀ (l : List Bs) (r : Bs), (∀ x ∈ l, x.length = 32) → rdIds l.length (l.flatMap txt ++ r) 0 = (l, r, 0)
  | [], r, _ => rfl
  | x :: l, r, h => by
    have hx := h x (by simp)
    have ih := ids_enc l r fun y hy => h y (by simp [hy])
    rw [List.flatMap_cons, List.length_cons, List.append_assoc]
    simp only [rdIds]
    rw [step_txt (by omega) (by omega)]
    simp only []
    rw [ih]
theorem chs_enc : ∀ (l : List Ch) (r : Bs), (∀ c ∈ l, c.path.length ≤ 200 ∧ c.text.length ≤ 65536) → rdChs l.length (l.flatMap fCh ++ r) 0 = ((l, false), r, 0)
  | [], r, _ => rfl
  | c :: l, r, h => by
    have hc := h c (by simp)
    have ih := chs_enc l r fun y hy => h y (by simp [hy])
    have e : (c :: l).flatMap fCh ++ r = txt c.path ++ (form (if c.gone then 1 else 0) ++ (txt c.text ++ (l.flatMap fCh ++ r))) := by simp [fCh]
    rw [e, List.length_cons]
    simp only [rdChs]
    rw [step_txt (by omega) (by omega)]
    simp only []
    rw [step_form (by split <;> omega)]
    simp only []
    rw [step_txt (by omega) (by omega)]
    simp only []
    rw [ih]
    obtain ⟨p, g, x⟩ := c
    cases g <;> rfl
/-- P12.4: what is told is read -/
theorem pdecode_form {p : Pch} (h : pright p = true) : pdecode (pform p) = (p, 0) := by
  obtain ⟨h1, h2, h3, h4, h5, h6, h7⟩ := pright_is h
  have hc : ∀ c ∈ p.chs, c.path.length ≤ 200 ∧ c.text.length ≤ 65536 := fun c hcm => by
    obtain ⟨_, k1, k2, _⟩ := cgo_above h6 c hcm
    unfold can at k1
    rw [Bool.and_eq_true, decide_eq_true_eq] at k1
    exact ⟨k1.1, k2⟩
  have k := chs_enc p.chs [] hc
  rw [List.append_nil] at k
  unfold pdecode
  rw [if_neg (by omega)]
  simp only []
  have e0 : stepNum (pform p) 0 = (p.ids.length, p.ids.flatMap txt ++ (txt p.author ++ (txt p.note ++ (form p.chs.length ++ p.chs.flatMap fCh))), 0) := step_form (by omega)
  rw [e0]
  simp only []
  rw [if_neg (by omega), ids_enc p.ids _ (igo_len h5)]
  simp only []
  rw [step_txt (by omega) (by omega)]
  simp only []
  rw [step_txt (by omega) (by omega)]
  simp only []
  rw [step_form (by omega)]
  simp only []
  rw [if_neg (by omega), k]
  simp only []
  have e1 : endOf ([] : Bs) 0 = 0 := rfl
  rw [e1, if_neg (by simp), h]
  rfl
theorem ids_ok : ∀ (n : Nat) (b r : Bs) (e : Nat) (l : List Bs), rdIds n b e = (l, r, 0) → e = 0 ∧ b = l.flatMap txt ++ r ∧ l.length = n
  | 0, b, r, e, l, h => by
    simp only [rdIds, Prod.mk.injEq] at h
    obtain ⟨rfl, rfl, h⟩ := h
    exact ⟨h, rfl, rfl⟩
  | n + 1, b, r, e, l, h => by
    simp only [rdIds, Prod.mk.injEq] at h
    obtain ⟨h1, h2⟩ := h
    obtain ⟨i1, i2, i3⟩ := ids_ok n _ r _ _ (Prod.ext rfl h2)
    obtain ⟨j1, j2, _⟩ := step_txt_ok (b := b) (e := e) (most := 32) (s := (stepText b e 32).1) (r := (stepText b e 32).2.1) (by rw [← i1])
    subst h1
    refine ⟨j1, ?_, by rw [List.length_cons, i3]⟩
    rw [List.flatMap_cons, List.append_assoc, ← i2]
    exact j2
theorem chs_ok : ∀ (n : Nat) (b r : Bs) (e : Nat) (l : List Ch), rdChs n b e = ((l, false), r, 0) → e = 0 ∧ b = l.flatMap fCh ++ r ∧ l.length = n
  | 0, b, r, e, l, h => by
    simp only [rdChs, Prod.mk.injEq] at h
    obtain ⟨⟨rfl, _⟩, rfl, h⟩ := h
    exact ⟨h, rfl, rfl⟩
  | n + 1, b, r, e, l, h => by
    simp only [rdChs, Prod.mk.injEq, Bool.or_eq_false_iff, decide_eq_false_iff_not] at h
    obtain ⟨⟨h1, hg, ho⟩, h2⟩ := h
    obtain ⟨i1, i2, i3⟩ := chs_ok n _ r _ _ (Prod.ext (Prod.ext rfl ho) h2)
    obtain ⟨j1, j2, _⟩ := step_txt_ok (most := 65536) (s := (stepText (stepNum (stepText b e 200).2.1 (stepText b e 200).2.2).2.1 (stepNum (stepText b e 200).2.1 (stepText b e 200).2.2).2.2 65536).1) (r := (stepText (stepNum (stepText b e 200).2.1 (stepText b e 200).2.2).2.1 (stepNum (stepText b e 200).2.1 (stepText b e 200).2.2).2.2 65536).2.1) (b := (stepNum (stepText b e 200).2.1 (stepText b e 200).2.2).2.1) (e := (stepNum (stepText b e 200).2.1 (stepText b e 200).2.2).2.2) (by rw [← i1])
    obtain ⟨k1, k2⟩ := step_num_ok (n := (stepNum (stepText b e 200).2.1 (stepText b e 200).2.2).1) (r := (stepNum (stepText b e 200).2.1 (stepText b e 200).2.2).2.1) (b := (stepText b e 200).2.1) (e := (stepText b e 200).2.2) (by rw [← j1])
    obtain ⟨l1, l2, _⟩ := step_txt_ok (b := b) (e := e) (most := 200) (s := (stepText b e 200).1) (r := (stepText b e 200).2.1) (by rw [← k1])
    refine ⟨l1, ?_, by rw [← h1, List.length_cons, i3]⟩
    have hn : (if decide ((stepNum (stepText b e 200).2.1 (stepText b e 200).2.2).1 = 1) = true then 1 else 0) = (stepNum (stepText b e 200).2.1 (stepText b e 200).2.2).1 := by
      by_cases h0 : (stepNum (stepText b e 200).2.1 (stepText b e 200).2.2).1 = 1
      · rw [h0]; rfl
      · rw [decide_eq_false h0, if_neg (by decide)]; omega
    rw [← h1, List.flatMap_cons]
    unfold fCh
    simp only []
    rw [hn]
    rw [i2] at j2
    rw [j2] at k2
    rw [k2] at l2
    refine l2.trans ?_
    simp only [List.append_assoc]
    rfl
/-- P12.4: each form is one patch's -/
theorem pform_decode {b : Bs} {p : Pch} (h : pdecode b = (p, 0)) : pform p = b ∧ pright p = true := by
  unfold pdecode at h
  split at h
  · simp at h
  · simp only [] at h
    split at h
    · simp at h
    · split at h
      · simp at h
      · split at h
        · next he => simp only [Prod.mk.injEq] at h; exact absurd h.2 he
        · next he =>
          split at h
          · simp at h
          · next hr =>
            simp only [Prod.mk.injEq, and_true] at h
            subst h
            simp only [Bool.or_eq_true, Bool.not_eq_true', not_or, Bool.not_eq_true, Bool.not_eq_false] at hr
            refine ⟨?_, hr.2⟩
            have hend : ∀ (x : Bs) (e : Nat), ¬ endOf x e ≠ 0 → x = [] ∧ e = 0 := fun x e h0 => by
              unfold endOf at h0
              by_cases h1 : e = 0
              · rw [if_pos h1] at h0
                by_cases h2 : 0 < x.length
                · rw [if_pos h2] at h0; simp at h0
                · exact ⟨List.eq_nil_of_length_eq_zero (by omega), h1⟩
              · rw [if_neg h1] at h0
                exact absurd h1 h0
            obtain ⟨c1, c2⟩ := hend _ _ he
            obtain ⟨d1, d2, d3⟩ := chs_ok _ _ [] _ _ (Prod.ext (Prod.ext rfl hr.1) (Prod.ext c1 c2))
            obtain ⟨e1, e2⟩ := step_num_ok (Prod.ext rfl (Prod.ext rfl d1))
            obtain ⟨f1, f2, _⟩ := step_txt_ok (Prod.ext rfl (Prod.ext rfl e1))
            obtain ⟨g1, g2, _⟩ := step_txt_ok (Prod.ext rfl (Prod.ext rfl f1))
            obtain ⟨i1, i2, i3⟩ := ids_ok _ _ _ _ _ (Prod.ext rfl (Prod.ext rfl g1))
            obtain ⟨j1, j2⟩ := step_num_ok (Prod.ext rfl (Prod.ext rfl i1))
            unfold pform
            simp only []
            rw [i3, d3]
            rw [List.append_nil] at d2
            rw [← d2, ← e2, ← f2, ← g2, ← i2, ← j2]
end Go.Proofs.YtabgkfkjnpcbkaaDoor.Tr
namespace Go.Proofs.YtabgkfkjnpcbkaaDoor.Tr
open Go Go.RowKit Go.WideShapes Go.ChangeShapes Go.ChangeAt Go.ChangeMaps Go.Deep Kt Lw Li Df

abbrev tC : TypeId := 51
abbrev tCs : TypeId := 23
/-- a change's cells -/
def chC (f : Ch) : List Value := [.string ⟨f.path.toArray⟩, .bool f.gone, .string ⟨f.text.toArray⟩]
theorem chC_len (r : Ch) : (chC r).length = 3 := rfl
/-- changes in a row of the call's own -/
def OwC (w : World) (B : Nat) (v : Value) (L : List Ch) : Prop := w.ownsRow B tC 3 v L.length (L.flatMap chC)
/-- '.slice A n c' reads as these changes -/
def Chs (w : World) (A : Option Addr) (c : Nat) (L : List Ch) : Prop :=
  L.length ≤ c ∧ (0 < L.length → ∃ b o, A = some ⟨b, o, none⟩ ∧ b < w.heap.size ∧ ∀ j r, L[j]? = some r → w.rangeAt b (o + 3 * j) (chC r))
theorem OwC.nil (w : World) (B : Nat) : OwC w B (.slice none 0 0) [] := World.ownsRow_nil _ _ _ _
theorem Chs.nil (w : World) (A : Option Addr) (c : Nat) : Chs w A c [] := ⟨Nat.zero_le _, fun h => by simp at h⟩
theorem Chs.keep {w w' : World} {A : Option Addr} {c : Nat} {L : List Ch} (h : Chs w A c L) (hb : Below w.heap.size w w') : Chs w' A c L :=
  ⟨h.1, fun hn => by
    obtain ⟨b, o, rfl, hlt, he⟩ := h.2 hn
    exact ⟨b, o, rfl, Nat.lt_of_lt_of_le hlt hb.size, fun j e hj i v hi => (World.cell?_of_block (a := ⟨b, o + 3 * j + i, none⟩) (hb.block b hlt)).trans (he j e hj i v hi)⟩⟩
theorem OwC.fls {w : World} {B : Nat} {v : Value} {L : List Ch} (h : OwC w B v L) : ∃ A c, v = .slice A L.length c ∧ Chs w A c L := by
  have h' := h
  rcases h.2 with ⟨rfl, h0⟩ | ⟨g, cap, cur, rfl, hB, hg, hnc, hcm, hs, ht⟩
  · have e : L = [] := List.eq_nil_of_length_eq_zero h0
    subst e
    exact ⟨none, 0, rfl, Chs.nil _ _ _⟩
  · refine ⟨_, cap, rfl, hnc, fun _ => ⟨g, 0, rfl, (Array.getElem?_eq_some_iff.1 hg).1, fun j e hj k u hk => ?_⟩⟩
    have hjl : j < L.length := (List.getElem?_eq_some_iff.1 hj).1
    have hk7 : k < 3 := (List.getElem?_eq_some_iff.1 hk).1
    have := World.ownsRow.cellAt (cap := cap) h' (3 * j + k) (by omega)
    rw [Nat.zero_add, this, flat_at chC 3 chC_len L j k e hj hk7]
    exact hk
theorem OwC.below {w w' : World} {B : Nat} {v : Value} {L : List Ch} (h : OwC w B v L) {B' : Nat} (hb : Below B' w w') (hv : ∀ g, v.ownBlock = some g → g < B') : OwC w' B v L := by
  refine ⟨h.1, ?_⟩
  rcases h.2 with ⟨h1, h2⟩ | ⟨g, cap, cur, hv', h1, h2, h3⟩
  · exact .inl ⟨h1, h2⟩
  · exact .inr ⟨g, cap, cur, hv', h1, (hb.block g (hv g (by rw [hv']; rfl))).trans h2, h3⟩
theorem OwC.keep {w w' : World} {B : Nat} {v : Value} {L : List Ch} (h : OwC w B v L) (hb : Below w.heap.size w w') : OwC w' B v L := h.below hb fun g hg => (World.ownsRow.lt h g hg).2
theorem OwC.grown {w w' : World} {B : Nat} {v : Value} {L : List Ch} {r : Option Nat} (h : OwC w B v L) (hg : w.grownBy w' r) (hr : ∀ g, v.ownBlock = some g → some g ≠ r) : OwC w' B v L := by
  refine ⟨h.1, ?_⟩
  rcases h.2 with ⟨h1, h2⟩ | ⟨g, cap, cur, hv', h1, h2, h3⟩
  · exact .inl ⟨h1, h2⟩
  · exact .inr ⟨g, cap, cur, hv', h1, (hg.block g (Array.getElem?_eq_some_iff.1 h2).1 (hr g (by rw [hv']; rfl))).trans h2, h3⟩
theorem OwC.base {w : World} {B B' : Nat} {v : Value} {L : List Ch} (h : OwC w B v L) (hb : B' ≤ B) : OwC w B' v L :=
  ⟨h.1, h.2.imp id fun ⟨g, cap, cur, hv', h1, h2⟩ => ⟨g, cap, cur, hv', Nat.le_trans hb h1, h2⟩⟩
theorem OwC.drewN {w : World} {B : Nat} {v : Value} {L : List Ch} (h : OwC w B v L) (n : Nat) : OwC (w.drewN n) B v L := h
theorem OwC.drew {w : World} {B : Nat} {v : Value} {L : List Ch} (h : OwC w B v L) : OwC w.drew B v L := h
/-- a block of other cells is none of the row's -/
theorem OwC.ne {w : World} {B g : Nat} {t : TypeId} {cs : List Value} {v : Value} {L : List Ch} (hrow : Row w g t cs) (ht : t ≠ tC) (h : OwC w B v L) : ∀ b, v.ownBlock = some b → b ≠ g := by
  intro b hb e
  subst e
  rcases h.2 with ⟨rfl, _⟩ | ⟨g', cap, cur, rfl, _, hg', _⟩
  · cases hb
  · simp only [Value.ownBlock, Option.some.injEq] at hb
    subst hb
    unfold Row at hrow
    rw [hg'] at hrow
    simp only [Option.some.injEq, Obj.cells.injEq] at hrow
    exact ht hrow.2.1.symm
theorem infoCh : (Tryd.prog.info? 51).map (fun i => (i.zero, i.size, i.bytes)) = some (some (.agg #[.string ⟨#[]⟩, .bool false, .string ⟨#[]⟩]), 3, 40) := by kernel_rfl
/-- append of one change -/
theorem wp_pushC {o : Oper} {a : Act} {K : Act → World → Prop} {Q : Exit → Act → World → Prop} {W : World} (s x : Operand)
    (ho : o.op = .call { callee := .builtin .append, args := #[s, x], argTypes := #[23, 23] })
    (B : Nat) (w0 : World) (v : Value) (L : List Ch) (e : Ch) (cs : Array Value) (hs : a.eval s = v) (hx : a.eval x = .slice (some ⟨W.heap.size, 0, none⟩) 1 1) (hc : cs = (chC e).toArray)
    (hown : OwC W B v L) (hlen : L.length + 1 ≤ 1000000000) (hb : Below B w0 W) (hbase : B ≤ W.heap.size)
    (h : ∀ v' w', OwC w' B v' (L ++ [e]) → Below B w0 w' → W.grownBy w' v.ownBlock → K (a.put o.dst v') w') : o.wp Tryd.prog a (W.alloc (.cells cs tC)) K Q := by
  obtain ⟨i0, hi0, hz0, hz1, hz2⟩ := info_parts infoCh
  subst hc
  refine wp_append_own _ s x 23 ho B tC i0 (.agg #[.string ⟨#[]⟩, .bool false, .string ⟨#[]⟩]) 3 40 Tryd.underlying23 hi0 hz0 hz1 hz2 rfl (by omega) v L.length (L.flatMap chC) hs (World.ownsRow.alloc hown _)
    ⟨W.heap.size, 0, none⟩ 1 1 (chC e) hx rfl (fun j u hu => ?_) ?_ (by unfold maxLen; omega) (by omega) (by simp; omega) (fun v' w' h1 h2 _ => ?_)
  · rw [Addr.add_mid, (Row.fresh W tC (chC e).toArray).cell]
    simpa using hu
  · intro u hu
    simp only [chC, List.mem_cons, List.not_mem_nil, or_false] at hu
    rcases hu with rfl | rfl | rfl <;> rfl
  · have hg := grownBy_back _ h2
    refine h v' w' ?_ (hb.grown hg hbase fun k hk => (World.ownsRow.lt hown k hk).1) hg
    unfold OwC
    rw [List.flatMap_append, List.length_append]
    simpa using h1
theorem wpList_pushC {ops : Array Oper} {rest : List Oper} {o : Oper} {a : Act} {Q : Exit → Act → World → Prop} {W : World} (hgd : o.guard = none) (s x : Operand)
    (ho : o.op = .call { callee := .builtin .append, args := #[s, x], argTypes := #[23, 23] })
    (B : Nat) (w0 : World) (v : Value) (L : List Ch) (e : Ch) (cs : Array Value) (hs : a.eval s = v) (hx : a.eval x = .slice (some ⟨W.heap.size, 0, none⟩) 1 1) (hc : cs = (chC e).toArray)
    (hown : OwC W B v L) (hlen : L.length + 1 ≤ 1000000000) (hb : Below B w0 W) (hbase : B ≤ W.heap.size)
    (h : ∀ v' w', OwC w' B v' (L ++ [e]) → Below B w0 w' → W.grownBy w' v.ownBlock → wpList Tryd.prog ops Q rest (a.put o.dst v') w') : wpList Tryd.prog ops Q (o :: rest) a (W.alloc (.cells cs tC)) :=
  wpList_plain hgd fun _ hK => wp_pushC s x ho B w0 v L e cs hs hx hc hown hlen hb hbase fun v' w' h1 h2 h3 => hK _ _ (h v' w' h1 h2 h3)
/-- the change number k, in a world behind -/
theorem Chs.at {w w' : World} {A : Option Addr} {c : Nat} {L : List Ch} (h : Chs w A c L) (hb : Below w.heap.size w w') {k : Nat} (hk : k < L.length) :
    ∃ b o f, A = some ⟨b, o, none⟩ ∧ b < w.heap.size ∧ L[k]? = some f ∧ L.drop k = f :: L.drop (k + 1) ∧ w'.cell? ⟨b, o + k * 3, none⟩ = some (.string ⟨f.path.toArray⟩) ∧ w'.cell? ⟨b, o + k * 3 + 1, none⟩ = some (.bool f.gone) ∧ w'.cell? ⟨b, o + k * 3 + 2, none⟩ = some (.string ⟨f.text.toArray⟩) := by
  obtain ⟨b, o, rfl, hlt, he⟩ := h.2 (by omega)
  have h1 := he k _ (List.getElem?_eq_getElem hk)
  rw [Nat.mul_comm] at h1
  have h3 : ∀ i v, (chC L[k])[i]? = some v → w'.cell? ⟨b, o + k * 3 + i, none⟩ = some v := fun i v hi => (World.cell?_of_block (a := ⟨b, o + k * 3 + i, none⟩) (hb.block b hlt)).trans (h1 i v hi)
  exact ⟨b, o, _, rfl, hlt, List.getElem?_eq_getElem hk, List.drop_eq_getElem_cons hk, h3 0 _ rfl, h3 1 _ rfl, h3 2 _ rfl⟩
section
variable {H : Type} {enc : TypeId × Value → H}
set_option maxRecDepth 100000 in
theorem open_changes {W : World} {base : Nat} {v : Value} {d : DataW H} {ps : List MemPlace}
    (hval : Value.okWide Tryd.prog W .any base 23 v) (h : DataW.Trod enc Tryd.prog W 0 (fun _ => true) true 23 v d ps) :
    ∃ (L : List Ch) (A : Option Addr) (c : Nat), v = .slice A L.length c ∧ (Chs W A c L ∧ ∀ f ∈ L, f.path.length ≤ maxLen ∧ f.text.length ≤ maxLen) ∧ L.length ≤ maxLen := by
  obtain ⟨a1, len, cap, rfl⟩ := okWide_slice Tryd.underlying23 hval
  obtain ⟨fuel, hf⟩ := h
  rcases open_slice Tryd.underlying23 hf with ⟨hcs, _⟩ | ⟨a, len', cap', m, n, D, Pl, hcs, _, hl, hm, hmm, _, hi⟩
  · simp [Value.cells] at hcs
    obtain ⟨rfl, rfl, rfl⟩ := hcs
    exact ⟨[], none, 0, rfl, ⟨Chs.nil _ _ _, fun f hf => by cases hf⟩, Nat.zero_le _⟩
  · simp [Value.cells] at hcs
    obtain ⟨rfl, rfl, rfl⟩ := hcs
    simp only [if_true] at hmm
    subst hmm
    have hC : Tryd.prog.cellsOf 51 = 3 := by kernel_rfl
    have cB : Tryd.prog.cellsOf 4 = 1 := by kernel_rfl
    have cS : Tryd.prog.cellsOf 9 = 1 := by kernel_rfl
    rw [hC] at hi
    have hel : ∀ i, i < len → ∃ e : Ch, ∀ k u, (chC e)[k]? = some u → W.cell? ((a.add (i * 3)).add k) = some u := by
      intro i hil
      obtain ⟨cs', hc, ht⟩ := hi i (by omega)
      obtain ⟨_, hcl, hat⟩ := World.cells?_some hc
      obtain ⟨y0, y1, y2, n', _, _, h0, h1, h2⟩ := trod_struct3 Tryd.underlying51 ht
      simp only [cS, cB] at h0 h1 h2
      obtain ⟨p, e0, _, hp⟩ := DataW.trod_string Tryd.underlying9 h0
      obtain ⟨gb, e1, _⟩ := DataW.trod_bool Tryd.underlying4 h1
      obtain ⟨x, e2, _, hx⟩ := DataW.trod_string Tryd.underlying9 h2
      have k0 := one_at _ _ _ e0
      have k1 := one_at _ _ _ e1
      have k2 := one_at _ _ _ e2
      refine ⟨⟨p.data.toList, gb, x.data.toList⟩, fun k u hk => ?_⟩
      have hk2 : k < 3 := (List.getElem?_eq_some_iff.1 hk).1
      rw [hat k hk2]
      rcases k with _ | _ | _ | k
      · rw [k0, ← hk]; rfl
      · rw [k1, ← hk]; rfl
      · rw [k2, ← hk]; rfl
      · omega
    have hlen : ∀ i, i < len → ∀ e : Ch, (∀ k u, (chC e)[k]? = some u → W.cell? ((a.add (i * 3)).add k) = some u) → e.path.length ≤ maxLen ∧ e.text.length ≤ maxLen := by
      intro i hil e he
      obtain ⟨cs', hc, ht⟩ := hi i (by omega)
      obtain ⟨_, hcl, hat⟩ := World.cells?_some hc
      obtain ⟨y0, y1, y2, n', _, _, h0, h1, h2⟩ := trod_struct3 Tryd.underlying51 ht
      simp only [cS, cB] at h0 h1 h2
      obtain ⟨p, e0, _, hp⟩ := DataW.trod_string Tryd.underlying9 h0
      obtain ⟨gb, e1, _⟩ := DataW.trod_bool Tryd.underlying4 h1
      obtain ⟨x, e2, _, hx⟩ := DataW.trod_string Tryd.underlying9 h2
      have k0 := one_at _ _ _ e0
      have k1 := one_at _ _ _ e1
      have k2 := one_at _ _ _ e2
      have g0 := he 0 _ rfl
      have g1 := he 2 _ rfl
      rw [hat 0 (by omega), k0] at g0
      rw [hat 2 (by omega), k2] at g1
      simp only [Option.some.injEq, Value.string.injEq] at g0 g1
      have q0 := congrArg ByteArray.size g0
      have q1 := congrArg ByteArray.size g1
      exact ⟨by rw [show e.path.length = (ByteArray.mk e.path.toArray).size from rfl, ← q0]; exact hp, by rw [show e.text.length = (ByteArray.mk e.text.toArray).size from rfl, ← q1]; exact hx⟩
    obtain ⟨L, hLl, hQ⟩ := list_of _ len hel
    refine ⟨L, some a, m, by rw [hLl], ⟨⟨by omega, fun hn => ?_⟩, fun f hf => ?_⟩, by omega⟩
    · obtain ⟨ab, ao, spot⟩ := a
      obtain ⟨e0, hc0⟩ := hel 0 (by omega)
      have hspot : spot = none := by simpa [Addr.add] using World.cell?_spot (hc0 0 _ rfl)
      subst hspot
      have hlt : ab < W.heap.size := by
        have := hc0 0 _ rfl
        rw [Addr.add_mid, Addr.add_mid] at this
        exact World.block_lt_of_cell? W _ this
      refine ⟨ab, ao, rfl, hlt, fun j e hj k u hk => ?_⟩
      have := hQ j e hj k u hk
      rw [Addr.add_mid, Addr.add_mid] at this
      rw [Nat.mul_comm 3 j]
      exact this
    · obtain ⟨j, hj⟩ := List.getElem?_of_mem hf
      exact hlen j (by rw [← hLl]; exact (List.getElem?_eq_some_iff.1 hj).1) f (hQ j f hj)
end
end Go.Proofs.YtabgkfkjnpcbkaaDoor.Tr
