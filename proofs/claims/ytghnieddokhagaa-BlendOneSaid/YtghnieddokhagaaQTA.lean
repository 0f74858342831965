/-
  Trees, on lists alone: paths that can be, files by rising paths, what is put and dropped. No program is named here.
-/
import GoSem.Op.String
import Derived.Lib.Bytealg
import Derived.Test.YtghnieddokhagaaQReg
import Derived.Test.YtghnieddokhagaaLaw
import Derived.Test.YtghnieddokhagaaProg
import Derived.IntWalk
import Derived.Lib.Strings
import Derived.BigQuiet
namespace Go.Proofs.Ytghnieddokhagaa.Tr
open Go

abbrev Bs := List UInt8
abbrev lt (a b : Bs) : Bool := Op.bytesLess a b
theorem lt_cons (x y : UInt8) (p q : Bs) : lt (x :: p) (y :: q) = (decide (x < y) || (x == y && lt p q)) := rfl
theorem lt_irr : ∀ a : Bs, lt a a = false
  | [] => rfl
  | x :: a => by rw [lt_cons, lt_irr a]; simp
theorem lt_tri : ∀ a b : Bs, lt a b = true ∨ a = b ∨ lt b a = true
  | [], [] => .inr (.inl rfl)
  | [], _ :: _ => .inl rfl
  | _ :: _, [] => .inr (.inr rfl)
  | x :: a, y :: b => by
    rw [lt_cons, lt_cons]
    rcases Nat.lt_trichotomy x.toNat y.toNat with h | h | h
    · left; simp [UInt8.lt_iff_toNat_lt, h]
    · have e : x = y := UInt8.toNat_inj.1 h
      subst e
      rcases lt_tri a b with h | h | h
      · left; simp [h]
      · right; left; rw [h]
      · right; right; simp [h]
    · right; right; simp [UInt8.lt_iff_toNat_lt, h]
theorem lt_trans : ∀ {a b c : Bs}, lt a b = true → lt b c = true → lt a c = true
  | _, [], _, h, _ => by simp [lt, Op.bytesLess] at h
  | _, _ :: _, [], _, h => by simp [lt, Op.bytesLess] at h
  | [], _ :: _, _ :: _, _, _ => rfl
  | x :: a, y :: b, z :: c, h1, h2 => by
    rw [lt_cons, Bool.or_eq_true, Bool.and_eq_true, decide_eq_true_iff, beq_iff_eq, UInt8.lt_iff_toNat_lt] at h1 h2 ⊢
    rcases h1 with h1 | ⟨e1, h1⟩
    · rcases h2 with h2 | ⟨e2, h2⟩
      · left; omega
      · subst e2; left; exact h1
    · subst e1
      rcases h2 with h2 | ⟨e2, h2⟩
      · left; exact h2
      · subst e2; right; exact ⟨rfl, lt_trans h1 h2⟩
theorem lt_asymm {a b : Bs} (h : lt a b = true) : lt b a = false := by
  cases hb : lt b a with
  | false => rfl
  | true => have := lt_trans h hb; rw [lt_irr] at this; cases this
theorem lt_ne {a b : Bs} (h : lt a b = true) : a ≠ b := fun e => by rw [e, lt_irr] at h; cases h
/-- a part of a path that can be -/
def part (p : Bs) : Bool := !decide (p = []) && !decide (p = [46]) && !decide (p = [46, 46])
/-- the rest of a path, behind the bytes of a part -/
def rest : Bs → Bs → Bool
  | q, [] => part q
  | q, c :: r => if c = 47 then part q && rest [] r else !(decide (c < 32) || c == 127) && rest (q ++ [c]) r
/-- can a path be? -/
def can (p : Bs) : Bool := decide (p.length ≤ 200) && rest [] p
/-- a file -/
structure Fl where
  path : Bs
  text : Bs
deriving DecidableEq
/-- is a path above the one ahead of it? -/
def above : Option Bs → Bs → Bool
  | none, _ => true
  | some p, q => lt p q
/-- are files right, behind the path of the one ahead? -/
def go : Option Bs → List Fl → Bool
  | _, [] => true
  | p, f :: t => can f.path && decide (f.text.length ≤ 65536) && above p f.path && go (some f.path) t
def right (t : List Fl) : Bool := go none t && decide (t.length ≤ 1000)
def get (t : List Fl) (p : Bs) : Bs × Bool :=
  match t with
  | [] => ([], false)
  | f :: t => if f.path = p then (f.text, true) else get t p
def drop (t : List Fl) (p : Bs) : List Fl := t.filter fun f => !decide (f.path = p)
def ins (f : Fl) : List Fl → List Fl
  | [] => [f]
  | g :: t => if lt f.path g.path then f :: g :: t else g :: ins f t
/-- a tree with a file; why there is none -/
def put (t : List Fl) (f : Fl) : List Fl × Nat :=
  if can f.path = false then ([], 7) else if 65536 < f.text.length ∨ 1000 ≤ (drop t f.path).length then ([], 4) else (ins f (drop t f.path), 0)

theorem go_weak {p q : Option Bs} {t : List Fl} (h : go p t = true) (hw : ∀ x, above p x = true → above q x = true) : go q t = true := by
  cases t with
  | nil => rfl
  | cons f t =>
    simp only [go, Bool.and_eq_true] at h ⊢
    exact ⟨⟨h.1.1, hw _ h.1.2⟩, h.2⟩
theorem above_trans {p : Option Bs} {x y : Bs} (h : above p x = true) (h' : lt x y = true) : above p y = true := by
  cases p with
  | none => rfl
  | some p => exact lt_trans h h'
theorem go_above {p : Option Bs} : ∀ {t : List Fl}, go p t = true → ∀ f ∈ t, above p f.path = true ∧ can f.path = true ∧ f.text.length ≤ 65536
  | [], _, f, hf => by cases hf
  | g :: t, h, f, hf => by
    simp only [go, Bool.and_eq_true, decide_eq_true_eq] at h
    rcases List.mem_cons.1 hf with rfl | hf
    · exact ⟨h.1.2, h.1.1.1, h.1.1.2⟩
    · obtain ⟨h1, h2⟩ := go_above h.2 f hf
      exact ⟨above_trans h.1.2 h1, h2⟩
/-- dropped, files stay right -/
theorem go_drop (p : Bs) : ∀ {q : Option Bs} {t : List Fl}, go q t = true → go q (drop t p) = true
  | _, [], _ => rfl
  | q, f :: t, h => by
    simp only [go, Bool.and_eq_true] at h
    have ih := go_drop p h.2
    unfold drop at ih ⊢
    rw [List.filter_cons]
    split
    · simp only [go, Bool.and_eq_true]
      exact ⟨h.1, ih⟩
    · exact go_weak ih fun x hx => above_trans h.1.2 hx
theorem drop_none {t : List Fl} {p : Bs} (h : ∀ f ∈ t, f.path ≠ p) : drop t p = t := by
  unfold drop
  rw [List.filter_eq_self]
  intro f hf
  simp [h f hf]
theorem drop_not (t : List Fl) (p : Bs) : ∀ f ∈ drop t p, f.path ≠ p := by
  intro f hf
  unfold drop at hf
  have := (List.mem_filter.1 hf).2
  simpa using this
theorem mem_drop {t : List Fl} {p : Bs} {f : Fl} : f ∈ drop t p ↔ f ∈ t ∧ f.path ≠ p := by
  unfold drop
  rw [List.mem_filter]
  simp
theorem mem_ins {f g : Fl} : ∀ {t : List Fl}, g ∈ ins f t ↔ g = f ∨ g ∈ t
  | [] => by simp [ins]
  | h :: t => by
    have ih := mem_ins (f := f) (g := g) (t := t)
    rw [ins]
    split
    · simp
    · rw [List.mem_cons, ih, List.mem_cons]
      constructor
      · rintro (h | h | h)
        · exact .inr (.inl h)
        · exact .inl h
        · exact .inr (.inr h)
      · rintro (h | h | h)
        · exact .inr (.inl h)
        · exact .inl h
        · exact .inr (.inr h)
theorem ins_len (f : Fl) : ∀ t : List Fl, (ins f t).length = t.length + 1
  | [] => rfl
  | g :: t => by
    have ih := ins_len f t
    rw [ins]
    split
    · simp
    · simp [ih]
/-- put among others, files stay right -/
theorem go_ins {f : Fl} (hc : can f.path = true) (hl : f.text.length ≤ 65536) : ∀ {q : Option Bs} {t : List Fl}, go q t = true → above q f.path = true → (∀ g ∈ t, g.path ≠ f.path) → go q (ins f t) = true
  | q, [], _, hq, _ => by simp [ins, go, hc, hl, hq]
  | q, g :: t, h, hq, hn => by
    have h' := h
    simp only [go, Bool.and_eq_true] at h
    rw [ins]
    split
    · rename_i hlt
      simp only [go, Bool.and_eq_true, decide_eq_true_eq]
      exact ⟨⟨⟨hc, hl⟩, hq⟩, ⟨⟨h.1.1.1, of_decide_eq_true h.1.1.2⟩, hlt⟩, h.2⟩
    · rename_i hlt
      simp only [go, Bool.and_eq_true]
      refine ⟨h.1, go_ins hc hl h.2 ?_ fun x hx => hn x (by simp [hx])⟩
      show lt g.path f.path = true
      rcases lt_tri g.path f.path with h1 | h1 | h1
      · exact h1
      · exact absurd h1 (hn g (by simp))
      · exact absurd h1 hlt
/-- files that are right are told by which they are -/
theorem go_ext : ∀ {q r : Option Bs} {t u : List Fl}, go q t = true → go r u = true → (∀ f, f ∈ t ↔ f ∈ u) → t = u
  | _, _, [], [], _, _, _ => rfl
  | _, _, [], f :: u, _, _, h => by have := (h f).2 (by simp); cases this
  | _, _, f :: t, [], _, _, h => by have := (h f).1 (by simp); cases this
  | q, r, f :: t, g :: u, h1, h2, h => by
    simp only [go, Bool.and_eq_true] at h1 h2
    have a1 := go_above h1.2
    have a2 := go_above h2.2
    have e : f = g := by
      rcases List.mem_cons.1 ((h f).1 (by simp)) with h' | h'
      · exact h'
      · rcases List.mem_cons.1 ((h g).2 (by simp)) with h'' | h''
        · exact h''.symm
        · have := lt_trans (a1 g h'').1 (a2 f h').1
          rw [lt_irr] at this; cases this
    subst e
    congr 1
    refine go_ext h1.2 h2.2 fun x => ⟨fun hx => ?_, fun hx => ?_⟩
    · rcases List.mem_cons.1 ((h x).1 (by simp [hx])) with h' | h'
      · subst h'; have := (a1 x hx).1; rw [show above (some x.path) x.path = lt x.path x.path from rfl, lt_irr] at this; cases this
      · exact h'
    · rcases List.mem_cons.1 ((h x).2 (by simp [hx])) with h' | h'
      · subst h'; have := (a2 x hx).1; rw [show above (some x.path) x.path = lt x.path x.path from rfl, lt_irr] at this; cases this
      · exact h'
theorem go_len {q : Option Bs} {t : List Fl} (h : go q t = true) (p : Bs) : t.length ≤ (drop t p).length + 1 := by
  induction t generalizing q with
  | nil => simp
  | cons f t ih =>
    simp only [go, Bool.and_eq_true] at h
    have ih := ih h.2
    unfold drop at ih ⊢
    rw [List.filter_cons]
    split
    · simp only [List.length_cons]; omega
    · rename_i hf
      have hf : f.path = p := by simpa using hf
      have e : List.filter (fun g => !decide (g.path = p)) t = t := by
        rw [List.filter_eq_self]
        intro g hg
        have := (go_above h.2 g hg).1
        rw [hf] at this
        have hne : ¬ g.path = p := fun e => lt_ne this e.symm
        simp [hne]
      rw [e]; simp
/-- P10.2: what is put is right -/
theorem put_right {t : List Fl} {f : Fl} (h : right t = true) (he : (put t f).2 = 0) : right (put t f).1 = true ∧ (put t f).1 = ins f (drop t f.path) ∧ can f.path = true ∧ f.text.length ≤ 65536 := by
  unfold right at h ⊢
  rw [Bool.and_eq_true, decide_eq_true_eq] at h
  unfold put at he ⊢
  by_cases hc : can f.path = false
  · rw [if_pos hc] at he; cases he
  · rw [if_neg hc] at he ⊢
    by_cases hl : 65536 < f.text.length ∨ 1000 ≤ (drop t f.path).length
    · rw [if_pos hl] at he; cases he
    · rw [if_neg hl] at he ⊢
      have hc : can f.path = true := by simpa using hc
      refine ⟨?_, rfl, hc, by omega⟩
      rw [Bool.and_eq_true, decide_eq_true_eq]
      exact ⟨go_ins hc (by omega) (go_drop _ h.1) rfl (drop_not t f.path), by rw [ins_len]; omega⟩
theorem get_some {t : List Fl} {p : Bs} (h : (get t p).2 = true) : ∃ f ∈ t, f.path = p ∧ (get t p).1 = f.text := by
  induction t with
  | nil => simp [get] at h
  | cons g t ih =>
    rw [get] at h ⊢
    by_cases hg : g.path = p
    · rw [if_pos hg]; exact ⟨g, by simp, hg, rfl⟩
    · rw [if_neg hg] at h ⊢
      obtain ⟨f, hf, e⟩ := ih h
      exact ⟨f, by simp [hf], e⟩
theorem get_none {t : List Fl} {p : Bs} (h : ∀ f ∈ t, f.path ≠ p) : get t p = ([], false) := by
  induction t with
  | nil => rfl
  | cons g t ih =>
    rw [get, if_neg (h g (by simp))]
    exact ih fun f hf => h f (by simp [hf])
/-- of right files the one with a path is told -/
theorem get_is {q : Option Bs} {t : List Fl} (h : go q t = true) {f : Fl} (hf : f ∈ t) : get t f.path = (f.text, true) := by
  induction t generalizing q with
  | nil => cases hf
  | cons g t ih =>
    simp only [go, Bool.and_eq_true] at h
    rw [get]
    by_cases hg : g.path = f.path
    · rw [if_pos hg]
      rcases List.mem_cons.1 hf with rfl | hf
      · rfl
      · have := (go_above h.2 f hf).1
        exact absurd hg (lt_ne this)
    · rw [if_neg hg]
      rcases List.mem_cons.1 hf with rfl | hf
      · exact absurd rfl hg
      · exact ih h.2 hf
theorem get_same {q r : Option Bs} {t u : List Fl} (h : go q t = true) (h' : go r u = true) {p : Bs} (hm : ∀ f, f.path = p → (f ∈ t ↔ f ∈ u)) : get t p = get u p := by
  by_cases hx : ∃ f ∈ t, f.path = p
  · obtain ⟨f, hf, e⟩ := hx
    subst e
    rw [get_is h hf, get_is h' ((hm f rfl).1 hf)]
  · have hn : ∀ f ∈ t, f.path ≠ p := fun f hf e => hx ⟨f, hf, e⟩
    rw [get_none hn, get_none fun f hf e => hn f ((hm f e).2 hf) e]
end Go.Proofs.Ytghnieddokhagaa.Tr
namespace Go.Proofs.Ytghnieddokhagaa.Tr
open Go

theorem drop_le (t : List Fl) (p : Bs) : (drop t p).length ≤ t.length := List.length_filter_le _ _
theorem put_ok {t : List Fl} {f : Fl} (hl : t.length < 1000) (hc : can f.path = true) (hf : f.text.length ≤ 65536) : put t f = (ins f (drop t f.path), 0) := by
  have := drop_le t f.path
  unfold put
  rw [if_neg (by rw [hc]; decide), if_neg (by omega)]
theorem mem_put {t : List Fl} {f x : Fl} : x ∈ ins f (drop t f.path) ↔ x = f ∨ (x ∈ t ∧ x.path ≠ f.path) := by rw [mem_ins, mem_drop]
theorem right_go {t : List Fl} (h : right t = true) : go none t = true ∧ t.length ≤ 1000 := by
  unfold right at h
  rw [Bool.and_eq_true, decide_eq_true_eq] at h
  exact h
theorem right_of {t : List Fl} (h : go none t = true) (hl : t.length ≤ 1000) : right t = true := by
  unfold right
  rw [h, decide_eq_true hl]; rfl
theorem go_put {t : List Fl} {f : Fl} (h : go none t = true) (hc : can f.path = true) (hf : f.text.length ≤ 65536) : go none (ins f (drop t f.path)) = true :=
  go_ins hc hf (go_drop _ h) rfl (drop_not t f.path)
theorem put_len (t : List Fl) (f : Fl) : (ins f (drop t f.path)).length ≤ t.length + 1 := by
  have := drop_le t f.path
  rw [ins_len]; omega
/-- dropped again, what was put is gone -/
theorem drop_put {t : List Fl} {f : Fl} (h : go none t = true) (hc : can f.path = true) (hf : f.text.length ≤ 65536) : drop (ins f (drop t f.path)) f.path = drop t f.path := by
  refine go_ext (go_drop _ (go_put h hc hf)) (go_drop _ h) fun x => ?_
  rw [mem_drop, mem_put, mem_drop]
  constructor
  · rintro ⟨rfl | h, h'⟩
    · exact absurd rfl h'
    · exact h
  · exact fun h => ⟨.inr h, h.2⟩
structure Puts (t : List Fl) (f g : Fl) (p : Bs) : Prop where
  e1 : put t f = (ins f (drop t f.path), 0)
  e2 : put (ins f (drop t f.path)) g = (ins g (drop (ins f (drop t f.path)) g.path), 0)
  e3 : put t g = (ins g (drop t g.path), 0)
  e4 : put (ins g (drop t g.path)) f = (ins g (drop (ins f (drop t f.path)) g.path), 0)
  ok : right (ins g (drop (ins f (drop t f.path)) g.path)) = true
  got : get (ins g (drop (ins f (drop t f.path)) g.path)) f.path = (f.text, true)
  same : p = f.path ∨ get t p = get (ins f (drop t f.path)) p
  gone : drop (ins f (drop t f.path)) f.path = drop t f.path
  one : (ins f (drop t f.path)).length = (drop t f.path).length + 1
  not : get (drop t f.path) f.path = ([], false)
theorem puts_any {t : List Fl} {f g : Fl} (p : Bs) (ht : right t = true) (hl : t.length ≤ 12) (cf : can f.path = true) (cg : can g.path = true) (lf : f.text.length ≤ 65536) (lg : g.text.length ≤ 65536) (hne : f.path ≠ g.path) : Puts t f g p := by
  obtain ⟨h, _⟩ := right_go ht
  have h1 := go_put h cf lf
  have h2 := go_put h cg lg
  have h3 := go_put h1 cg lg
  have h4 := go_put h2 cf lf
  have k1 := put_len t f
  have k2 := put_len t g
  have k3 := put_len (ins f (drop t f.path)) g
  have e : ins f (drop (ins g (drop t g.path)) f.path) = ins g (drop (ins f (drop t f.path)) g.path) := by
    refine go_ext h4 h3 fun x => ?_
    rw [mem_put, mem_put, mem_put, mem_put]
    constructor
    · rintro (rfl | ⟨rfl | ⟨hx, hg⟩, hf⟩)
      · exact .inr ⟨.inl rfl, hne⟩
      · exact .inl rfl
      · exact .inr ⟨.inr ⟨hx, hf⟩, hg⟩
    · rintro (rfl | ⟨rfl | ⟨hx, hf⟩, hg⟩)
      · exact .inr ⟨.inl rfl, hne.symm⟩
      · exact .inl rfl
      · exact .inr ⟨.inr ⟨hx, hg⟩, hf⟩
  refine ⟨put_ok (by omega) cf lf, put_ok (by omega) cg lg, put_ok (by omega) cg lg, ?_, right_of h3 (by omega), ?_, ?_, drop_put h cf lf, ins_len _ _, get_none (drop_not t f.path)⟩
  · rw [put_ok (by omega) cf lf, e]
  · exact get_is h3 (mem_put.2 (.inr ⟨mem_put.2 (.inl rfl), hne⟩))
  · by_cases hp : p = f.path
    · exact .inl hp
    · refine .inr (get_same h h1 fun x hx => ?_)
      rw [mem_put]
      constructor
      · exact fun h => .inr ⟨h, by rw [hx]; exact hp⟩
      · rintro (rfl | h)
        · exact absurd hx.symm hp
        · exact h.1
theorem drops_any {t : List Fl} {f : Fl} (ht : right t = true) (hl : t.length ≤ 12) (cf : can f.path = true) (lf : f.text.length ≤ 65536) :
    put t f = (ins f (drop t f.path), 0) ∧ drop (ins f (drop t f.path)) f.path = drop t f.path ∧ (drop t f.path).length < (ins f (drop t f.path)).length ∧ right (drop t f.path) = true ∧ ((drop t f.path).length < t.length ∨ drop t f.path = t) := by
  obtain ⟨h, _⟩ := right_go ht
  have := drop_le t f.path
  refine ⟨put_ok (by omega) cf lf, drop_put h cf lf, by rw [ins_len]; omega, right_of (go_drop _ h) (by omega), ?_⟩
  by_cases hx : (drop t f.path).length < t.length
  · exact .inl hx
  · exact .inr (List.filter_eq_self.2 (List.length_filter_eq_length_iff.1 (by unfold drop at *; omega)))
end Go.Proofs.Ytghnieddokhagaa.Tr
namespace Go.Proofs.Ytghnieddokhagaa.Tr
open Go

/-- paths that rise, behind one -/
def asc : Option Bs → List Bs → Bool
  | _, [] => true
  | p, q :: l => above p q && asc (some q) l
/-- a path among others -/
def insP (p : Bs) : List Bs → List Bs
  | [] => [p]
  | q :: l => if p = q then q :: l else if lt p q then p :: q :: l else q :: insP p l
/-- the same, as it is done one behind the other -/
def insR (p : Bs) : Bool → List Bs → List Bs
  | d, [] => if d then [] else [p]
  | d, q :: l => if !(d || q == p) && lt p q then p :: q :: insR p true l else q :: insR p (d || q == p) l
theorem insR_done (p : Bs) : ∀ l : List Bs, insR p true l = l
  | [] => rfl
  | q :: l => by rw [insR, Bool.true_or, insR_done p l]; rfl
theorem insR_is (p : Bs) : ∀ l : List Bs, insR p false l = insP p l
  | [] => rfl
  | q :: l => by
    rw [insR, insP, Bool.false_or]
    by_cases h : p = q
    · subst h
      rw [if_pos rfl, beq_self_eq_true, insR_done]; rfl
    · have hb : (q == p) = false := by rw [beq_eq_false_iff_ne]; exact fun e => h e.symm
      rw [if_neg h, hb, Bool.not_false, Bool.true_and]
      split
      · rw [insR_done]
      · rw [insR_is p l]
theorem mem_insP {p x : Bs} : ∀ {l : List Bs}, x ∈ insP p l ↔ x = p ∨ x ∈ l
  | [] => by simp [insP]
  | q :: l => by
    have ih := mem_insP (p := p) (x := x) (l := l)
    rw [insP]
    split
    · next h =>
      subst h
      rw [List.mem_cons]
      constructor
      · exact fun h => .inr h
      · rintro (h | h)
        · exact .inl h
        · exact h
    · split
      · rw [List.mem_cons]
      · rw [List.mem_cons, ih, List.mem_cons]
        constructor
        · rintro (h | h | h)
          · exact .inr (.inl h)
          · exact .inl h
          · exact .inr (.inr h)
        · rintro (h | h | h)
          · exact .inr (.inl h)
          · exact .inl h
          · exact .inr (.inr h)
theorem asc_insP (p : Bs) : ∀ {q : Option Bs} {l : List Bs}, asc q l = true → above q p = true → asc q (insP p l) = true
  | q, [], _, h => by simp [insP, asc, h]
  | q, r :: l, h, hp => by
    have h0 := h
    simp only [asc, Bool.and_eq_true] at h
    rw [insP]
    split
    · exact h0
    · next hne =>
      split
      · next hl =>
        simp only [asc, Bool.and_eq_true]
        exact ⟨hp, hl, h.2⟩
      · next hl =>
        simp only [asc, Bool.and_eq_true]
        refine ⟨h.1, asc_insP p h.2 ?_⟩
        show lt r p = true
        rcases lt_tri p r with h1 | h1 | h1
        · exact absurd h1 hl
        · exact absurd h1 hne
        · exact h1
theorem insP_len (p : Bs) : ∀ l : List Bs, (insP p l).length ≤ l.length + 1
  | [] => Nat.le_refl _
  | q :: l => by
    have := insP_len p l
    rw [insP]
    split
    · simp
    · split
      · simp
      · simp only [List.length_cons]; omega
theorem asc_above : ∀ {q : Option Bs} {l : List Bs}, asc q l = true → ∀ p ∈ l, above q p = true
  | _, [], _, p, hp => by cases hp
  | q, r :: l, h, p, hp => by
    simp only [asc, Bool.and_eq_true] at h
    rcases List.mem_cons.1 hp with rfl | hp
    · exact h.1
    · exact above_trans h.1 (asc_above h.2 p hp)
theorem asc_ext : ∀ {q r : Option Bs} {l m : List Bs}, asc q l = true → asc r m = true → (∀ p, p ∈ l ↔ p ∈ m) → l = m
  | _, _, [], [], _, _, _ => rfl
  | _, _, [], p :: m, _, _, h => by have := (h p).2 (by simp); cases this
  | _, _, p :: l, [], _, _, h => by have := (h p).1 (by simp); cases this
  | q, r, x :: l, y :: m, h1, h2, h => by
    simp only [asc, Bool.and_eq_true] at h1 h2
    have a1 := asc_above h1.2
    have a2 := asc_above h2.2
    have e : x = y := by
      rcases List.mem_cons.1 ((h x).1 (by simp)) with h' | h'
      · exact h'
      · rcases List.mem_cons.1 ((h y).2 (by simp)) with h'' | h''
        · exact h''.symm
        · have := lt_trans (a1 y h'') (a2 x h')
          rw [lt_irr] at this; cases this
    subst e
    congr 1
    refine asc_ext h1.2 h2.2 fun z => ⟨fun hz => ?_, fun hz => ?_⟩
    · rcases List.mem_cons.1 ((h z).1 (by simp [hz])) with h' | h'
      · subst h'; have := a1 z hz; rw [show above (some z) z = lt z z from rfl, lt_irr] at this; cases this
      · exact h'
    · rcases List.mem_cons.1 ((h z).2 (by simp [hz])) with h' | h'
      · subst h'; have := a2 z hz; rw [show above (some z) z = lt z z from rfl, lt_irr] at this; cases this
      · exact h'
theorem asc_weak {q r : Option Bs} {l : List Bs} (h : asc q l = true) (hw : ∀ p ∈ l, above r p = true) : asc r l = true := by
  cases l with
  | nil => rfl
  | cons p l =>
    simp only [asc, Bool.and_eq_true] at h ⊢
    exact ⟨hw p (by simp), h.2⟩
theorem asc_filter (f : Bs → Bool) : ∀ {q : Option Bs} {l : List Bs}, asc q l = true → asc q (l.filter f) = true
  | _, [], _ => rfl
  | q, p :: l, h => by
    simp only [asc, Bool.and_eq_true] at h
    have ih := asc_filter f h.2
    rw [List.filter_cons]
    split
    · simp only [asc, Bool.and_eq_true]; exact ⟨h.1, ih⟩
    · exact asc_weak ih fun x hx => above_trans h.1 (asc_above ih x hx)
/-- more paths among others -/
def addP (l : List Bs) (t : List Fl) : List Bs := t.foldl (fun l f => insP f.path l) l
/-- the paths of two trees -/
def both (a b : List Fl) : List Bs := addP (addP [] a) b
theorem mem_addP {x : Bs} : ∀ {t : List Fl} {l : List Bs}, x ∈ addP l t ↔ (∃ f ∈ t, f.path = x) ∨ x ∈ l
  | [], l => by simp [addP]
  | f :: t, l => by
    have ih := mem_addP (x := x) (t := t) (l := insP f.path l)
    unfold addP at ih ⊢
    rw [List.foldl_cons, ih, mem_insP]
    constructor
    · rintro (⟨g, hg, e⟩ | h | h)
      · exact .inl ⟨g, by simp [hg], e⟩
      · exact .inl ⟨f, by simp, h.symm⟩
      · exact .inr h
    · rintro (⟨g, hg, e⟩ | h)
      · rcases List.mem_cons.1 hg with rfl | hg
        · exact .inr (.inl e.symm)
        · exact .inl ⟨g, hg, e⟩
      · exact .inr (.inr h)
theorem asc_addP : ∀ {t : List Fl} {l : List Bs}, asc none l = true → asc none (addP l t) = true
  | [], _, h => h
  | f :: t, l, h => by
    unfold addP
    rw [List.foldl_cons]
    exact asc_addP (t := t) (asc_insP f.path h rfl)
theorem addP_len : ∀ {t : List Fl} {l : List Bs}, (addP l t).length ≤ l.length + t.length
  | [], _ => Nat.le_refl _
  | f :: t, l => by
    have h1 := addP_len (t := t) (l := insP f.path l)
    have h2 := insP_len f.path l
    unfold addP at h1 ⊢
    rw [List.foldl_cons, List.length_cons]; omega
theorem mem_both {a b : List Fl} {x : Bs} : x ∈ both a b ↔ (∃ f ∈ a, f.path = x) ∨ (∃ f ∈ b, f.path = x) := by
  unfold both
  rw [mem_addP, mem_addP]
  constructor
  · rintro (h | h | h)
    · exact .inr h
    · exact .inl h
    · cases h
  · rintro (h | h)
    · exact .inr (.inl h)
    · exact .inl h
theorem asc_both (a b : List Fl) : asc none (both a b) = true := asc_addP (asc_addP rfl)
theorem both_len (a b : List Fl) : (both a b).length ≤ a.length + b.length := by
  have h1 := addP_len (t := b) (l := addP [] a)
  have h2 := addP_len (t := a) (l := [])
  unfold both
  simp only [List.length_nil] at h2
  omega
theorem both_sw (a b : List Fl) : both b a = both a b := asc_ext (asc_both b a) (asc_both a b) fun p => by
  rw [mem_both, mem_both]
  exact ⟨fun h => h.symm, fun h => h.symm⟩

section
variable (mg : Bs → Bs → Bs → Bs × Nat)
/-- what becomes of a path: a text, whether there is one, whether it clashes -/
def one (o a b : List Fl) (p : Bs) : Bs × Bool × Bool :=
  if get a p = get b p ∨ get b p = get o p then ((get a p).1, (get a p).2, false)
  else if get a p = get o p then ((get b p).1, (get b p).2, false)
  else if (get a p).2 = false then ((get b p).1, true, true)
  else if (get b p).2 = false then ((get a p).1, true, true)
  else if 65536 < (mg (get o p).1 (get a p).1 (get b p).1).1.length then (if lt (get a p).1 (get b p).1 then (get b p).1 else (get a p).1, true, true)
  else ((mg (get o p).1 (get a p).1 (get b p).1).1, true, decide (0 < (mg (get o p).1 (get a p).1 (get b p).1).2))
/-- the files of paths -/
def outs (h : Bs → Bs × Bool × Bool) : List Bs → List Fl
  | [] => []
  | p :: l => if (h p).2.1 then ⟨p, (h p).1⟩ :: outs h l else outs h l
/-- the paths that clash -/
def odds (h : Bs → Bs × Bool × Bool) (l : List Bs) : List Bs := l.filter fun p => (h p).2.2
def trees (o a b : List Fl) : List Fl × List Bs := ((outs (one mg o a b) (both a b)).take 1000, odds (one mg o a b) (both a b))
end
theorem outs_len (h : Bs → Bs × Bool × Bool) : ∀ l : List Bs, (outs h l).length ≤ l.length
  | [] => Nat.le_refl _
  | p :: l => by
    have := outs_len h l
    rw [outs]
    split <;> simp only [List.length_cons] <;> omega
theorem mem_outs {h : Bs → Bs × Bool × Bool} {f : Fl} : ∀ {l : List Bs}, f ∈ outs h l ↔ f.path ∈ l ∧ (h f.path).2.1 = true ∧ f.text = (h f.path).1
  | [] => by simp [outs]
  | p :: l => by
    have ih := mem_outs (h := h) (f := f) (l := l)
    rw [outs]
    obtain ⟨q, x⟩ := f
    by_cases hp : (h p).2.1 = true
    · rw [if_pos hp, List.mem_cons, ih, List.mem_cons]
      constructor
      · rintro (e | ⟨h1, h2⟩)
        · injection e with e1 e2
          subst e1 e2
          exact ⟨.inl rfl, hp, rfl⟩
        · exact ⟨.inr h1, h2⟩
      · rintro ⟨h1 | h1, h2, h3⟩
        · left
          simp only at h1 h3
          subst h1
          rw [h3]
        · exact .inr ⟨h1, h2, h3⟩
    · rw [if_neg hp, ih, List.mem_cons]
      constructor
      · rintro ⟨h1, h2⟩
        exact ⟨.inr h1, h2⟩
      · rintro ⟨h1 | h1, h2, h3⟩
        · simp only at h1 h2
          rw [h1] at h2
          exact absurd h2 hp
        · exact ⟨h1, h2, h3⟩
/-- files of rising paths are right -/
theorem go_outs {h : Bs → Bs × Bool × Bool} : ∀ {q : Option Bs} {l : List Bs}, asc q l = true → (∀ p ∈ l, can p = true ∧ (h p).1.length ≤ 65536) → go q (outs h l) = true
  | _, [], _, _ => rfl
  | q, p :: l, ha, hc => by
    simp only [asc, Bool.and_eq_true] at ha
    have ih := go_outs (h := h) ha.2 fun x hx => hc x (by simp [hx])
    have hp := hc p (by simp)
    rw [outs]
    split
    · simp only [go, Bool.and_eq_true, decide_eq_true_eq]
      exact ⟨⟨⟨hp.1, hp.2⟩, ha.1⟩, ih⟩
    · exact go_weak ih fun x hx => above_trans ha.1 hx
theorem get_outs {h : Bs → Bs × Bool × Bool} {q : Option Bs} {l : List Bs} (hg : go q (outs h l) = true) {p : Bs} (hp : p ∈ l) (ht : (h p).2.1 = true) : get (outs h l) p = ((h p).1, true) :=
  get_is (f := ⟨p, (h p).1⟩) hg (mem_outs.2 ⟨hp, ht, rfl⟩)
theorem get_short {q : Option Bs} {t : List Fl} (h : go q t = true) (p : Bs) : (get t p).1.length ≤ 65536 := by
  cases hb : (get t p).2 with
  | true =>
    obtain ⟨f, hf, _, e⟩ := get_some hb
    rw [e]; exact (go_above h f hf).2.2
  | false =>
    have : ∀ (t : List Fl), (get t p).2 = false → (get t p).1 = [] := by
      intro t
      induction t with
      | nil => intro _; rfl
      | cons f t ih =>
        rw [get]
        split
        · intro h; cases h
        · exact ih
    rw [this t hb]; simp
theorem get_empty : ∀ {t : List Fl} {p : Bs}, (get t p).2 = false → get t p = ([], false)
  | [], _, _ => rfl
  | f :: t, p, h => by
    rw [get] at h ⊢
    split at h
    · cases h
    · next hf => rw [if_neg hf]; exact get_empty h
theorem one_short (mg : Bs → Bs → Bs → Bs × Nat) {o a b : List Fl} (ha : go none a = true) (hb : go none b = true) (p : Bs) : (one mg o a b p).1.length ≤ 65536 := by
  have h1 := get_short ha p
  have h2 := get_short hb p
  unfold one
  split
  · exact h1
  · split
    · exact h2
    · split
      · exact h2
      · split
        · exact h1
        · split
          · simp only []
            split
            · exact h2
            · exact h1
          · next h => simp only []; omega
theorem one_both (mg : Bs → Bs → Bs → Bs × Nat) {o a b : List Fl} {p : Bs} (ha : (get a p).2 = true) (hb : (get b p).2 = true) : (one mg o a b p).2.1 = true := by
  unfold one
  split
  · exact ha
  · split
    · exact hb
    · split
      · rfl
      · split
        · rfl
        · split <;> rfl
theorem one_clash (mg : Bs → Bs → Bs → Bs × Nat) {o a b : List Fl} {p : Bs} (h : (one mg o a b p).2.2 = true) : (one mg o a b p).2.1 = true := by
  unfold one at h ⊢
  split at h
  · cases h
  · next h1 =>
    rw [if_neg h1]
    split at h
    · cases h
    · next h2 =>
      rw [if_neg h2]
      split
      · rfl
      · split
        · rfl
        · split <;> rfl
theorem can_both {a b : List Fl} (ha : go none a = true) (hb : go none b = true) {p : Bs} (hp : p ∈ both a b) : can p = true := by
  rcases mem_both.1 hp with ⟨f, hf, rfl⟩ | ⟨f, hf, rfl⟩
  · exact (go_above ha f hf).2.1
  · exact (go_above hb f hf).2.1
/-- P11.2: the tree is right -/
theorem trees_go (mg : Bs → Bs → Bs → Bs × Nat) {o a b : List Fl} (ha : go none a = true) (hb : go none b = true) : go none (outs (one mg o a b) (both a b)) = true :=
  go_outs (asc_both a b) fun _ hp => ⟨can_both ha hb hp, one_short mg ha hb _⟩
theorem trees_is (mg : Bs → Bs → Bs → Bs × Nat) (o : List Fl) {a b : List Fl} (hl : a.length + b.length ≤ 1000) : trees mg o a b = (outs (one mg o a b) (both a b), odds (one mg o a b) (both a b)) := by
  unfold trees
  rw [List.take_of_length_le]
  have h1 := outs_len (one mg o a b) (both a b)
  have h2 := both_len a b
  omega
/-- what one side alone changed is taken -/
theorem outs_all {h : Bs → Bs × Bool × Bool} {x : List Fl} {l : List Bs} (hx : go none x = true) (hl : asc none l = true) (hc : ∀ p ∈ l, can p = true) (hh : ∀ p, h p = ((get x p).1, (get x p).2, false)) (hm : ∀ f ∈ x, f.path ∈ l) : outs h l = x ∧ odds h l = [] := by
  have hg : go none (outs h l) = true := go_outs hl fun p hp => ⟨hc p hp, by rw [hh p]; exact get_short hx p⟩
  refine ⟨go_ext hg hx fun f => ?_, ?_⟩
  · rw [mem_outs, hh f.path]
    constructor
    · rintro ⟨_, h2, h3⟩
      obtain ⟨g, hg, e, ht⟩ := get_some h2
      simp only at h3
      rw [ht] at h3
      obtain ⟨q, y⟩ := f
      obtain ⟨q', y'⟩ := g
      simp only at e h3
      subst e h3
      exact hg
    · intro hf
      rw [get_is hx hf]
      exact ⟨hm f hf, rfl, rfl⟩
  · unfold odds
    rw [List.filter_eq_nil_iff]
    intro p _
    rw [hh p]
    simp
theorem one_left (mg : Bs → Bs → Bs → Bs × Nat) (o a : List Fl) (p : Bs) : one mg o a o p = ((get a p).1, (get a p).2, false) := by
  unfold one
  rw [if_pos (.inr rfl)]
theorem one_right (mg : Bs → Bs → Bs → Bs × Nat) (o a : List Fl) (p : Bs) : one mg o o a p = ((get a p).1, (get a p).2, false) := by
  unfold one
  by_cases h : get o p = get a p ∨ get a p = get o p
  · rw [if_pos h]
    have e : get o p = get a p := h.elim id Eq.symm
    rw [e]
  · rw [if_neg h, if_pos rfl]
theorem one_alike (mg : Bs → Bs → Bs → Bs × Nat) (o a : List Fl) (p : Bs) : one mg o a a p = ((get a p).1, (get a p).2, false) := by
  unfold one
  rw [if_pos (.inl rfl)]
/-- P11.2: with the sides changed -/
structure Sym (mg : Bs → Bs → Bs → Bs × Nat) : Prop where
  n : ∀ o a b, (mg o b a).2 = (mg o a b).2
  len : ∀ o a b, (mg o b a).1.length = (mg o a b).1.length
  txt : ∀ o a b, (mg o a b).2 = 0 → (mg o b a).1 = (mg o a b).1
theorem one_sw {mg : Bs → Bs → Bs → Bs × Nat} (hs : Sym mg) (o a b : List Fl) (p : Bs) : (one mg o b a p).2 = (one mg o a b p).2 ∧ ((one mg o a b p).2.2 = false → (one mg o b a p).1 = (one mg o a b p).1) := by
  by_cases e1 : get a p = get b p
  · have l1 : one mg o a b p = ((get a p).1, (get a p).2, false) := by unfold one; rw [if_pos (.inl e1)]
    have l2 : one mg o b a p = ((get b p).1, (get b p).2, false) := by unfold one; rw [if_pos (.inl e1.symm)]
    rw [l1, l2, e1]
    exact ⟨rfl, fun _ => rfl⟩
  · by_cases e2 : get b p = get o p
    · have e3 : ¬ get a p = get o p := fun h => e1 (h.trans e2.symm)
      have l1 : one mg o a b p = ((get a p).1, (get a p).2, false) := by unfold one; rw [if_pos (.inr e2)]
      have l2 : one mg o b a p = ((get a p).1, (get a p).2, false) := by unfold one; rw [if_neg (fun h => h.elim (fun h => e1 h.symm) e3), if_pos e2]
      rw [l1, l2]
      exact ⟨rfl, fun _ => rfl⟩
    · by_cases e3 : get a p = get o p
      · have l1 : one mg o a b p = ((get b p).1, (get b p).2, false) := by unfold one; rw [if_neg (fun h => h.elim e1 e2), if_pos e3]
        have l2 : one mg o b a p = ((get b p).1, (get b p).2, false) := by unfold one; rw [if_pos (.inr e3)]
        rw [l1, l2]
        exact ⟨rfl, fun _ => rfl⟩
      · have n1 : ¬ (get a p = get b p ∨ get b p = get o p) := fun h => h.elim e1 e2
        have n2 : ¬ (get b p = get a p ∨ get a p = get o p) := fun h => h.elim (fun h => e1 h.symm) e3
        by_cases ha : (get a p).2 = false
        · by_cases hb : (get b p).2 = false
          · exact absurd ((get_empty ha).trans (get_empty hb).symm) e1
          · have l1 : one mg o a b p = ((get b p).1, true, true) := by unfold one; rw [if_neg n1, if_neg e3, if_pos ha]
            have l2 : one mg o b a p = ((get b p).1, true, true) := by unfold one; rw [if_neg n2, if_neg e2, if_neg hb, if_pos ha]
            rw [l1, l2]
            exact ⟨rfl, fun _ => rfl⟩
        · by_cases hb : (get b p).2 = false
          · have l1 : one mg o a b p = ((get a p).1, true, true) := by unfold one; rw [if_neg n1, if_neg e3, if_neg ha, if_pos hb]
            have l2 : one mg o b a p = ((get a p).1, true, true) := by unfold one; rw [if_neg n2, if_neg e2, if_pos hb]
            rw [l1, l2]
            exact ⟨rfl, fun _ => rfl⟩
          · by_cases hl : 65536 < (mg (get o p).1 (get a p).1 (get b p).1).1.length
            · have l1 : (one mg o a b p).2 = (true, true) := by unfold one; rw [if_neg n1, if_neg e3, if_neg ha, if_neg hb, if_pos hl]
              have l2 : (one mg o b a p).2 = (true, true) := by unfold one; rw [if_neg n2, if_neg e2, if_neg hb, if_neg ha, if_pos (by rw [hs.len]; exact hl)]
              rw [l1, l2]
              exact ⟨rfl, fun h => by cases h⟩
            · have l1 : one mg o a b p = ((mg (get o p).1 (get a p).1 (get b p).1).1, true, decide (0 < (mg (get o p).1 (get a p).1 (get b p).1).2)) := by unfold one; rw [if_neg n1, if_neg e3, if_neg ha, if_neg hb, if_neg hl]
              have l2 : one mg o b a p = ((mg (get o p).1 (get b p).1 (get a p).1).1, true, decide (0 < (mg (get o p).1 (get b p).1 (get a p).1).2)) := by unfold one; rw [if_neg n2, if_neg e2, if_neg hb, if_neg ha, if_neg (by rw [hs.len]; exact hl)]
              rw [l1, l2, hs.n]
              refine ⟨rfl, fun h => hs.txt _ _ _ ?_⟩
              simp only [decide_eq_false_iff_not] at h
              omega
theorem outs_sw {h k : Bs → Bs × Bool × Bool} (he : ∀ p, (k p).2 = (h p).2 ∧ ((h p).2.2 = false → (k p).1 = (h p).1)) : ∀ l : List Bs, (outs k l).length = (outs h l).length ∧ ∀ (i : Nat) (f g : Fl), (outs h l)[i]? = some f → (outs k l)[i]? = some g → f.path = g.path ∧ f.path ∈ l ∧ ((h f.path).2.2 = true ∨ f.text = g.text)
  | [] => ⟨rfl, fun i f g h => by simp [outs] at h⟩
  | p :: l => by
    have ih := outs_sw he l
    obtain ⟨h1, h2⟩ := he p
    rw [outs, outs, h1]
    by_cases hp : (h p).2.1 = true
    · rw [if_pos hp, if_pos hp]
      refine ⟨by rw [List.length_cons, List.length_cons, ih.1], fun i f g hf hg => ?_⟩
      rcases i with _ | i
      · obtain rfl := Option.some.inj hf
        obtain rfl := Option.some.inj hg
        refine ⟨rfl, by simp, ?_⟩
        cases hc : (h p).2.2 with
        | true => exact .inl rfl
        | false => exact .inr (h2 hc).symm
      · obtain ⟨k1, k2, k3⟩ := ih.2 i f g hf hg
        exact ⟨k1, by simp [k2], k3⟩
    · rw [if_neg hp, if_neg hp]
      refine ⟨ih.1, fun i f g hf hg => ?_⟩
      obtain ⟨k1, k2, k3⟩ := ih.2 i f g hf hg
      exact ⟨k1, by simp [k2], k3⟩
theorem odds_sw {h k : Bs → Bs × Bool × Bool} (he : ∀ p, (k p).2 = (h p).2 ∧ ((h p).2.2 = false → (k p).1 = (h p).1)) (l : List Bs) : odds k l = odds h l := by
  unfold odds
  congr 1
  funext p
  rw [(he p).1]
end Go.Proofs.Ytghnieddokhagaa.Tr
namespace Go.Proofs.Ytghnieddokhagaa.Kt
open Go Go.RowKit

theorem run_append_nothing {P : Program} {w : World} {t ty e : TypeId} {i : TypeInfo} (ht : P.underlying t = some (.slice e)) (hi : P.info? e = some i) {B size : Nat}
    {v : Value} {n : Nat} {xs : List Value} (hown : w.ownsRow B e size v n xs) (c : Nat) : (Builtin.append_ #[t, t] ty #[v, .slice none 0 c]).run P w = .ok v w := by
  rcases hown.2 with ⟨rfl, rfl⟩ | ⟨g, cap, cur, rfl, _, _, hnc, _⟩
  · simp [Builtin.append_, run_underlying ht, sizeOf, typeInfo, hi, Builtin.lenOf, Builtin.firstCells]
  · simp [Builtin.append_, run_underlying ht, sizeOf, typeInfo, hi, Builtin.lenOf, Builtin.firstCells, hnc, storeCells]

theorem wp_cat {P : Program} {o : Oper} {a : Act} {K : Act → World → Prop} {Q : Exit → Act → World → Prop} {w : World} {E : TypeId}
    (s x : Operand) (t : TypeId) (ho : o.op = .call { callee := .builtin .append, args := #[s, x], argTypes := #[t, t] })
    (ht : P.underlying t = some (.slice E)) (hi : (P.info? E).map (fun i => (i.zero, i.size, i.bytes)) = some (some (.int .u8 0), 1, 1))
    (B : Nat) (w0 : World) (v : Value) (l bs : List UInt8) (Pb : Nat → Prop) (A : Option Addr) (c : Nat) (hs : a.eval s = v) (hx : a.eval x = .slice A bs.length c)
    (hown : Own w B E v l) (hsl : Sl w Pb A c bs) (hlen : l.length + bs.length ≤ 70368744177664) (hb : Below B w0 w) (hbase : B ≤ w.heap.size)
    (h : ∀ v' w', Own w' B E v' (l ++ bs) → Below B w0 w' → w.grownBy w' v.ownBlock → K (a.put o.dst v') w') : o.wp P a w K Q := by
  obtain ⟨i0, hi0, hz0, hz1, hz2⟩ := info_parts hi
  cases A with
  | none =>
    have h0 : bs = [] := by
      cases bs with
      | nil => rfl
      | cons b r => obtain ⟨_, _, he, _⟩ := hsl.2 (by simp); cases he
    subst h0
    have hrun := run_append_nothing (P := P) (ty := o.type) ht hi0 hown c
    simp only [List.length_nil] at hx
    unfold Oper.wp execOp
    simp only [ho, resolve, invoke, builtin, Sem.run_bind, Sem.run_pure, Result.andThen_ok, List.map_toArray, List.map_cons, List.map_nil, hs, hx, hrun]
    exact h v w (by simpa using hown) hb (World.grownBy.refl _ _)
  | some ad =>
    refine wp_append_own _ s x t ho B E i0 (.int .u8 0) 1 1 ht hi0 hz0 hz1 hz2 rfl (by omega) v l.length (u8s l) hs hown ad bs.length c (u8s bs) hx (by simp [u8s_len])
      (fun j u hu => ?_) (u8s_one bs) (by unfold maxLen; omega) (by omega) hbase (fun v' w' h1 h2 _ => ?_)
    · have hj : j < bs.length := by have := (List.getElem?_eq_some_iff.1 hu).1; rwa [u8s_len] at this
      obtain ⟨b, k, he, _, hc⟩ := hsl.cells (by omega)
      injection he with he
      subst he
      rw [Addr.add_mid]
      exact hc j u hu
    · refine h v' w' ?_ (hb.grown h2 hbase fun k hk => (World.ownsRow.lt hown k hk).1) h2
      unfold Own
      rw [List.length_append, u8s_append]
      exact h1
theorem wpList_cat {P : Program} {ops : Array Oper} {rest : List Oper} {o : Oper} {a : Act} {Q : Exit → Act → World → Prop} {w : World} {E : TypeId}
    (hgd : o.guard = none) (s x : Operand) (t : TypeId) (ho : o.op = .call { callee := .builtin .append, args := #[s, x], argTypes := #[t, t] })
    (ht : P.underlying t = some (.slice E)) (hi : (P.info? E).map (fun i => (i.zero, i.size, i.bytes)) = some (some (.int .u8 0), 1, 1))
    (B : Nat) (w0 : World) (v : Value) (l bs : List UInt8) (Pb : Nat → Prop) (A : Option Addr) (c : Nat) (hs : a.eval s = v) (hx : a.eval x = .slice A bs.length c)
    (hown : Own w B E v l) (hsl : Sl w Pb A c bs) (hlen : l.length + bs.length ≤ 70368744177664) (hb : Below B w0 w) (hbase : B ≤ w.heap.size)
    (h : ∀ v' w', Own w' B E v' (l ++ bs) → Below B w0 w' → w.grownBy w' v.ownBlock → wpList P ops Q rest (a.put o.dst v') w') : wpList P ops Q (o :: rest) a w :=
  wpList_plain hgd fun _ hK => wp_cat s x t ho ht hi B w0 v l bs Pb A c hs hx hown hsl hlen hb hbase fun v' w' h1 h2 h3 => hK _ _ (h v' w' h1 h2 h3)
end Go.Proofs.Ytghnieddokhagaa.Kt
namespace Go.Proofs.Ytghnieddokhagaa.Lw
open Go Go.RowKit Go.WideShapes Go.ChangeShapes Go.ChangeAt Go.ChangeMaps Kt

/-- the slice '.slice A n c' reads as these values, which lie in a block of which P holds -/
def Vs (w : World) (P : Nat → Prop) (A : Option Addr) (c : Nat) (vs : List Value) : Prop :=
  vs.length ≤ c ∧ (0 < vs.length → ∃ b o, A = some ⟨b, o, none⟩ ∧ P b ∧ ∀ j v, vs[j]? = some v → w.cell? ⟨b, o + j, none⟩ = some v)
theorem Vs.move {w w' : World} {P : Nat → Prop} {A : Option Addr} {c : Nat} {vs : List Value} (h : Vs w P A c vs) (hk : ∀ b, P b → b < w.heap.size → w'.heap[b]? = w.heap[b]?) : Vs w' P A c vs :=
  ⟨h.1, fun hn => by
    obtain ⟨b, o, rfl, hp, hc⟩ := h.2 hn
    refine ⟨b, o, rfl, hp, fun j v hj => ?_⟩
    rw [World.cell?_of_block (w := w) (a := ⟨b, o + j, none⟩) (hk b hp (World.block_lt_of_cell? w ⟨b, o + j, none⟩ (hc j v hj)))]
    exact hc j v hj⟩
theorem Vs.below {w w' : World} {P : Nat → Prop} {A : Option Addr} {c : Nat} {vs : List Value} (h : Vs w P A c vs) (hb : Below w.heap.size w w') : Vs w' P A c vs := h.move fun b _ hlt => hb.block b hlt
def nums (k : IntKind) (l : List Int) : List Value := l.map (.int k)
def texts (l : List (List UInt8)) : List Value := l.map fun s => .string ⟨s.toArray⟩
theorem nums_len (k : IntKind) (l : List Int) : (nums k l).length = l.length := by simp [nums]
theorem texts_len (l : List (List UInt8)) : (texts l).length = l.length := by simp [texts]
theorem nums_at (k : IntKind) (l : List Int) (j : Nat) (h : j < l.length) : (nums k l)[j]? = some (.int k (l.getD j 0)) := by simp [nums, List.getElem?_eq_getElem h]
theorem texts_at (l : List (List UInt8)) (j : Nat) (h : j < l.length) : (texts l)[j]? = some (.string ⟨(l.getD j []).toArray⟩) := by simp [texts, List.getElem?_eq_getElem h]

section
variable {H : Type} {enc : TypeId × Value → H} {P : Program}
theorem open_nums {k : IntKind} {t e : TypeId} {W : World} {base : Nat} {v : Value} {d : DataW H} {ps : List MemPlace} (ht : P.underlying t = some (.slice e)) (he : P.underlying e = some (.int k)) (hc : P.cellsOf e = 1)
    (hval : Value.okWide P W .any base t v) (h : DataW.Trod enc P W 0 (fun _ => true) true t v d ps) :
    ∃ (l : List Int) (A : Option Addr) (c : Nat), v = .slice A l.length c ∧ (Vs W (fun _ => True) A c (nums k l) ∧ ∀ z ∈ l, (Lit.int k z).wf = true) ∧ l.length ≤ maxLen := by
  obtain ⟨a1, len, cap, rfl⟩ := okWide_slice ht hval
  obtain ⟨fuel, hf⟩ := h
  rcases open_ints ht he hc hf with ⟨hcs, hx⟩ | ⟨a, len', cap', zs, hcs, _, hl, hm, hz, hx, hcell, hwz⟩
  · simp [Value.cells] at hcs
    obtain ⟨rfl, rfl, rfl⟩ := hcs
    exact ⟨[], none, 0, rfl, ⟨⟨Nat.zero_le _, fun h => by simp [nums] at h⟩, fun z hz => by cases hz⟩, Nat.zero_le _⟩
  · simp [Value.cells] at hcs
    obtain ⟨rfl, rfl, rfl⟩ := hcs
    simp only [if_true] at hz
    have hlen : (zs.take len).length = len := by rw [List.length_take]; omega
    refine ⟨zs.take len, some a, cap, by rw [hlen], ⟨⟨by rw [nums_len, hlen]; exact hl, fun hn => ?_⟩, fun z hzm => hwz z (List.mem_of_mem_take hzm)⟩, by rw [hlen]; omega⟩
    rw [nums_len, hlen] at hn
    obtain ⟨ab, ao, spot⟩ := a
    have hspot : spot = none := by simpa [Addr.add] using World.cell?_spot (hcell 0 (by omega))
    subst hspot
    refine ⟨ab, ao, rfl, trivial, fun j v hj => ?_⟩
    have hjl : j < len := by have := (List.getElem?_eq_some_iff.1 hj).1; rw [nums_len, hlen] at this; exact this
    have hcj := hcell j (by omega)
    rw [Addr.add_mid] at hcj
    rw [hcj, ← hj, nums_at _ _ _ (by rw [hlen]; exact hjl)]
    simp [List.getD_eq_getElem?_getD, hjl]
theorem open_texts {t e : TypeId} {W : World} {base : Nat} {v : Value} {d : DataW H} {ps : List MemPlace} (ht : P.underlying t = some (.slice e)) (he : P.underlying e = some .string) (hc : P.cellsOf e = 1)
    (hval : Value.okWide P W .any base t v) (h : DataW.Trod enc P W 0 (fun _ => true) true t v d ps) :
    ∃ (l : List (List UInt8)) (A : Option Addr) (c : Nat), v = .slice A l.length c ∧ (Vs W (fun _ => True) A c (texts l) ∧ ∀ s ∈ l, s.length ≤ maxLen) ∧ l.length ≤ maxLen := by
  obtain ⟨a1, len, cap, rfl⟩ := okWide_slice ht hval
  obtain ⟨fuel, hf⟩ := h
  rcases open_strings ht he hc hf with ⟨hcs, hx⟩ | ⟨a, len', cap', zs, hcs, _, hl, hm, hz, hx, hcell, hwz⟩
  · simp [Value.cells] at hcs
    obtain ⟨rfl, rfl, rfl⟩ := hcs
    exact ⟨[], none, 0, rfl, ⟨⟨Nat.zero_le _, fun h => by simp [texts] at h⟩, fun z hz => by cases hz⟩, Nat.zero_le _⟩
  · simp [Value.cells] at hcs
    obtain ⟨rfl, rfl, rfl⟩ := hcs
    simp only [if_true] at hz
    have hlen : ((zs.take len).map fun s => s.data.toList).length = len := by rw [List.length_map, List.length_take]; omega
    refine ⟨(zs.take len).map fun s => s.data.toList, some a, cap, by rw [hlen], ⟨⟨by rw [texts_len, hlen]; exact hl, fun hn => ?_⟩, fun z hzm => ?_⟩, by rw [hlen]; omega⟩
    · rw [texts_len, hlen] at hn
      obtain ⟨ab, ao, spot⟩ := a
      have hspot : spot = none := by simpa [Addr.add] using World.cell?_spot (hcell 0 (by omega))
      subst hspot
      refine ⟨ab, ao, rfl, trivial, fun j v hj => ?_⟩
      have hjl : j < len := by have := (List.getElem?_eq_some_iff.1 hj).1; rw [texts_len, hlen] at this; exact this
      have hcj := hcell j (by omega)
      rw [Addr.add_mid] at hcj
      rw [hcj, ← hj, texts_at _ _ (by rw [hlen]; exact hjl)]
      simp [List.getD_eq_getElem?_getD, hjl, List.getElem?_eq_getElem (show j < zs.length by omega)]
    · obtain ⟨s, hs, rfl⟩ := List.mem_map.1 hzm
      rw [Array.length_toList]
      exact hwz s (List.mem_of_mem_take hs)
end
end Go.Proofs.Ytghnieddokhagaa.Lw
namespace Go.Proofs.Ytghnieddokhagaa.Kt
open Go Go.RowKit Lw

/-- a list of texts in a row of the call's own (E: the number of the type string) -/
def OwT (w : World) (B : Nat) (E : TypeId) (v : Value) (l : List (List UInt8)) : Prop := w.ownsRow B E 1 v l.length (texts l)
theorem texts_append (l r : List (List UInt8)) : texts (l ++ r) = texts l ++ texts r := by simp [texts]
theorem texts_one (l : List (List UInt8)) : ∀ v ∈ texts l, v.oneCell' = true := by
  intro v hv; simp only [texts, List.mem_map] at hv; obtain ⟨_, _, rfl⟩ := hv; rfl
section
variable {w w' : World} {B : Nat} {E : TypeId} {v : Value} {l : List (List UInt8)}
theorem OwT.nil (w : World) (B : Nat) (E : TypeId) : OwT w B E (.slice none 0 0) [] := World.ownsRow_nil w B E 1
theorem OwT.lit (w : World) (B : Nat) (E : TypeId) (l : List (List UInt8)) (c : Array Value) (hc : c = (texts l).toArray) (hB : B ≤ w.heap.size) (hl : l.length ≤ maxLen) :
    OwT (w.alloc (.cells c E)) B E (.slice (some ⟨w.heap.size, 0, none⟩) l.length l.length) l := by
  subst hc
  have := World.ownsRow_lit (e := E) (size := 1) (base := B) w (texts l).toArray l.length hB hl (by simp [texts_len])
  simpa [OwT] using this
theorem OwT.alloc (h : OwT w B E v l) (o : Obj) : OwT (w.alloc o) B E v l := World.ownsRow.alloc h o
theorem OwT.drew (h : OwT w B E v l) : OwT w.drew B E v l := h
theorem OwT.drewN (h : OwT w B E v l) (n : Nat) : OwT (w.drewN n) B E v l := h
theorem OwT.below (h : OwT w B E v l) {B' : Nat} (hb : Below B' w w') (hv : ∀ g, v.ownBlock = some g → g < B') : OwT w' B E v l := by
  refine ⟨h.1, ?_⟩
  rcases h.2 with ⟨h1, h2⟩ | ⟨g, cap, cur, hv', h1, h2, h3⟩
  · exact .inl ⟨h1, h2⟩
  · exact .inr ⟨g, cap, cur, hv', h1, (hb.block g (hv g (by rw [hv']; rfl))).trans h2, h3⟩
theorem OwT.kept (h : OwT w B E v l) (hb : Below w.heap.size w w') : OwT w' B E v l := h.below hb fun g hg => (World.ownsRow.lt h g hg).2
theorem OwT.vs (h : OwT w B E v l) : ∃ A c, v = .slice A l.length c ∧ Vs w (fun b => B ≤ b ∧ v.ownBlock = some b) A c (texts l) := by
  rcases h.2 with ⟨rfl, h0⟩ | ⟨g, cap, cur, rfl, hB, hg, hnc, hcm, hs, ht⟩
  · have e : l = [] := List.eq_nil_of_length_eq_zero h0
    subst e
    exact ⟨none, 0, rfl, Nat.le_refl _, fun h => by simp [texts] at h⟩
  · refine ⟨_, cap, rfl, by rw [texts_len]; exact hnc, fun _ => ⟨g, 0, rfl, ⟨hB, rfl⟩, fun j v hj => ?_⟩⟩
    have hlt : j < l.length := by have := (List.getElem?_eq_some_iff.1 hj).1; rwa [texts_len] at this
    have := World.ownsRow.cellAt (cap := cap) h j (by omega)
    rw [Nat.zero_add, this, hj]
end

theorem run_append_nothingT {P : Program} {w : World} {t ty e : TypeId} {i : TypeInfo} (ht : P.underlying t = some (.slice e)) (hi : P.info? e = some i) {B size : Nat}
    {v : Value} {n : Nat} {xs : List Value} (hown : w.ownsRow B e size v n xs) (c : Nat) : (Builtin.append_ #[t, t] ty #[v, .slice none 0 c]).run P w = .ok v w := by
  rcases hown.2 with ⟨rfl, rfl⟩ | ⟨g, cap, cur, rfl, _, _, hnc, _⟩
  · simp [Builtin.append_, run_underlying ht, sizeOf, typeInfo, hi, Builtin.lenOf, Builtin.firstCells]
  · simp [Builtin.append_, run_underlying ht, sizeOf, typeInfo, hi, Builtin.lenOf, Builtin.firstCells, hnc, storeCells]

/-- append(s, texts..) onto a row of texts of the call's own -/
theorem wp_catT {P : Program} {o : Oper} {a : Act} {K : Act → World → Prop} {Q : Exit → Act → World → Prop} {w : World} {E : TypeId}
    (s x : Operand) (t : TypeId) (ho : o.op = .call { callee := .builtin .append, args := #[s, x], argTypes := #[t, t] })
    (ht : P.underlying t = some (.slice E)) (hi : (P.info? E).map (fun i => (i.zero, i.size, i.bytes)) = some (some (.string ⟨#[]⟩), 1, 16))
    (B : Nat) (w0 : World) (v : Value) (l r : List (List UInt8)) (Pb : Nat → Prop) (A : Option Addr) (c : Nat) (hs : a.eval s = v) (hx : a.eval x = .slice A r.length c)
    (hown : OwT w B E v l) (hsl : Vs w Pb A c (texts r)) (hlen : l.length + r.length ≤ 4398046511104) (hb : Below B w0 w) (hbase : B ≤ w.heap.size)
    (h : ∀ v' w', OwT w' B E v' (l ++ r) → Below B w0 w' → w.grownBy w' v.ownBlock → K (a.put o.dst v') w') : o.wp P a w K Q := by
  obtain ⟨i0, hi0, hz0, hz1, hz2⟩ := info_parts hi
  cases A with
  | none =>
    have h0 : r = [] := by
      cases r with
      | nil => rfl
      | cons b r => obtain ⟨_, _, he, _⟩ := hsl.2 (by simp [texts]); cases he
    subst h0
    have hrun := run_append_nothingT (P := P) (ty := o.type) ht hi0 hown c
    simp only [List.length_nil] at hx
    unfold Oper.wp execOp
    simp only [ho, resolve, invoke, builtin, Sem.run_bind, Sem.run_pure, Result.andThen_ok, List.map_toArray, List.map_cons, List.map_nil, hs, hx, hrun]
    exact h v w (by simpa using hown) hb (World.grownBy.refl _ _)
  | some ad =>
    refine wp_append_own _ s x t ho B E i0 (.string ⟨#[]⟩) 1 16 ht hi0 hz0 hz1 hz2 rfl (by omega) v l.length (texts l) hs hown ad r.length c (texts r) hx (by simp [texts_len])
      (fun j u hu => ?_) (texts_one r) (by unfold maxLen; omega) (by omega) hbase (fun v' w' h1 h2 _ => ?_)
    · have hj : j < r.length := by have := (List.getElem?_eq_some_iff.1 hu).1; rwa [texts_len] at this
      obtain ⟨b, k, he, _, hc⟩ := hsl.2 (by rw [texts_len]; omega)
      injection he with he
      subst he
      rw [Addr.add_mid]
      exact hc j u hu
    · refine h v' w' ?_ (hb.grown h2 hbase fun k hk => (World.ownsRow.lt hown k hk).1) h2
      unfold OwT
      rw [List.length_append, texts_append]
      exact h1
theorem wpList_catT {P : Program} {ops : Array Oper} {rest : List Oper} {o : Oper} {a : Act} {Q : Exit → Act → World → Prop} {w : World} {E : TypeId}
    (hgd : o.guard = none) (s x : Operand) (t : TypeId) (ho : o.op = .call { callee := .builtin .append, args := #[s, x], argTypes := #[t, t] })
    (ht : P.underlying t = some (.slice E)) (hi : (P.info? E).map (fun i => (i.zero, i.size, i.bytes)) = some (some (.string ⟨#[]⟩), 1, 16))
    (B : Nat) (w0 : World) (v : Value) (l r : List (List UInt8)) (Pb : Nat → Prop) (A : Option Addr) (c : Nat) (hs : a.eval s = v) (hx : a.eval x = .slice A r.length c)
    (hown : OwT w B E v l) (hsl : Vs w Pb A c (texts r)) (hlen : l.length + r.length ≤ 4398046511104) (hb : Below B w0 w) (hbase : B ≤ w.heap.size)
    (h : ∀ v' w', OwT w' B E v' (l ++ r) → Below B w0 w' → w.grownBy w' v.ownBlock → wpList P ops Q rest (a.put o.dst v') w') : wpList P ops Q (o :: rest) a w :=
  wpList_plain hgd fun _ hK => wp_catT s x t ho ht hi B w0 v l r Pb A c hs hx hown hsl hlen hb hbase fun v' w' h1 h2 h3 => hK _ _ (h v' w' h1 h2 h3)
/-- the same where the operation's guard says yes -/
theorem wpList_catTg {P : Program} {ops : Array Oper} {rest : List Oper} {o : Oper} {a : Act} {Q : Exit → Act → World → Prop} {w : World} {E : TypeId}
    (hgd : Region.wanted o (yielded ops a.tmps) = true) (s x : Operand) (t : TypeId) (ho : o.op = .call { callee := .builtin .append, args := #[s, x], argTypes := #[t, t] })
    (ht : P.underlying t = some (.slice E)) (hi : (P.info? E).map (fun i => (i.zero, i.size, i.bytes)) = some (some (.string ⟨#[]⟩), 1, 16))
    (B : Nat) (w0 : World) (v : Value) (l r : List (List UInt8)) (Pb : Nat → Prop) (A : Option Addr) (c : Nat) (hs : a.eval s = v) (hx : a.eval x = .slice A r.length c)
    (hown : OwT w B E v l) (hsl : Vs w Pb A c (texts r)) (hlen : l.length + r.length ≤ 4398046511104) (hb : Below B w0 w) (hbase : B ≤ w.heap.size)
    (h : ∀ v' w', OwT w' B E v' (l ++ r) → Below B w0 w' → w.grownBy w' v.ownBlock → wpList P ops Q rest (a.put o.dst v') w') : wpList P ops Q (o :: rest) a w :=
  wpList_step fun K hK => by
    rw [if_pos hgd]
    exact wp_catT s x t ho ht hi B w0 v l r Pb A c hs hx hown hsl hlen hb hbase fun v' w' h1 h2 h3 => hK _ _ (h v' w' h1 h2 h3)
theorem Vs.one (w : World) (E : TypeId) (y : List UInt8) : Vs (w.alloc (.cells #[.string ⟨y.toArray⟩] E)) (fun _ => True) (some ⟨w.heap.size, 0, none⟩) 1 (texts [y]) :=
  ⟨by simp [texts], fun _ => ⟨w.heap.size, 0, rfl, trivial, fun j v hj => by
    rw [Nat.zero_add, (Row.fresh w _ _).cell]
    exact hj⟩⟩
end Go.Proofs.Ytghnieddokhagaa.Kt
namespace Go.Proofs.Ytghnieddokhagaa.Lw
open Go Go.RowKit Kt
theorem Vs.bound {w : World} {P : Nat → Prop} {A : Option Addr} {c : Nat} {vs : List Value} (h : Vs w P A c vs) : Vs w (fun b => b < w.heap.size) A c vs :=
  ⟨h.1, fun hn => by
    obtain ⟨b, o, rfl, hp, hc⟩ := h.2 hn
    obtain ⟨v, hv⟩ : ∃ v, vs[0]? = some v := ⟨vs[0], List.getElem?_eq_getElem hn⟩
    exact ⟨b, o, rfl, World.block_lt_of_cell? w ⟨b, o + 0, none⟩ (hc 0 v hv), hc⟩⟩
/-- the cell of text k, in a world behind -/
theorem Vs.text {w w' : World} {A : Option Addr} {c : Nat} {l : List (List UInt8)} (h : Vs w (fun b => b < w.heap.size) A c (texts l)) (hb : Below w.heap.size w w') {k : Nat} (hk : k < l.length) :
    ∃ b o, A = some ⟨b, o, none⟩ ∧ w'.cell? ⟨b, o + k, none⟩ = some (.string ⟨(l.getD k []).toArray⟩) := by
  obtain ⟨b, o, rfl, hp, hc⟩ := h.2 (by rw [texts_len]; omega)
  exact ⟨b, o, rfl, (World.cell?_of_block (a := ⟨b, o + k, none⟩) (hb.block b hp)).trans (hc k _ (texts_at l k hk))⟩
end Go.Proofs.Ytghnieddokhagaa.Lw
namespace Go.Proofs.Ytghnieddokhagaa.Li
open Go Go.RowKit Kt Lw

theorem texts_same (l r : List (List UInt8)) (hl : l.length = r.length) (h : ∀ j, j < l.length → l.getD j [] = r.getD j []) : l = r := by
  apply List.ext_getElem hl
  intro i h1 h2
  have := h i h1
  simpa [List.getElem?_eq_getElem h1, List.getElem?_eq_getElem h2] using this
theorem eq_txt (x y : List UInt8) : ((ByteArray.mk x.toArray).toList == (ByteArray.mk y.toArray).toList) = decide (x = y) := by
  rw [Lib.toList_data, Lib.toList_data, Bool.eq_iff_iff, beq_iff_eq, decide_eq_true_iff]
set_option maxHeartbeats 1000000 in
set_option maxRecDepth 100000 in
theorem texts_any (l r : List (List UInt8)) (A A' : Option Addr) (c c' : Nat) (P P' : Nat → Prop) (w : World) (hs : Vs w P A c (texts l)) (hs' : Vs w P' A' c' (texts r)) (hl : l.length ≤ 9223372036854775807) :
    Calls Try.prog 12 #[.slice A l.length c, .slice A' r.length c'] w fun y w' => y = .returned (.bool (decide (l = r))) ∧ Below w.heap.size w w' := by
  by_cases hlen : l.length = r.length
  · have Hs := hide hs.bound
    have Hs' := hide hs'.bound
    clear hs hs'
    have hb0 : ((l.length : Int) != (r.length : Int)) = false := by rw [bne_eq_false_iff_eq]; omega
    have Hlen := hide hlen
    obtain ⟨N, hN⟩ : ∃ N, N = l.length := ⟨_, rfl⟩
    obtain ⟨N', hN'⟩ : ∃ N', N' = r.length := ⟨_, rfl⟩
    rw [← hN, ← hN'] at hb0 ⊢
    have HN := hide hN
    have HN' := hide hN'
    have hNl : N ≤ 9223372036854775807 := by omega
    have hNN : N = N' := by omega
    have HNN := hide hNN
    clear hN hN' hl hlen hNN
    go_enter Try.func12, Try.ntmps12
    go_wp2
    go_loopw [5] (fun i wr => ∃ k : Nat, k ≤ N ∧ i = .int .i64 k ∧ (∀ j, j < k → l.getD j [] = r.getD j []) ∧ Below w.heap.size w wr) (fun i _ => N - (intOf i).toNat)
    case atStart => exact ⟨0, Nat.zero_le _, rfl, fun j h => absurd h (Nat.not_lt_zero _), Below.refl _ _⟩
    case round =>
      obtain ⟨k, hk, rfl, hall, hb⟩ := hrel
      have Hall := hide hall
      have Hb := hide hb
      clear hall hb
      by_cases hlt : k < N
      · obtain ⟨b, o, rfl, ck⟩ := Hs.out.text Hb.out (k := k) (by have := HN.out; omega)
        obtain ⟨b', o', rfl, ck'⟩ := Hs'.out.text Hb.out (k := k) (by have := HN'.out; have := HNN.out; omega)
        have hlt' : k < N' := by have := HNN.out; omega
        by_cases hx : l.getD k [] = r.getD k []
        · have Hx := hide hx
          rw [hx] at ck
          clear hx
          generalize (r.getD k []).toArray = x at *
          go_wp2
          go_quiet (fail)
          go_wp2
          refine ⟨⟨k + 1, by omega, by go_num, fun j hj => ?_, below_drewN Hb.out _⟩, by simp [intOf]; omega⟩
          rcases Nat.lt_or_ge j k with hj' | hj'
          · exact Hall.out j hj'
          · obtain rfl : j = k := by omega
            exact Hx.out
        · have hxn := eq_txt (l.getD k []) (r.getD k [])
          rw [decide_eq_false hx] at hxn
          have Hx := hide hx
          clear hx
          generalize (r.getD k []).toArray = x at *
          generalize (l.getD k []).toArray = y at *
          go_wp2
          go_quiet (fail)
          go_wp2
          go_ret
          refine ⟨?_, below_drewN Hb.out _⟩
          have hd : decide (l = r) = false := decide_eq_false fun h => Hx.out (by rw [h])
          rw [hd]; rfl
      · obtain rfl : k = N := by omega
        go_wp2
        go_ret
        refine ⟨?_, Hb.out⟩
        have hd : decide (l = r) = true := decide_eq_true (texts_same l r Hlen.out fun j hj => Hall.out j (by have := HN.out; omega))
        rw [hd]; rfl
  · have hb0 : ((l.length : Int) != (r.length : Int)) = true := by rw [bne_iff_ne]; omega
    have Hd := hide (show decide (l = r) = false from decide_eq_false fun h => hlen (by rw [h]))
    clear hs hs' hlen
    go_enter Try.func12, Try.ntmps12
    go_wp2
    go_ret
    exact ⟨by rw [Hd.out]; rfl, Below.refl _ _⟩

theorem app_txt (x y : List UInt8) : ByteArray.mk x.toArray ++ ByteArray.mk y.toArray = ⟨(x ++ y).toArray⟩ := by
  apply ByteArray.ext
  simp
end Go.Proofs.Ytghnieddokhagaa.Li
namespace Go.Proofs.Ytghnieddokhagaa.Lx
open Go Go.RowKit Kt Lw Li

theorem get_at9 (l : List UInt8) (k : Nat) (h : k < (ByteArray.mk l.toArray).size) : (ByteArray.mk l.toArray)[k] = l.getD k 0 := by
  have h' : k < l.length := h
  have : (ByteArray.mk l.toArray)[k] = l[k]'h' := rfl
  rw [this]
  simp [List.getElem?_eq_getElem h']
theorem rless_cons (x y : UInt8) (p q : List UInt8) : Op.bytesLess (x :: p) (y :: q) = (decide (x < y) || (x == y && Op.bytesLess p q)) := rfl
theorem rless_end {p q : List UInt8} (h : p = [] ∨ q = []) : Op.bytesLess p q = decide (p.length < q.length) := by
  cases p with
  | nil => cases q <;> simp [Op.bytesLess]
  | cons x p =>
    have hq : q = [] := by simpa using h
    subst hq
    simp [Op.bytesLess]
theorem rdrop_getD (a : List UInt8) (k : Nat) (h : k < a.length) : a.drop k = a.getD k 0 :: a.drop (k + 1) := by
  rw [List.drop_eq_getElem_cons h]; simp [List.getElem?_eq_getElem h]
set_option maxRecDepth 100000 in
set_option maxHeartbeats 2000000 in
theorem rless_any (a b : List UInt8) (w : World) (ha : a.length ≤ 100000) (_hb : b.length ≤ 100000) :
    Calls Try.prog 21 #[.string ⟨a.toArray⟩, .string ⟨b.toArray⟩] w fun e w' => e = .returned (.bool (Op.bytesLess a b)) ∧ Below w.heap.size w w' := by
  go_enter Try.func21, Try.ntmps21
  go_wp2
  go_loopw [5] (fun i wr => ∃ k : Nat, k ≤ a.length ∧ k ≤ b.length ∧ i = .int .i64 k ∧ Hid (Op.bytesLess a b = Op.bytesLess (a.drop k) (b.drop k)) ∧ Below w.heap.size w wr) (fun i _ => a.length - (intOf i).toNat)
  case atStart => exact ⟨0, Nat.zero_le _, Nat.zero_le _, rfl, by show Hid _; exact hide rfl, Below.refl _ _⟩
  case round =>
    obtain ⟨k, hka, hkb, rfl, HL, hbw⟩ := hrel
    have Hb := hide hbw
    clear hbw
    by_cases hlt : k < a.length ∧ k < b.length
    · obtain ⟨h1, h2⟩ := hlt
      have e1 := get_at9 a k (by show k < a.length; exact h1)
      have e2 := get_at9 b k (by show k < b.length; exact h2)
      have hL := HL.out
      rw [rdrop_getD a k h1, rdrop_getD b k h2, rless_cons] at hL
      generalize a.getD k 0 = x at *
      generalize b.getD k 0 = y at *
      clear HL
      by_cases hxy : x = y
      · subst hxy
        have HL2 := hide (show Op.bytesLess a b = Op.bytesLess (a.drop (k + 1)) (b.drop (k + 1)) by rw [hL]; simp)
        clear hL
        go_wp2
        go_quiet (fail)
        go_wp2
        exact ⟨⟨k + 1, by omega, by omega, by go_num, HL2, below_drewN Hb.out _⟩, by simp [intOf]; omega⟩
      · have hne : ((x.toNat : Int) != (y.toNat : Int)) = true := by
          rw [bne_iff_ne]
          intro h
          exact hxy (UInt8.toNat_inj.1 (by omega))
        have HL2 := hide (show Op.bytesLess a b = decide (x.toNat < y.toNat) by
          rw [hL, show (x == y) = false by simpa using hxy]
          simp only [Bool.false_and, Bool.or_false]
          rw [decide_eq_decide, UInt8.lt_iff_toNat_lt])
        clear hL hxy
        go_wp2
        go_quiet (fail)
        go_wp2
        go_quiet (fail)
        go_wp2
        go_ret
        exact ⟨by rw [HL2.out]; rfl, below_drewN (below_drewN Hb.out _) _⟩
    · have hor : a.drop k = [] ∨ b.drop k = [] := by
        rw [List.drop_eq_nil_iff, List.drop_eq_nil_iff]; omega
      have HL2 := hide (show Op.bytesLess a b = decide (a.length < b.length) by
        rw [HL.out, rless_end hor, decide_eq_decide, List.length_drop, List.length_drop]
        omega)
      clear HL hor
      by_cases h1 : k < a.length
      · have h2 : ¬ k < b.length := fun h => hlt ⟨h1, h⟩
        have d1 : decide ((k : Int) < (a.length : Int)) = true := decide_eq_true (by omega)
        have d2 : decide ((k : Int) < (b.length : Int)) = false := decide_eq_false (by omega)
        clear hlt
        go_wp2
        go_ret
        exact ⟨by rw [HL2.out]; rfl, Hb.out⟩
      · have d1 : decide ((k : Int) < (a.length : Int)) = false := decide_eq_false (by omega)
        clear hlt
        go_wp2
        go_ret
        exact ⟨by rw [HL2.out]; rfl, Hb.out⟩
end Go.Proofs.Ytghnieddokhagaa.Lx
