/-
  Trees, on lists alone: paths that can be, files by rising paths, what is put and dropped. No program is named here.
-/
import GoSem.Op.String
import Derived.Lib.Bytealg
import Derived.Lib.SplitLaws
import Derived.Test.YtlplgkdoiinfhaaDoorKit
namespace Go.Proofs.YtlplgkdoiinfhaaDoor.Tr
open Go

abbrev Bs := List UInt8
abbrev lt (a b : Bs) : Bool := Op.bytesLess a b
theorem lt_cons (x y : UInt8) (p q : Bs) : lt (x :: p) (y :: q) = (decide (x < y) || (x == y && lt p q)) := rfl
theorem lt_irr : ∀ a : Bs, lt a a = false
  | [] => rfl
  | x :: a => by rw [lt_cons, lt_irr a]; simp
theorem lt_tri : ∀ a b : Bs, lt a b = true ∨ a = b ∨ lt b a = true
  | [], [] => .inr (.inl rfl)
  | [], _ :: _ => .inl rfl
  | _ :: _, [] => .inr (.inr rfl)
  | x :: a, y :: b => by
    rw [lt_cons, lt_cons]
    rcases Nat.lt_trichotomy x.toNat y.toNat with h | h | h
    · left; simp [UInt8.lt_iff_toNat_lt, h]
    · have e : x = y := UInt8.toNat_inj.1 h
      subst e
      rcases lt_tri a b with h | h | h
      · left; simp [h]
      · right; left; rw [h]
      · right; right; simp [h]
    · right; right; simp [UInt8.lt_iff_toNat_lt, h]
theorem lt_trans : ∀ {a b c : Bs}, lt a b = true → lt b c = true → lt a c = true
  | _, [], _, h, _ => by simp [lt, Op.bytesLess] at h
  | _, _ :: _, [], _, h => by simp [lt, Op.bytesLess] at h
  | [], _ :: _, _ :: _, _, _ => rfl
  | x :: a, y :: b, z :: c, h1, h2 => by
    rw [lt_cons, Bool.or_eq_true, Bool.and_eq_true, decide_eq_true_iff, beq_iff_eq, UInt8.lt_iff_toNat_lt] at h1 h2 ⊢
    rcases h1 with h1 | ⟨e1, h1⟩
    · rcases h2 with h2 | ⟨e2, h2⟩
      · left; omega
      · subst e2; left; exact h1
    · subst e1
      rcases h2 with h2 | ⟨e2, h2⟩
      · left; exact h2
      · subst e2; right; exact ⟨rfl, lt_trans h1 h2⟩
theorem lt_asymm {a b : Bs} (h : lt a b = true) : lt b a = false := by
  cases hb : lt b a with
  | false => rfl
  | true => have := lt_trans h hb; rw [lt_irr] at this; cases this
theorem lt_ne {a b : Bs} (h : lt a b = true) : a ≠ b := fun e => by rw [e, lt_irr] at h; cases h
/-- a part of a path that can be -/
def part (p : Bs) : Bool := !decide (p = []) && !decide (p = [46]) && !decide (p = [46, 46])
/-- the rest of a path, behind the bytes of a part -/
def rest : Bs → Bs → Bool
  | q, [] => part q
  | q, c :: r => if c = 47 then part q && rest [] r else !(decide (c < 32) || c == 127) && rest (q ++ [c]) r
/-- can a path be? -/
def can (p : Bs) : Bool := decide (p.length ≤ 200) && rest [] p
/-- a file -/
structure Fl where
  path : Bs
  text : Bs
deriving DecidableEq
/-- is a path above the one ahead of it? -/
def above : Option Bs → Bs → Bool
  | none, _ => true
  | some p, q => lt p q
/-- are files right, behind the path of the one ahead? -/
def go : Option Bs → List Fl → Bool
  | _, [] => true
  | p, f :: t => can f.path && decide (f.text.length ≤ 65536) && above p f.path && go (some f.path) t
def right (t : List Fl) : Bool := go none t && decide (t.length ≤ 1000)
def get (t : List Fl) (p : Bs) : Bs × Bool :=
  match t with
  | [] => ([], false)
  | f :: t => if f.path = p then (f.text, true) else get t p
def drop (t : List Fl) (p : Bs) : List Fl := t.filter fun f => !decide (f.path = p)
def ins (f : Fl) : List Fl → List Fl
  | [] => [f]
  | g :: t => if lt f.path g.path then f :: g :: t else g :: ins f t
/-- a tree with a file; why there is none -/
def put (t : List Fl) (f : Fl) : List Fl × Nat :=
  if can f.path = false then ([], 7) else if 65536 < f.text.length ∨ 1000 ≤ (drop t f.path).length then ([], 4) else (ins f (drop t f.path), 0)

theorem go_weak {p q : Option Bs} {t : List Fl} (h : go p t = true) (hw : ∀ x, above p x = true → above q x = true) : go q t = true := by
  cases t with
  | nil => rfl
  | cons f t =>
    simp only [go, Bool.and_eq_true] at h ⊢
    exact ⟨⟨h.1.1, hw _ h.1.2⟩, h.2⟩
theorem above_trans {p : Option Bs} {x y : Bs} (h : above p x = true) (h' : lt x y = true) : above p y = true := by
  cases p with
  | none => rfl
  | some p => exact lt_trans h h'
theorem go_above {p : Option Bs} : ∀ {t : List Fl}, go p t = true → ∀ f ∈ t, above p f.path = true ∧ can f.path = true ∧ f.text.length ≤ 65536
  | [], _, f, hf => by cases hf
  | g :: t, h, f, hf => by
    simp only [go, Bool.and_eq_true, decide_eq_true_eq] at h
    rcases List.mem_cons.1 hf with rfl | hf
    · exact ⟨h.1.2, h.1.1.1, h.1.1.2⟩
    · obtain ⟨h1, h2⟩ := go_above h.2 f hf
      exact ⟨above_trans h.1.2 h1, h2⟩
/-- dropped, files stay right -/
theorem go_drop (p : Bs) : ∀ {q : Option Bs} {t : List Fl}, go q t = true → go q (drop t p) = true
  | _, [], _ => rfl
  | q, f :: t, h => by
    simp only [go, Bool.and_eq_true] at h
    have ih := go_drop p h.2
    unfold drop at ih ⊢
    rw [List.filter_cons]
    split
    · simp only [go, Bool.and_eq_true]
      exact ⟨h.1, ih⟩
    · exact go_weak ih fun x hx => above_trans h.1.2 hx
theorem drop_none {t : List Fl} {p : Bs} (h : ∀ f ∈ t, f.path ≠ p) : drop t p = t := by
  unfold drop
  rw [List.filter_eq_self]
  intro f hf
  simp [h f hf]
theorem drop_not (t : List Fl) (p : Bs) : ∀ f ∈ drop t p, f.path ≠ p := by
  intro f hf
  unfold drop at hf
  have := (List.mem_filter.1 hf).2
  simpa using this
theorem mem_drop {t : List Fl} {p : Bs} {f : Fl} : f ∈ drop t p ↔ f ∈ t ∧ f.path ≠ p := by
  unfold drop
  rw [List.mem_filter]
  simp
theorem mem_ins {f g : Fl} : ∀ {t : List Fl}, g ∈ ins f t ↔ g = f ∨ g ∈ t
  | [] => by simp [ins]
  | h :: t => by
    have ih := mem_ins (f := f) (g := g) (t := t)
    rw [ins]
    split
    · simp
    · rw [List.mem_cons, ih, List.mem_cons]
      constructor
      · rintro (h | h | h)
        · exact .inr (.inl h)
        · exact .inl h
        · exact .inr (.inr h)
      · rintro (h | h | h)
        · exact .inr (.inl h)
        · exact .inl h
        · exact .inr (.inr h)
theorem ins_len (f : Fl) : ∀ t : List Fl, (ins f t).length = t.length + 1
  | [] => rfl
  | g :: t => by
    have ih := ins_len f t
    rw [ins]
    split
    · simp
    · simp [ih]
/-- put among others, files stay right -/
theorem go_ins {f : Fl} (hc : can f.path = true) (hl : f.text.length ≤ 65536) : ∀ {q : Option Bs} {t : List Fl}, go q t = true → above q f.path = true → (∀ g ∈ t, g.path ≠ f.path) → go q (ins f t) = true
  | q, [], _, hq, _ => by simp [ins, go, hc, hl, hq]
  | q, g :: t, h, hq, hn => by
    have h' := h
    simp only [go, Bool.and_eq_true] at h
    rw [ins]
    split
    · rename_i hlt
      simp only [go, Bool.and_eq_true, decide_eq_true_eq]
      exact ⟨⟨⟨hc, hl⟩, hq⟩, ⟨⟨h.1.1.1, of_decide_eq_true h.1.1.2⟩, hlt⟩, h.2⟩
    · rename_i hlt
      simp only [go, Bool.and_eq_true]
      refine ⟨h.1, go_ins hc hl h.2 ?_ fun x hx => hn x (by simp [hx])⟩
      show lt g.path f.path = true
      rcases lt_tri g.path f.path with h1 | h1 | h1
      · exact h1
      · exact absurd h1 (hn g (by simp))
      · exact absurd h1 hlt
/-- files that are right are told by which they are -/
theorem go_ext : ∀ {q r : Option Bs} {t u : List Fl}, go q t = true → go r u = true → (∀ f, f ∈ t ↔ f ∈ u) → t = u
  | _, _, [], [], _, _, _ => rfl
  | _, _, [], f :: u, _, _, h => by have := (h f).2 (by simp); cases this
  | _, _, f :: t, [], _, _, h => by have := (h f).1 (by simp); cases this
  | q, r, f :: t, g :: u, h1, h2, h => by
    simp only [go, Bool.and_eq_true] at h1 h2
    have a1 := go_above h1.2
    have a2 := go_above h2.2
    have e : f = g := by
      rcases List.mem_cons.1 ((h f).1 (by simp)) with h' | h'
      · exact h'
      · rcases List.mem_cons.1 ((h g).2 (by simp)) with h'' | h''
        · exact h''.symm
        · have := lt_trans (a1 g h'').1 (a2 f h').1
          rw [lt_irr] at this; cases this
    subst e
    congr 1
    refine go_ext h1.2 h2.2 fun x => ⟨fun hx => ?_, fun hx => ?_⟩
    · rcases List.mem_cons.1 ((h x).1 (by simp [hx])) with h' | h'
      · subst h'; have := (a1 x hx).1; rw [show above (some x.path) x.path = lt x.path x.path from rfl, lt_irr] at this; cases this
      · exact h'
    · rcases List.mem_cons.1 ((h x).2 (by simp [hx])) with h' | h'
      · subst h'; have := (a2 x hx).1; rw [show above (some x.path) x.path = lt x.path x.path from rfl, lt_irr] at this; cases this
      · exact h'
theorem go_len {q : Option Bs} {t : List Fl} (h : go q t = true) (p : Bs) : t.length ≤ (drop t p).length + 1 := by
  induction t generalizing q with
  | nil => simp
  | cons f t ih =>
    simp only [go, Bool.and_eq_true] at h
    have ih := ih h.2
    unfold drop at ih ⊢
    rw [List.filter_cons]
    split
    · simp only [List.length_cons]; omega
    · rename_i hf
      have hf : f.path = p := by simpa using hf
      have e : List.filter (fun g => !decide (g.path = p)) t = t := by
        rw [List.filter_eq_self]
        intro g hg
        have := (go_above h.2 g hg).1
        rw [hf] at this
        have hne : ¬ g.path = p := fun e => lt_ne this e.symm
        simp [hne]
      rw [e]; simp
/-- P10.2: what is put is right -/
theorem put_right {t : List Fl} {f : Fl} (h : right t = true) (he : (put t f).2 = 0) : right (put t f).1 = true ∧ (put t f).1 = ins f (drop t f.path) ∧ can f.path = true ∧ f.text.length ≤ 65536 := by
  unfold right at h ⊢
  rw [Bool.and_eq_true, decide_eq_true_eq] at h
  unfold put at he ⊢
  by_cases hc : can f.path = false
  · rw [if_pos hc] at he; cases he
  · rw [if_neg hc] at he ⊢
    by_cases hl : 65536 < f.text.length ∨ 1000 ≤ (drop t f.path).length
    · rw [if_pos hl] at he; cases he
    · rw [if_neg hl] at he ⊢
      have hc : can f.path = true := by simpa using hc
      refine ⟨?_, rfl, hc, by omega⟩
      rw [Bool.and_eq_true, decide_eq_true_eq]
      exact ⟨go_ins hc (by omega) (go_drop _ h.1) rfl (drop_not t f.path), by rw [ins_len]; omega⟩
theorem get_some {t : List Fl} {p : Bs} (h : (get t p).2 = true) : ∃ f ∈ t, f.path = p ∧ (get t p).1 = f.text := by
  induction t with
  | nil => simp [get] at h
  | cons g t ih =>
    rw [get] at h ⊢
    by_cases hg : g.path = p
    · rw [if_pos hg]; exact ⟨g, by simp, hg, rfl⟩
    · rw [if_neg hg] at h ⊢
      obtain ⟨f, hf, e⟩ := ih h
      exact ⟨f, by simp [hf], e⟩
theorem get_none {t : List Fl} {p : Bs} (h : ∀ f ∈ t, f.path ≠ p) : get t p = ([], false) := by
  induction t with
  | nil => rfl
  | cons g t ih =>
    rw [get, if_neg (h g (by simp))]
    exact ih fun f hf => h f (by simp [hf])
/-- of right files the one with a path is told -/
theorem get_is {q : Option Bs} {t : List Fl} (h : go q t = true) {f : Fl} (hf : f ∈ t) : get t f.path = (f.text, true) := by
  induction t generalizing q with
  | nil => cases hf
  | cons g t ih =>
    simp only [go, Bool.and_eq_true] at h
    rw [get]
    by_cases hg : g.path = f.path
    · rw [if_pos hg]
      rcases List.mem_cons.1 hf with rfl | hf
      · rfl
      · have := (go_above h.2 f hf).1
        exact absurd hg (lt_ne this)
    · rw [if_neg hg]
      rcases List.mem_cons.1 hf with rfl | hf
      · exact absurd rfl hg
      · exact ih h.2 hf
theorem get_same {q r : Option Bs} {t u : List Fl} (h : go q t = true) (h' : go r u = true) {p : Bs} (hm : ∀ f, f.path = p → (f ∈ t ↔ f ∈ u)) : get t p = get u p := by
  by_cases hx : ∃ f ∈ t, f.path = p
  · obtain ⟨f, hf, e⟩ := hx
    subst e
    rw [get_is h hf, get_is h' ((hm f rfl).1 hf)]
  · have hn : ∀ f ∈ t, f.path ≠ p := fun f hf e => hx ⟨f, hf, e⟩
    rw [get_none hn, get_none fun f hf e => hn f ((hm f e).2 hf) e]
end Go.Proofs.YtlplgkdoiinfhaaDoor.Tr
namespace Go.Proofs.YtlplgkdoiinfhaaDoor.Tr
open Go

theorem drop_le (t : List Fl) (p : Bs) : (drop t p).length ≤ t.length := List.length_filter_le _ _
theorem put_ok {t : List Fl} {f : Fl} (hl : t.length < 1000) (hc : can f.path = true) (hf : f.text.length ≤ 65536) : put t f = (ins f (drop t f.path), 0) := by
  have := drop_le t f.path
  unfold put
  rw [if_neg (by rw [hc]; decide), if_neg (by omega)]
theorem mem_put {t : List Fl} {f x : Fl} : x ∈ ins f (drop t f.path) ↔ x = f ∨ (x ∈ t ∧ x.path ≠ f.path) := by rw [mem_ins, mem_drop]
theorem right_go {t : List Fl} (h : right t = true) : go none t = true ∧ t.length ≤ 1000 := by
  unfold right at h
  rw [Bool.and_eq_true, decide_eq_true_eq] at h
  exact h
theorem right_of {t : List Fl} (h : go none t = true) (hl : t.length ≤ 1000) : right t = true := by
  unfold right
  rw [h, decide_eq_true hl]; rfl
theorem go_put {t : List Fl} {f : Fl} (h : go none t = true) (hc : can f.path = true) (hf : f.text.length ≤ 65536) : go none (ins f (drop t f.path)) = true :=
  go_ins hc hf (go_drop _ h) rfl (drop_not t f.path)
theorem put_len (t : List Fl) (f : Fl) : (ins f (drop t f.path)).length ≤ t.length + 1 := by
  have := drop_le t f.path
  rw [ins_len]; omega
/-- dropped again, what was put is gone -/
theorem drop_put {t : List Fl} {f : Fl} (h : go none t = true) (hc : can f.path = true) (hf : f.text.length ≤ 65536) : drop (ins f (drop t f.path)) f.path = drop t f.path := by
  refine go_ext (go_drop _ (go_put h hc hf)) (go_drop _ h) fun x => ?_
  rw [mem_drop, mem_put, mem_drop]
  constructor
  · rintro ⟨rfl | h, h'⟩
    · exact absurd rfl h'
    · exact h
  · exact fun h => ⟨.inr h, h.2⟩
structure Puts (t : List Fl) (f g : Fl) (p : Bs) : Prop where
  e1 : put t f = (ins f (drop t f.path), 0)
  e2 : put (ins f (drop t f.path)) g = (ins g (drop (ins f (drop t f.path)) g.path), 0)
  e3 : put t g = (ins g (drop t g.path), 0)
  e4 : put (ins g (drop t g.path)) f = (ins g (drop (ins f (drop t f.path)) g.path), 0)
  ok : right (ins g (drop (ins f (drop t f.path)) g.path)) = true
  got : get (ins g (drop (ins f (drop t f.path)) g.path)) f.path = (f.text, true)
  same : p = f.path ∨ get t p = get (ins f (drop t f.path)) p
  gone : drop (ins f (drop t f.path)) f.path = drop t f.path
  one : (ins f (drop t f.path)).length = (drop t f.path).length + 1
  not : get (drop t f.path) f.path = ([], false)
theorem puts_any {t : List Fl} {f g : Fl} (p : Bs) (ht : right t = true) (hl : t.length ≤ 12) (cf : can f.path = true) (cg : can g.path = true) (lf : f.text.length ≤ 65536) (lg : g.text.length ≤ 65536) (hne : f.path ≠ g.path) : Puts t f g p := by
  obtain ⟨h, _⟩ := right_go ht
  have h1 := go_put h cf lf
  have h2 := go_put h cg lg
  have h3 := go_put h1 cg lg
  have h4 := go_put h2 cf lf
  have k1 := put_len t f
  have k2 := put_len t g
  have k3 := put_len (ins f (drop t f.path)) g
  have e : ins f (drop (ins g (drop t g.path)) f.path) = ins g (drop (ins f (drop t f.path)) g.path) := by
    refine go_ext h4 h3 fun x => ?_
    rw [mem_put, mem_put, mem_put, mem_put]
    constructor
    · rintro (rfl | ⟨rfl | ⟨hx, hg⟩, hf⟩)
      · exact .inr ⟨.inl rfl, hne⟩
      · exact .inl rfl
      · exact .inr ⟨.inr ⟨hx, hf⟩, hg⟩
    · rintro (rfl | ⟨rfl | ⟨hx, hf⟩, hg⟩)
      · exact .inr ⟨.inl rfl, hne.symm⟩
      · exact .inl rfl
      · exact .inr ⟨.inr ⟨hx, hg⟩, hf⟩
  refine ⟨put_ok (by omega) cf lf, put_ok (by omega) cg lg, put_ok (by omega) cg lg, ?_, right_of h3 (by omega), ?_, ?_, drop_put h cf lf, ins_len _ _, get_none (drop_not t f.path)⟩
  · rw [put_ok (by omega) cf lf, e]
  · exact get_is h3 (mem_put.2 (.inr ⟨mem_put.2 (.inl rfl), hne⟩))
  · by_cases hp : p = f.path
    · exact .inl hp
    · refine .inr (get_same h h1 fun x hx => ?_)
      rw [mem_put]
      constructor
      · exact fun h => .inr ⟨h, by rw [hx]; exact hp⟩
      · rintro (rfl | h)
        · exact absurd hx.symm hp
        · exact h.1
theorem drops_any {t : List Fl} {f : Fl} (ht : right t = true) (hl : t.length ≤ 12) (cf : can f.path = true) (lf : f.text.length ≤ 65536) :
    put t f = (ins f (drop t f.path), 0) ∧ drop (ins f (drop t f.path)) f.path = drop t f.path ∧ (drop t f.path).length < (ins f (drop t f.path)).length ∧ right (drop t f.path) = true ∧ ((drop t f.path).length < t.length ∨ drop t f.path = t) := by
  obtain ⟨h, _⟩ := right_go ht
  have := drop_le t f.path
  refine ⟨put_ok (by omega) cf lf, drop_put h cf lf, by rw [ins_len]; omega, right_of (go_drop _ h) (by omega), ?_⟩
  by_cases hx : (drop t f.path).length < t.length
  · exact .inl hx
  · exact .inr (List.filter_eq_self.2 (List.length_filter_eq_length_iff.1 (by unfold drop at *; omega)))
end Go.Proofs.YtlplgkdoiinfhaaDoor.Tr
namespace Go.Proofs.YtlplgkdoiinfhaaDoor.Tr
open Go

/-- the parts of a path, behind the bytes of the first one -/
def sp : Bs → Bs → List Bs
  | q, [] => [q]
  | q, c :: r => if c = 47 then q :: sp [] r else sp (q ++ [c]) r
/-- bytes that a path may have -/
def good (c : UInt8) : Bool := !(decide (c < 32) || c == 127)
theorem rest_sp : ∀ (p q : Bs), rest q p = (p.all good && (sp q p).all part)
  | [], q => by simp [rest, sp]
  | c :: r, q => by
    rw [rest, sp, List.all_cons]
    by_cases h : c = 47
    · subst h
      rw [if_pos rfl, if_pos rfl, List.all_cons, rest_sp r []]
      have : good 47 = true := by decide
      rw [this]
      cases part q <;> simp
    · rw [if_neg h, if_neg h, rest_sp r (q ++ [c])]
      show (good c && _) = _
      rw [Bool.and_assoc]
theorem sp_ne (q p : Bs) : sp q p ≠ [] := by
  induction p generalizing q with
  | nil => simp [sp]
  | cons c r ih => rw [sp]; split; simp; exact ih _
theorem sp_front : ∀ (p q : Bs), sp q p = (q ++ (sp [] p).headD []) :: (sp [] p).tail
  | [], q => by simp [sp]
  | c :: r, q => by
    rw [sp, sp]
    by_cases h : c = 47
    · rw [if_pos h, if_pos h]; simp
    · rw [if_neg h, if_neg h, sp_front r (q ++ [c]), sp_front r ([] ++ [c])]; simp
theorem split_nil : Lib.split [] [47] = [[]] := by decide
theorem split_here (l : Bs) : Lib.split (47 :: l) [47] = [] :: Lib.split l [47] := by
  unfold Lib.split
  rw [Lib.count_cons_eq, Nat.add_comm, Lib.splitK]
  have h : Lib.index (47 :: l) [47] = 0 := by rw [Lib.index]; simp [List.isPrefixOf]
  rw [h, if_neg (by decide)]
  rfl
theorem split_past (c : UInt8) (l : Bs) (hc : c ≠ 47) : Lib.split (c :: l) [47] = (c :: (Lib.split l [47]).headD []) :: (Lib.split l [47]).tail := by
  have hp : ([47] : Bs).isPrefixOf (c :: l) = false := by simp [List.isPrefixOf, Ne.symm hc]
  have hix : Lib.index (c :: l) [47] = if Lib.index l [47] == -1 then -1 else Lib.index l [47] + 1 := by rw [Lib.index, hp]; simp
  unfold Lib.split
  rw [Lib.count_cons_ne c 47 l hc]
  by_cases hm : Lib.index l [47] = -1
  · rw [Lib.count_miss hm]; rfl
  · have hge := Lib.index_ge l [47]
    obtain ⟨j, hj⟩ : ∃ j : Nat, Lib.index l [47] = j := ⟨(Lib.index l [47]).toNat, by omega⟩
    have hix' : Lib.index (c :: l) [47] = ((j + 1 : Nat) : Int) := by rw [hix, if_neg (fun e => hm (beq_iff_eq.1 e)), hj]; omega
    rw [Lib.count_hit (by simp) hj, Nat.add_comm, Lib.splitK, Lib.splitK, hix', hj, if_neg (by rw [beq_iff_eq]; omega), if_neg (by rw [beq_iff_eq]; omega)]
    simp
theorem split_sp : ∀ p : Bs, Lib.split p [47] = sp [] p
  | [] => split_nil
  | c :: l => by
    rw [sp]
    by_cases h : c = 47
    · subst h; rw [if_pos rfl, split_here, split_sp l]
    · rw [if_neg h, split_past c l h, split_sp l, sp_front l ([] ++ [c])]; rfl
theorem can_sp (p : Bs) : can p = (decide (p.length ≤ 200) && (p.all good && (sp [] p).all part)) := by
  unfold can; rw [rest_sp]
theorem sp_len (p q : Bs) : (sp q p).length ≤ p.length + 1 := by
  induction p generalizing q with
  | nil => simp [sp]
  | cons c r ih =>
    rw [sp, List.length_cons]
    split
    · have := ih []; simp only [List.length_cons]; omega
    · have := ih (q ++ [c]); omega

/-- where a file with a path stands, or would stand -/
def pos : List Fl → Bs → Nat
  | [], _ => 0
  | f :: t, p => if lt f.path p then pos t p + 1 else 0
/-- is there one? -/
def hit : List Fl → Bs → Bool
  | [], _ => false
  | f :: t, p => if lt f.path p then hit t p else decide (f.path = p)
theorem pos_le : ∀ (t : List Fl) (p : Bs), pos t p ≤ t.length
  | [], _ => Nat.le_refl _
  | f :: t, p => by
    have := pos_le t p
    rw [pos, List.length_cons]
    split <;> omega
/-- what has less paths ahead of it, and behind it none, is that place -/
theorem pos_of : ∀ (t : List Fl) (p : Bs) (i : Nat), i ≤ t.length → (∀ k g, t[k]? = some g → k < i → lt g.path p = true) → (∀ g, t[i]? = some g → lt g.path p = false) → pos t p = i
  | [], _, i, hi, _, _ => by
    have : i = 0 := by simpa using hi
    subst this; rfl
  | f :: t, p, 0, _, _, h2 => by
    rw [pos, if_neg (by rw [h2 f rfl]; decide)]
  | f :: t, p, i + 1, hi, h1, h2 => by
    rw [pos, if_pos (h1 0 f rfl (by omega)), pos_of t p i (by simpa using hi) (fun k g hk hki => h1 (k + 1) g hk (by omega)) (fun g hg => h2 g hg)]
theorem hit_pos : ∀ (t : List Fl) (p : Bs), hit t p = true → pos t p < t.length
  | f :: t, p, h => by
    rw [hit] at h
    rw [pos, List.length_cons]
    split at h
    · next hl => rw [if_pos hl]; have := hit_pos t p h; omega
    · next hl => rw [if_neg hl]; omega
theorem hit_of : ∀ (t : List Fl) (p : Bs), (∀ g, t[pos t p]? = some g → hit t p = decide (g.path = p)) ∧ (t.length ≤ pos t p → hit t p = false)
  | [], _ => ⟨fun g h => by simp at h, fun _ => rfl⟩
  | f :: t, p => by
    have ih := hit_of t p
    rw [hit]
    by_cases hl : lt f.path p = true
    · have e : pos (f :: t) p = pos t p + 1 := by rw [pos, if_pos hl]
      rw [if_pos hl, e]
      exact ⟨fun g h => ih.1 g h, fun h => ih.2 (by rw [List.length_cons] at h; omega)⟩
    · have e : pos (f :: t) p = 0 := by rw [pos, if_neg hl]
      rw [if_neg hl, e]
      refine ⟨fun g h => ?_, fun h => by rw [List.length_cons] at h; omega⟩
      obtain rfl : f = g := Option.some.inj h
      rfl
/-- files by rising paths: ahead of the place all are less, behind it none -/
theorem go_lt : ∀ {q : Option Bs} {t : List Fl} {i j : Nat} {f g : Fl} (_ : go q t = true), t[i]? = some f → t[j]? = some g → i < j → lt f.path g.path = true
  | _, [], _, _, _, _, _, hf, _, _ => by simp at hf
  | q, x :: t, 0, j + 1, f, g, h, hf, hg, _ => by
    obtain rfl : x = f := Option.some.inj hf
    simp only [go, Bool.and_eq_true] at h
    exact (go_above h.2 g (List.mem_of_getElem? (l := t) hg)).1
  | q, x :: t, i + 1, j + 1, f, g, h, hf, hg, hij => by
    simp only [go, Bool.and_eq_true] at h
    exact go_lt (t := t) h.2 hf hg (by omega)
theorem go_mono {q : Option Bs} {t : List Fl} (h : go q t = true) {p : Bs} {i j : Nat} {f g : Fl} (hf : t[i]? = some f) (hg : t[j]? = some g) (hij : i ≤ j) (hl : lt g.path p = true) : lt f.path p = true := by
  rcases Nat.lt_or_eq_of_le hij with h' | h'
  · exact lt_trans (go_lt h hf hg h') hl
  · subst h'
    rw [hf] at hg
    obtain rfl := Option.some.inj hg
    exact hl
/-- a place's end -/
def upto (t : List Fl) (p : Bs) : Nat := if hit t p then pos t p + 1 else pos t p
theorem pos_upto (t : List Fl) (p : Bs) : pos t p ≤ upto t p := by unfold upto; split <;> omega
theorem upto_le (t : List Fl) (p : Bs) : upto t p ≤ t.length := by
  unfold upto
  split
  · next h => have := hit_pos t p h; omega
  · exact pos_le t p
theorem drop_at : ∀ {q : Option Bs} {t : List Fl} {p : Bs}, go q t = true → drop t p = t.take (pos t p) ++ t.drop (upto t p)
  | _, [], _, _ => rfl
  | q, f :: t, p, h => by
    have h0 := h
    simp only [go, Bool.and_eq_true] at h
    have ih := drop_at (p := p) h.2
    by_cases hl : lt f.path p = true
    · have e1 : pos (f :: t) p = pos t p + 1 := by rw [pos, if_pos hl]
      have e2 : upto (f :: t) p = upto t p + 1 := by
        unfold upto; rw [e1, show hit (f :: t) p = hit t p by rw [hit, if_pos hl]]; split <;> rfl
      rw [e1, e2, List.take_succ_cons, List.drop_succ_cons, List.cons_append, ← ih]
      unfold drop
      rw [List.filter_cons, if_pos (by simpa using lt_ne hl)]
    · have e1 : pos (f :: t) p = 0 := by rw [pos, if_neg hl]
      rw [e1, List.take_zero, List.nil_append]
      by_cases he : f.path = p
      · have e2 : upto (f :: t) p = 1 := by unfold upto; rw [e1, show hit (f :: t) p = true by rw [hit, if_neg hl]; exact decide_eq_true he]; rfl
        rw [e2]
        show drop (f :: t) p = t
        have hn : ∀ g ∈ t, g.path ≠ p := fun g hg => by
          have := (go_above h.2 g hg).1
          rw [← he]; exact (lt_ne this).symm
        conv => rhs; rw [← drop_none hn]
        unfold drop
        rw [List.filter_cons, if_neg (by simpa using he)]
      · have e2 : upto (f :: t) p = 0 := by unfold upto; rw [e1, show hit (f :: t) p = false by rw [hit, if_neg hl]; exact decide_eq_false he]; rfl
        rw [e2, List.drop_zero]
        refine drop_none fun g hg => ?_
        rcases List.mem_cons.1 hg with rfl | hg
        · exact he
        · have h1 : lt f.path g.path = true := (go_above h.2 g hg).1
          intro e
          rcases lt_tri f.path p with h2 | h2 | h2
          · exact hl h2
          · exact he h2
          · rw [e] at h1
            have := lt_trans h1 h2
            rw [lt_irr] at this; cases this
theorem hit_mem {q : Option Bs} {t : List Fl} {p : Bs} (h : go q t = true) : (drop t p).length + (if hit t p then 1 else 0) = t.length := by
  rw [drop_at h, List.length_append, List.length_take, List.length_drop]
  have h1 := pos_le t p
  have h2 := upto_le t p
  unfold upto at *
  split
  · next hh => rw [if_pos hh] at h2; omega
  · omega
theorem ins_front {f : Fl} : ∀ {a b : List Fl}, (∀ g ∈ a, lt f.path g.path = false) → (∀ g ∈ b.head?, lt f.path g.path = true) → ins f (a ++ b) = a ++ f :: b
  | [], [], _, _ => rfl
  | [], g :: b, _, h => by
    show ins f (g :: b) = _
    rw [ins, if_pos (h g rfl)]; rfl
  | g :: a, b, h1, h2 => by
    rw [List.cons_append, ins, if_neg (by rw [h1 g (by simp)]; decide), ins_front (fun x hx => h1 x (by simp [hx])) h2]; rfl
theorem pos_ahead : ∀ (t : List Fl) (p : Bs), ∀ g ∈ t.take (pos t p), lt g.path p = true
  | [], _, g, h => by simp [pos] at h
  | f :: t, p, g, h => by
    rw [pos] at h
    split at h
    · next hl =>
      rw [List.take_succ_cons] at h
      rcases List.mem_cons.1 h with rfl | h
      · exact hl
      · exact pos_ahead t p g h
    · simp at h
theorem pos_behind : ∀ {q : Option Bs} {t : List Fl} {p : Bs}, go q t = true → ∀ g ∈ t.drop (upto t p), lt p g.path = true
  | _, [], _, _, g, h => by simp at h
  | q, f :: t, p, h, g, hg => by
    have h0 := h
    simp only [go, Bool.and_eq_true] at h
    by_cases hl : lt f.path p = true
    · have e2 : upto (f :: t) p = upto t p + 1 := by
        unfold upto; rw [show pos (f :: t) p = pos t p + 1 by rw [pos, if_pos hl], show hit (f :: t) p = hit t p by rw [hit, if_pos hl]]; split <;> rfl
      rw [e2, List.drop_succ_cons] at hg
      exact pos_behind h.2 g hg
    · have e1 : pos (f :: t) p = 0 := by rw [pos, if_neg hl]
      by_cases he : f.path = p
      · have e2 : upto (f :: t) p = 1 := by unfold upto; rw [e1, show hit (f :: t) p = true by rw [hit, if_neg hl]; exact decide_eq_true he]; rfl
        rw [e2] at hg
        rw [← he]
        exact (go_above h.2 g hg).1
      · have e2 : upto (f :: t) p = 0 := by unfold upto; rw [e1, show hit (f :: t) p = false by rw [hit, if_neg hl]; exact decide_eq_false he]; rfl
        rw [e2, List.drop_zero] at hg
        have hpf : lt p f.path = true := by
          rcases lt_tri f.path p with h2 | h2 | h2
          · exact absurd h2 hl
          · exact absurd h2 he
          · exact h2
        rcases List.mem_cons.1 hg with rfl | hg
        · exact hpf
        · exact lt_trans hpf (go_above h.2 g hg).1
theorem put_at {q : Option Bs} {t : List Fl} (p x : Bs) (h : go q t = true) : ins ⟨p, x⟩ (drop t p) = t.take (pos t p) ++ ⟨p, x⟩ :: t.drop (upto t p) := by
  rw [drop_at h]
  refine ins_front (fun g hg => lt_asymm (pos_ahead t p g hg)) (fun g hg => pos_behind h g ?_)
  exact List.mem_of_mem_head? hg
theorem got_at : ∀ {q : Option Bs} {t : List Fl} {p : Bs}, go q t = true → (hit t p = false → get t p = ([], false)) ∧ (∀ g, t[pos t p]? = some g → hit t p = true → get t p = (g.text, true))
  | _, [], _, _ => ⟨fun _ => rfl, fun g h => by simp at h⟩
  | q, f :: t, p, h => by
    simp only [go, Bool.and_eq_true] at h
    have ih := got_at (p := p) h.2
    by_cases hl : lt f.path p = true
    · have e1 : pos (f :: t) p = pos t p + 1 := by rw [pos, if_pos hl]
      have e2 : hit (f :: t) p = hit t p := by rw [hit, if_pos hl]
      have e3 : get (f :: t) p = get t p := by rw [get, if_neg (lt_ne hl)]
      rw [e2, e3, e1]
      exact ⟨ih.1, fun g h' hh => ih.2 g h' hh⟩
    · have e1 : pos (f :: t) p = 0 := by rw [pos, if_neg hl]
      have e2 : hit (f :: t) p = decide (f.path = p) := by rw [hit, if_neg hl]
      rw [e2, e1, get]
      refine ⟨fun hh => ?_, fun g h' hh => ?_⟩
      · have hne : f.path ≠ p := of_decide_eq_false hh
        rw [if_neg hne]
        have hn : ∀ g ∈ t, g.path ≠ p := fun g hg => by
          have h1 : lt f.path g.path = true := (go_above h.2 g hg).1
          intro e
          rcases lt_tri f.path p with h2 | h2 | h2
          · exact hl h2
          · exact hne h2
          · rw [e] at h1
            have := lt_trans h1 h2
            rw [lt_irr] at this; cases this
        clear ih h e1 e2
        induction t with
        | nil => rfl
        | cons g t ih => rw [get, if_neg (hn g (by simp)), ih fun x hx => hn x (List.mem_cons_of_mem _ hx)]
      · obtain rfl : f = g := Option.some.inj h'
        rw [if_pos (of_decide_eq_true hh)]
end Go.Proofs.YtlplgkdoiinfhaaDoor.Tr
namespace Go.Proofs.YtlplgkdoiinfhaaDoor.Wr
open Go Go.RowKit Kt

def form (n : Nat) : List UInt8 := if n < 128 then [UInt8.ofNat n] else UInt8.ofNat (n % 128 + 128) :: form (n / 128)
termination_by n
decreasing_by omega
theorem form_lt {n : Nat} (h : n < 128) : form n = [UInt8.ofNat n] := by rw [form, if_pos h]
theorem form_ge {n : Nat} (h : ¬ n < 128) : form n = UInt8.ofNat (n % 128 + 128) :: form (n / 128) := by rw [form, if_neg h]
def val : List UInt8 → Nat
  | [] => 0
  | b :: r => b.toNat % 128 + 128 * val r
/-- how many bytes of 128 or more stand first -/
def lead : List UInt8 → Nat
  | [] => 0
  | b :: r => if 128 ≤ b.toNat then lead r + 1 else 0
theorem lead_le (l : List UInt8) : lead l ≤ l.length := by
  induction l with
  | nil => simp [lead]
  | cons b r ih => simp only [lead, List.length_cons]; split <;> omega
theorem lead_at (l : List UInt8) : ∀ i, i < lead l → 128 ≤ (l.getD i 0).toNat := by
  induction l with
  | nil => intro i h; simp [lead] at h
  | cons b r ih =>
    intro i h
    simp only [lead] at h
    split at h
    · cases i with
      | zero => simpa
      | succ i => simpa using ih i (by omega)
    · omega
theorem lead_stop (l : List UInt8) (h : lead l < l.length) : (l.getD (lead l) 0).toNat < 128 := by
  induction l with
  | nil => simp at h
  | cons b r ih =>
    simp only [lead] at h ⊢
    split
    · rename_i hb
      rw [if_pos hb, List.length_cons] at h
      simpa using ih (by omega)
    · simp; omega
theorem lead_of (l : List UInt8) : ∀ k, k < l.length → (∀ i, i < k → 128 ≤ (l.getD i 0).toNat) → (l.getD k 0).toNat < 128 → lead l = k := by
  induction l with
  | nil => intro k h; simp at h
  | cons b r ih =>
    intro k h h1 h2
    cases k with
    | zero => simp at h2; simp [lead]; omega
    | succ k =>
      have hb := h1 0 (by omega)
      simp at hb
      rw [lead, if_pos hb, ih k (by simpa using h) (fun i hi => by simpa using h1 (i + 1) (by omega)) (by simpa using h2)]
theorem lead_all (l : List UInt8) (h : ∀ i, i < l.length → 128 ≤ (l.getD i 0).toNat) : lead l = l.length := by
  rcases Nat.lt_or_ge (lead l) l.length with h1 | h1
  · have := lead_stop l h1
    have := h _ h1
    omega
  · have := lead_le l
    omega
theorem getD_app (l r : List UInt8) (i : Nat) (h : i < l.length) : (l ++ r).getD i 0 = l.getD i 0 := by
  simp [List.getD_eq_getElem?_getD, List.getElem?_append_left h]
theorem lead_append (l r : List UInt8) (h : lead l < l.length) : lead (l ++ r) = lead l := by
  refine lead_of _ _ (by rw [List.length_append]; omega) (fun i hi => ?_) ?_
  · have := lead_at l i hi
    rwa [getD_app _ _ _ (by omega)]
  · rw [getD_app _ _ _ h]
    exact lead_stop l h

/-- the number, how many bytes, why not -/
def numOf (bs : List UInt8) : Nat × Nat × Nat :=
  if 10 ≤ lead bs then (0, 0, 3)
  else if lead bs = bs.length then (0, 0, 2)
  else if (0 < lead bs ∧ (bs.getD (lead bs) 0).toNat = 0) ∨ (lead bs = 9 ∧ 1 < (bs.getD (lead bs) 0).toNat) then (0, 0, 3)
  else (val (bs.take (lead bs + 1)), lead bs + 1, 0)

theorem toNat_of {n : Nat} (h : n < 256) : (UInt8.ofNat n).toNat = n := by rw [UInt8.toNat_ofNat']; omega
theorem val_form (n : Nat) : val (form n) = n := by
  induction n using Nat.strongRecOn with
  | _ n ih =>
    by_cases h : n < 128
    · rw [form_lt h, val, val, toNat_of (by omega)]; omega
    · rw [form_ge h, val, ih _ (by omega), toNat_of (by omega)]; omega
theorem form_ne (n : Nat) : form n ≠ [] := by
  by_cases h : n < 128
  · rw [form_lt h]; simp
  · rw [form_ge h]; simp
theorem form_pos (n : Nat) : 0 < (form n).length := List.length_pos_iff.2 (form_ne n)
theorem form_lead (n : Nat) : lead (form n) + 1 = (form n).length := by
  induction n using Nat.strongRecOn with
  | _ n ih =>
    by_cases h : n < 128
    · rw [form_lt h, lead, toNat_of (by omega), if_neg (by omega)]; rfl
    · rw [form_ge h, lead, toNat_of (by omega), if_pos (by omega), ih _ (by omega)]; rfl
/-- its last byte isn't 0, if it has more than one -/
theorem form_last (n : Nat) (h : 128 ≤ n) : ((form n).getD (lead (form n)) 0).toNat ≠ 0 := by
  induction n using Nat.strongRecOn with
  | _ n ih =>
    rw [form_ge (by omega), lead, toNat_of (by omega), if_pos (by omega)]
    simp only [List.getD_cons_succ]
    by_cases h2 : n / 128 < 128
    · rw [form_lt h2, lead, toNat_of (by omega), if_neg (by omega)]
      simp only [List.getD_cons_zero]
      rw [toNat_of (by omega)]
      omega
    · exact ih _ (by omega) (by omega)
theorem form_short (n : Nat) : ∀ k, n < 128 ^ k → 0 < k → (form n).length ≤ k := by
  induction n using Nat.strongRecOn with
  | _ n ih =>
    intro k hn hk
    by_cases h : n < 128
    · rw [form_lt h]; simp; omega
    · rw [form_ge h, List.length_cons]
      cases k with
      | zero => omega
      | succ k =>
        have hk0 : 0 < k := by
          rcases Nat.eq_zero_or_pos k with rfl | hk0
          · simp at hn; omega
          · exact hk0
        have := ih (n / 128) (by omega) k (by rw [Nat.pow_succ] at hn; omega) hk0
        omega
theorem val_append (l r : List UInt8) : val (l ++ r) = val l + 128 ^ l.length * val r := by
  induction l with
  | nil => simp [val]
  | cons b l ih =>
    rw [List.cons_append, val, val, ih, List.length_cons, Nat.pow_succ, Nat.mul_add]
    rw [Nat.mul_comm (128 ^ l.length) 128, Nat.mul_assoc, Nat.add_assoc]
theorem val_lt (l : List UInt8) : val l < 128 ^ l.length := by
  induction l with
  | nil => simp [val]
  | cons b l ih =>
    rw [val, List.length_cons, Nat.pow_succ]
    have := Nat.mod_lt b.toNat (show 0 < 128 by omega)
    omega
/-- digits of which all but the last one are 128 or more, and the last one isn't 0, or is the only one, are a form -/
theorem form_val : ∀ l : List UInt8, lead l + 1 = l.length → (0 < lead l → (l.getD (lead l) 0).toNat ≠ 0) → form (val l) = l
  | [], h, _ => by simp [lead] at h
  | [b], h, _ => by
    have hb : b.toNat < 128 := by
      by_cases hb : 128 ≤ b.toNat
      · simp [lead, hb] at h
      · omega
    rw [val, val, form_lt (by omega), Nat.mod_eq_of_lt hb]
    simp
  | b :: c :: r, h, h0 => by
    have hb : 128 ≤ b.toNat := by
      by_cases hb : 128 ≤ b.toNat
      · exact hb
      · simp [lead, hb] at h
    have e : lead (b :: c :: r) = lead (c :: r) + 1 := by rw [lead, if_pos hb]
    rw [e] at h h0
    have h1 : lead (c :: r) + 1 = (c :: r).length := by rw [List.length_cons] at h; omega
    have hn := h0 (by omega)
    rw [List.getD_cons_succ] at hn
    have ih := form_val (c :: r) h1 (fun _ => hn)
    have hpos : 0 < val (c :: r) := by
      rcases Nat.eq_zero_or_pos (val (c :: r)) with hz | hz
      · exfalso
        rw [hz, form_lt (by omega)] at ih
        rw [← ih] at hn
        revert hn
        decide
      · exact hz
    have hb8 := toNat_lt b
    rw [val, form_ge (by omega)]
    rw [show (b.toNat % 128 + 128 * val (c :: r)) / 128 = val (c :: r) from by omega, show (b.toNat % 128 + 128 * val (c :: r)) % 128 + 128 = b.toNat from by omega, ih]
    simp
theorem take_getD (l : List UInt8) (k i : Nat) (h : i < k) : (l.take k).getD i 0 = l.getD i 0 := by
  simp [List.getD_eq_getElem?_getD, h]
theorem lead_take (bs : List UInt8) (h : lead bs < bs.length) : lead (bs.take (lead bs + 1)) = lead bs :=
  lead_of _ _ (by rw [List.length_take]; omega) (fun i hi => by rw [take_getD _ _ _ (by omega)]; exact lead_at bs i hi) (by rw [take_getD _ _ _ (by omega)]; exact lead_stop bs h)

theorem numOf_fail (bs : List UInt8) (n k e : Nat) (h : numOf bs = (n, k, e)) (he : e ≠ 0) : n = 0 ∧ k = 0 ∧ (e = 2 ∨ e = 3) := by
  unfold numOf at h
  split at h
  · cases h; exact ⟨rfl, rfl, .inr rfl⟩
  · split at h
    · cases h; exact ⟨rfl, rfl, .inl rfl⟩
    · split at h
      · cases h; exact ⟨rfl, rfl, .inr rfl⟩
      · cases h; exact absurd rfl he
/-- what is read as a number is a form -/
theorem numOf_ok (bs : List UInt8) (n k : Nat) (h : numOf bs = (n, k, 0)) : n < 18446744073709551616 ∧ 1 ≤ k ∧ k ≤ 10 ∧ k ≤ bs.length ∧ form n = bs.take k := by
  unfold numOf at h
  split at h
  · cases h
  · rename_i h1
    split at h
    · cases h
    · rename_i h2
      split at h
      · cases h
      · rename_i h3
        have hle := lead_le bs
        have hlt : lead bs < bs.length := by omega
        have hk : k = lead bs + 1 := by cases h; rfl
        have hn : n = val (bs.take k) := by cases h; rfl
        have hl : (bs.take k).length = k := by rw [List.length_take]; omega
        have hlead : lead (bs.take k) + 1 = (bs.take k).length := by rw [hl, hk, lead_take bs hlt]
        have hf : form n = bs.take k := by
          rw [hn]
          refine form_val _ hlead fun hp => ?_
          rw [hk, lead_take bs hlt] at hp ⊢
          rw [take_getD _ _ _ (by omega)]
          omega
        refine ⟨?_, by omega, by omega, by omega, hf⟩
        rw [hn, hk, List.take_succ_eq_append_getElem hlt, val_append]
        have hv := val_lt (bs.take (lead bs))
        have hlen : (bs.take (lead bs)).length = lead bs := by rw [List.length_take]; omega
        rw [hlen] at hv ⊢
        have hx : bs[lead bs] = bs.getD (lead bs) 0 := by simp [List.getElem?_eq_getElem hlt]
        have hs := lead_stop bs hlt
        rw [hx]
        simp only [val]
        generalize (bs.getD (lead bs) 0).toNat = x at *
        generalize val (bs.take (lead bs)) = v at *
        rcases Nat.lt_or_ge (lead bs) 9 with h9 | h9
        · have hp : 128 ^ (lead bs) ≤ 128 ^ 8 := Nat.pow_le_pow_right (by omega) (by omega)
          have : 128 ^ (lead bs) * (x % 128 + 128 * 0) ≤ 128 ^ 8 * 127 := Nat.mul_le_mul hp (by omega)
          omega
        · have e9 : lead bs = 9 := by omega
          rw [e9] at hv ⊢
          have : x ≤ 1 := by omega
          have : 128 ^ 9 * (x % 128 + 128 * 0) ≤ 128 ^ 9 * 1 := Nat.mul_le_mul_left _ (by omega)
          omega
/-- what stands behind changes nothing -/
theorem numOf_more (bs more : List UInt8) (h : (numOf bs).2.2 ≠ 2) : numOf (bs ++ more) = numOf bs := by
  have hle := lead_le bs
  unfold numOf at h ⊢
  by_cases h2 : lead bs = bs.length
  · have h10 : 10 ≤ lead bs := by
      by_cases h1 : 10 ≤ lead bs
      · exact h1
      · rw [if_neg h1, if_pos h2] at h; exact absurd rfl h
    have : lead bs ≤ lead (bs ++ more) := by
      rcases Nat.lt_or_ge (lead (bs ++ more)) (lead bs) with hlt | hge
      · have := lead_stop (bs ++ more) (by rw [List.length_append]; omega)
        rw [getD_app _ _ _ (by omega)] at this
        have := lead_at bs _ hlt
        omega
      · exact hge
    rw [if_pos (by omega), if_pos h10]
  · have hl := lead_append bs more (by omega)
    rw [hl, List.length_append, getD_app _ _ _ (by omega), List.take_append_of_le_length (by omega)]
    rw [if_neg (show ¬ lead bs = bs.length + more.length by omega), if_neg h2]
/-- what is put is read -/
theorem numOf_form (n : Nat) (r : List UInt8) (h : n < 18446744073709551616) : numOf (form n ++ r) = (n, (form n).length, 0) := by
  have hl := form_lead n
  have hs := form_short n 10 (by omega) (by omega)
  have h1 := lead_append (form n) r (by omega)
  unfold numOf
  rw [h1, if_neg (by omega), if_neg (by rw [List.length_append]; omega), getD_app _ _ _ (by omega), hl, List.take_left', val_form]
  · rw [if_neg]
    rintro (⟨h2, h3⟩ | ⟨h2, h3⟩)
    · refine form_last n ?_ h3
      rcases Nat.lt_or_ge n 128 with hn | hn
      · rw [form_lt hn] at hl; simp at hl; rw [form_lt hn] at h2; omega
      · exact hn
    · have hv := val_form n
      have hsplit : form n = (form n).take 9 ++ [(form n).getD 9 0] := by
        have e : (form n).take (9 + 1) = form n := List.take_of_length_le (by omega)
        rw [List.take_succ_eq_append_getElem (by omega)] at e
        have e2 : (form n)[9]'(by omega) = (form n).getD 9 0 := by simp [List.getElem?_eq_getElem (show 9 < (form n).length by omega)]
        rw [e2] at e
        exact e.symm
      rw [h2] at h3
      have hst := lead_stop (form n) (by omega)
      rw [h2] at hst
      rw [hsplit, val_append] at hv
      have : ((form n).take 9).length = 9 := by rw [List.length_take]; omega
      rw [this] at hv
      simp only [val] at hv
      generalize ((form n).getD 9 0).toNat = x at *
      generalize val ((form n).take 9) = v at *
      have : 128 ^ 9 * 2 ≤ 128 ^ 9 * (x % 128 + 128 * 0) := Nat.mul_le_mul_left _ (by omega)
      omega
  · rfl

/-- the text, where it ends, why not -/
def textOf (bs : List UInt8) (most : Int) : List UInt8 × Nat × Nat :=
  if (numOf bs).2.2 ≠ 0 then ([], 0, (numOf bs).2.2)
  else if (max most 0).toNat < (numOf bs).1 then ([], 0, 4)
  else if bs.length - (numOf bs).2.1 < (numOf bs).1 then ([], 0, 2)
  else ((bs.drop (numOf bs).2.1).take (numOf bs).1, (numOf bs).2.1 + (numOf bs).1, 0)
end Go.Proofs.YtlplgkdoiinfhaaDoor.Wr
namespace Go.Proofs.YtlplgkdoiinfhaaDoor.Tr
open Go Wr

def fFl (f : Fl) : Bs := form f.path.length ++ (f.path ++ (form f.text.length ++ f.text))
def enc (t : List Fl) : Bs := form t.length ++ t.flatMap fFl
def encode (t : List Fl) : Bs × Nat := if right t then (enc t, 0) else ([], 1)
/-- so many files, what is left, why there are none -/
def files : Nat → Bs → List Fl × Bs × Nat
  | 0, b => ([], b, 0)
  | n + 1, b =>
    if (textOf b 200).2.2 ≠ 0 then ([], [], (textOf b 200).2.2)
    else if (textOf (b.drop (textOf b 200).2.1) 65536).2.2 ≠ 0 then ([], [], (textOf (b.drop (textOf b 200).2.1) 65536).2.2)
    else
      let r := files n ((b.drop (textOf b 200).2.1).drop (textOf (b.drop (textOf b 200).2.1) 65536).2.1)
      (⟨(textOf b 200).1, (textOf (b.drop (textOf b 200).2.1) 65536).1⟩ :: r.1, r.2.1, r.2.2)
def decode (b : Bs) : List Fl × Nat :=
  if (numOf b).2.2 ≠ 0 then ([], (numOf b).2.2)
  else if 1000 < (numOf b).1 then ([], 4)
  else if (files (numOf b).1 (b.drop (numOf b).2.1)).2.2 ≠ 0 then ([], (files (numOf b).1 (b.drop (numOf b).2.1)).2.2)
  else if (files (numOf b).1 (b.drop (numOf b).2.1)).2.1 ≠ [] then ([], 5)
  else if right (files (numOf b).1 (b.drop (numOf b).2.1)).1 then ((files (numOf b).1 (b.drop (numOf b).2.1)).1, 0) else ([], 3)

theorem textOf_form (s r : Bs) (most : Int) (h : (s.length : Int) ≤ most) (hl : s.length < 18446744073709551616) : textOf (form s.length ++ (s ++ r)) most = (s, (form s.length).length + s.length, 0) := by
  unfold textOf
  rw [numOf_form _ _ hl]
  simp only [ne_eq, not_true_eq_false, if_false]
  rw [if_neg (by omega), if_neg (by simp), List.drop_left, List.take_left]
theorem textOf_ok {b s : Bs} {most : Int} {k : Nat} (h : textOf b most = (s, k, 0)) : b = form s.length ++ (s ++ b.drop k) ∧ (s.length : Int) ≤ max most 0 := by
  unfold textOf at h
  by_cases h0 : (numOf b).2.2 ≠ 0
  · rw [if_pos h0] at h
    simp only [Prod.mk.injEq] at h
    exact absurd h.2.2 h0
  · rw [if_neg h0] at h
    by_cases h1 : (max most 0).toNat < (numOf b).1
    · rw [if_pos h1] at h; simp at h
    · rw [if_neg h1] at h
      by_cases h2 : b.length - (numOf b).2.1 < (numOf b).1
      · rw [if_pos h2] at h; simp at h
      · rw [if_neg h2] at h
        simp only [Prod.mk.injEq, and_true] at h
        obtain ⟨hs, hk⟩ := h
        have he : (numOf b).2.2 = 0 := by simpa using h0
        obtain ⟨_, _, _, hle, hf⟩ := numOf_ok b (numOf b).1 (numOf b).2.1 (by rw [← he])
        have hl : s.length = (numOf b).1 := by rw [← hs, List.length_take, List.length_drop]; omega
        refine ⟨?_, by omega⟩
        rw [hl, hf, ← hk, ← List.drop_drop, ← hs, List.take_append_drop, List.take_append_drop]
theorem files_enc : ∀ (t : List Fl) (r : Bs), (∀ f ∈ t, f.path.length ≤ 200 ∧ f.text.length ≤ 65536) → files t.length (t.flatMap fFl ++ r) = (t, r, 0)
  | [], r, _ => rfl
  | f :: t, r, h => by
    have hf := h f (by simp)
    have ih := files_enc t r fun g hg => h g (by simp [hg])
    have e : (f :: t).flatMap fFl ++ r = form f.path.length ++ (f.path ++ (form f.text.length ++ (f.text ++ (t.flatMap fFl ++ r)))) := by simp [fFl]
    rw [e, List.length_cons, files, textOf_form _ _ _ (by omega) (by omega)]
    simp only [ne_eq, not_true_eq_false, if_false]
    rw [← List.drop_drop, List.drop_left, List.drop_left, textOf_form _ _ _ (by omega) (by omega)]
    simp only [not_true_eq_false, if_false]
    rw [← List.drop_drop, List.drop_left, List.drop_left, ih]
theorem right_short {t : List Fl} (h : right t = true) : ∀ f ∈ t, f.path.length ≤ 200 ∧ f.text.length ≤ 65536 := fun f hf => by
  obtain ⟨_, h2, h3⟩ := go_above (right_go h).1 f hf
  unfold can at h2
  rw [Bool.and_eq_true, decide_eq_true_eq] at h2
  exact ⟨h2.1, h3⟩
/-- P10.4: what is told is read -/
theorem decode_enc {t : List Fl} (h : right t = true) : decode (enc t) = (t, 0) := by
  have hl := (right_go h).2
  have hf := files_enc t [] (right_short h)
  rw [List.append_nil] at hf
  unfold decode enc
  rw [numOf_form _ _ (by omega)]
  simp only [ne_eq, not_true_eq_false, if_false]
  rw [if_neg (by omega), List.drop_left, hf]
  simp only [not_true_eq_false, if_false]
  rw [if_pos h]
theorem files_ok : ∀ (n : Nat) (b r : Bs) (t : List Fl), files n b = (t, r, 0) → b = t.flatMap fFl ++ r ∧ t.length = n
  | 0, b, r, t, h => by
    simp only [files, Prod.mk.injEq, and_true] at h
    obtain ⟨rfl, rfl⟩ := h
    exact ⟨rfl, rfl⟩
  | n + 1, b, r, t, h => by
    rw [files] at h
    by_cases h1 : (textOf b 200).2.2 ≠ 0
    · rw [if_pos h1] at h
      simp only [Prod.mk.injEq] at h
      exact absurd h.2.2 h1
    · rw [if_neg h1] at h
      by_cases h2 : (textOf (b.drop (textOf b 200).2.1) 65536).2.2 ≠ 0
      · rw [if_pos h2] at h
        simp only [Prod.mk.injEq] at h
        exact absurd h.2.2 h2
      · rw [if_neg h2] at h
        simp only [Prod.mk.injEq] at h
        obtain ⟨ht, hr, he⟩ := h
        have e1 : (textOf b 200).2.2 = 0 := by simpa using h1
        have e2 : (textOf (b.drop (textOf b 200).2.1) 65536).2.2 = 0 := by simpa using h2
        have k1 := (textOf_ok (b := b) (most := 200) (s := (textOf b 200).1) (k := (textOf b 200).2.1) (by rw [← e1])).1
        have k2 := (textOf_ok (b := b.drop (textOf b 200).2.1) (most := 65536) (s := (textOf (b.drop (textOf b 200).2.1) 65536).1) (k := (textOf (b.drop (textOf b 200).2.1) 65536).2.1) (by rw [← e2])).1
        obtain ⟨i1, i2⟩ := files_ok n _ r _ (Prod.ext rfl (Prod.ext hr he))
        subst ht
        refine ⟨?_, by rw [List.length_cons, i2]⟩
        rw [List.flatMap_cons]
        conv => lhs; rw [k1, k2, i1]
        simp [fFl]
/-- P10.4: each form is one tree's -/
theorem enc_decode {b : Bs} {t : List Fl} (h : decode b = (t, 0)) : encode t = (b, 0) ∧ right t = true := by
  unfold decode at h
  by_cases h0 : (numOf b).2.2 ≠ 0
  · rw [if_pos h0] at h
    simp only [Prod.mk.injEq] at h
    exact absurd h.2 h0
  · rw [if_neg h0] at h
    by_cases h1 : 1000 < (numOf b).1
    · rw [if_pos h1] at h; simp at h
    · rw [if_neg h1] at h
      by_cases h2 : (files (numOf b).1 (b.drop (numOf b).2.1)).2.2 ≠ 0
      · rw [if_pos h2] at h
        simp only [Prod.mk.injEq] at h
        exact absurd h.2 h2
      · rw [if_neg h2] at h
        by_cases h3 : (files (numOf b).1 (b.drop (numOf b).2.1)).2.1 ≠ []
        · rw [if_pos h3] at h; simp at h
        · rw [if_neg h3] at h
          by_cases h4 : right (files (numOf b).1 (b.drop (numOf b).2.1)).1 = true
          · rw [if_pos h4] at h
            simp only [Prod.mk.injEq, and_true] at h
            have e0 : (numOf b).2.2 = 0 := by simpa using h0
            have e2 : (files (numOf b).1 (b.drop (numOf b).2.1)).2.2 = 0 := by simpa using h2
            have e3 : (files (numOf b).1 (b.drop (numOf b).2.1)).2.1 = [] := by simpa using h3
            obtain ⟨_, _, _, hle, hf⟩ := numOf_ok b (numOf b).1 (numOf b).2.1 (by rw [← e0])
            obtain ⟨i1, i2⟩ := files_ok _ _ [] t (Prod.ext h (Prod.ext e3 e2))
            rw [h] at h4
            refine ⟨?_, h4⟩
            unfold encode
            rw [if_pos h4]
            unfold enc
            rw [i2, hf]
            congr 1
            rw [List.append_nil] at i1
            rw [← i1, List.take_append_drop]
          · rw [if_neg h4] at h; simp at h
theorem decode_none {b : Bs} (h : (decode b).2 ≠ 0) : (decode b).1 = [] := by
  unfold decode at h ⊢
  by_cases h0 : (numOf b).2.2 ≠ 0
  · rw [if_pos h0]
  · rw [if_neg h0] at h ⊢
    by_cases h1 : 1000 < (numOf b).1
    · rw [if_pos h1]
    · rw [if_neg h1] at h ⊢
      by_cases h2 : (files (numOf b).1 (b.drop (numOf b).2.1)).2.2 ≠ 0
      · rw [if_pos h2]
      · rw [if_neg h2] at h ⊢
        by_cases h3 : (files (numOf b).1 (b.drop (numOf b).2.1)).2.1 ≠ []
        · rw [if_pos h3]
        · rw [if_neg h3] at h ⊢
          by_cases h4 : right (files (numOf b).1 (b.drop (numOf b).2.1)).1 = true
          · rw [if_pos h4] at h; exact absurd rfl h
          · rw [if_neg h4]
end Go.Proofs.YtlplgkdoiinfhaaDoor.Tr
