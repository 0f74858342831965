/-
  Trees, on lists alone: paths that can be, files by rising paths, what is put and dropped. No program is named here.
-/
import GoSem.Op.String
import Derived.Lib.Bytealg
namespace Go.Proofs.Ytplmcpdlommmaaa.Tr
open Go

abbrev Bs := List UInt8
abbrev lt (a b : Bs) : Bool := Op.bytesLess a b
theorem lt_cons (x y : UInt8) (p q : Bs) : lt (x :: p) (y :: q) = (decide (x < y) || (x == y && lt p q)) := rfl
theorem lt_irr : ∀ a : Bs, lt a a = false
  | [] => rfl
  | x :: a => by rw [lt_cons, lt_irr a]; simp
theorem lt_tri : ∀ a b : Bs, lt a b = true ∨ a = b ∨ lt b a = true
  | [], [] => .inr (.inl rfl)
  | [], _ :: _ => .inl rfl
  | _ :: _, [] => .inr (.inr rfl)
  | x :: a, y :: b => by
    rw [lt_cons, lt_cons]
    rcases Nat.lt_trichotomy x.toNat y.toNat with h | h | h
    · left; simp [UInt8.lt_iff_toNat_lt, h]
    · have e : x = y := UInt8.toNat_inj.1 h
      subst e
      rcases lt_tri a b with h | h | h
      · left; simp [h]
      · right; left; rw [h]
      · right; right; simp [h]
    · right; right; simp [UInt8.lt_iff_toNat_lt, h]
theorem lt_trans : ∀ {a b c : Bs}, lt a b = true → lt b c = true → lt a c = true
  | _, [], _, h, _ => by simp [lt, Op.bytesLess] at h
  | _, _ :: _, [], _, h => by simp [lt, Op.bytesLess] at h
  | [], _ :: _, _ :: _, _, _ => rfl
  | x :: a, y :: b, z :: c, h1, h2 => by
    rw [lt_cons, Bool.or_eq_true, Bool.and_eq_true, decide_eq_true_iff, beq_iff_eq, UInt8.lt_iff_toNat_lt] at h1 h2 ⊢
    rcases h1 with h1 | ⟨e1, h1⟩
    · rcases h2 with h2 | ⟨e2, h2⟩
      · left; omega
      · subst e2; left; exact h1
    · subst e1
      rcases h2 with h2 | ⟨e2, h2⟩
      · left; exact h2
      · subst e2; right; exact ⟨rfl, lt_trans h1 h2⟩
theorem lt_asymm {a b : Bs} (h : lt a b = true) : lt b a = false := by
  cases hb : lt b a with
  | false => rfl
  | true => have := lt_trans h hb; rw [lt_irr] at this; cases this
theorem lt_ne {a b : Bs} (h : lt a b = true) : a ≠ b := fun e => by rw [e, lt_irr] at h; cases h
/-- a part of a path that can be -/
def part (p : Bs) : Bool := !decide (p = []) && !decide (p = [46]) && !decide (p = [46, 46])
/-- the rest of a path, behind the bytes of a part -/
def rest : Bs → Bs → Bool
  | q, [] => part q
  | q, c :: r => if c = 47 then part q && rest [] r else !(decide (c < 32) || c == 127) && rest (q ++ [c]) r
/-- can a path be? -/
def can (p : Bs) : Bool := decide (p.length ≤ 200) && rest [] p
/-- a file -/
structure Fl where
  path : Bs
  text : Bs
deriving DecidableEq
/-- is a path above the one ahead of it? -/
def above : Option Bs → Bs → Bool
  | none, _ => true
  | some p, q => lt p q
/-- are files right, behind the path of the one ahead? -/
def go : Option Bs → List Fl → Bool
  | _, [] => true
  | p, f :: t => can f.path && decide (f.text.length ≤ 65536) && above p f.path && go (some f.path) t
def right (t : List Fl) : Bool := go none t && decide (t.length ≤ 1000)
def get (t : List Fl) (p : Bs) : Bs × Bool :=
  match t with
  | [] => ([], false)
  | f :: t => if f.path = p then (f.text, true) else get t p
def drop (t : List Fl) (p : Bs) : List Fl := t.filter fun f => !decide (f.path = p)
def ins (f : Fl) : List Fl → List Fl
  | [] => [f]
  | g :: t => if lt f.path g.path then f :: g :: t else g :: ins f t
/-- a tree with a file; why there is none -/
def put (t : List Fl) (f : Fl) : List Fl × Nat :=
  if can f.path = false then ([], 7) else if 65536 < f.text.length ∨ 1000 ≤ (drop t f.path).length then ([], 4) else (ins f (drop t f.path), 0)

theorem go_weak {p q : Option Bs} {t : List Fl} (h : go p t = true) (hw : ∀ x, above p x = true → above q x = true) : go q t = true := by
  cases t with
  | nil => rfl
  | cons f t =>
    simp only [go, Bool.and_eq_true] at h ⊢
    exact ⟨⟨h.1.1, hw _ h.1.2⟩, h.2⟩
theorem above_trans {p : Option Bs} {x y : Bs} (h : above p x = true) (h' : lt x y = true) : above p y = true := by
  cases p with
  | none => rfl
  | some p => exact lt_trans h h'
theorem go_above {p : Option Bs} : ∀ {t : List Fl}, go p t = true → ∀ f ∈ t, above p f.path = true ∧ can f.path = true ∧ f.text.length ≤ 65536
  | [], _, f, hf => by cases hf
  | g :: t, h, f, hf => by
    simp only [go, Bool.and_eq_true, decide_eq_true_eq] at h
    rcases List.mem_cons.1 hf with rfl | hf
    · exact ⟨h.1.2, h.1.1.1, h.1.1.2⟩
    · obtain ⟨h1, h2⟩ := go_above h.2 f hf
      exact ⟨above_trans h.1.2 h1, h2⟩
/-- dropped, files stay right -/
theorem go_drop (p : Bs) : ∀ {q : Option Bs} {t : List Fl}, go q t = true → go q (drop t p) = true
  | _, [], _ => rfl
  | q, f :: t, h => by
    simp only [go, Bool.and_eq_true] at h
    have ih := go_drop p h.2
    unfold drop at ih ⊢
    rw [List.filter_cons]
    split
    · simp only [go, Bool.and_eq_true]
      exact ⟨h.1, ih⟩
    · exact go_weak ih fun x hx => above_trans h.1.2 hx
theorem drop_none {t : List Fl} {p : Bs} (h : ∀ f ∈ t, f.path ≠ p) : drop t p = t := by
  unfold drop
  rw [List.filter_eq_self]
  intro f hf
  simp [h f hf]
theorem drop_not (t : List Fl) (p : Bs) : ∀ f ∈ drop t p, f.path ≠ p := by
  intro f hf
  unfold drop at hf
  have := (List.mem_filter.1 hf).2
  simpa using this
theorem mem_drop {t : List Fl} {p : Bs} {f : Fl} : f ∈ drop t p ↔ f ∈ t ∧ f.path ≠ p := by
  unfold drop
  rw [List.mem_filter]
  simp
theorem mem_ins {f g : Fl} : ∀ {t : List Fl}, g ∈ ins f t ↔ g = f ∨ g ∈ t
  | [] => by simp [ins]
  | h :: t => by
    have ih := mem_ins (f := f) (g := g) (t := t)
    rw [ins]
    split
    · simp
    · rw [List.mem_cons, ih, List.mem_cons]
      constructor
      · rintro (h | h | h)
        · exact .inr (.inl h)
        · exact .inl h
        · exact .inr (.inr h)
      · rintro (h | h | h)
        · exact .inr (.inl h)
        · exact .inl h
        · exact .inr (.inr h)
theorem ins_len (f : Fl) : ∀ t : List Fl, (ins f t).length = t.length + 1
  | [] => rfl
  | g :: t => by
    have ih := ins_len f t
    rw [ins]
    split
    · simp
    · simp [ih]
/-- put among others, files stay right -/
theorem go_ins {f : Fl} (hc : can f.path = true) (hl : f.text.length ≤ 65536) : ∀ {q : Option Bs} {t : List Fl}, go q t = true → above q f.path = true → (∀ g ∈ t, g.path ≠ f.path) → go q (ins f t) = true
  | q, [], _, hq, _ => by simp [ins, go, hc, hl, hq]
  | q, g :: t, h, hq, hn => by
    have h' := h
    simp only [go, Bool.and_eq_true] at h
    rw [ins]
    split
    · rename_i hlt
      simp only [go, Bool.and_eq_true, decide_eq_true_eq]
      exact ⟨⟨⟨hc, hl⟩, hq⟩, ⟨⟨h.1.1.1, of_decide_eq_true h.1.1.2⟩, hlt⟩, h.2⟩
    · rename_i hlt
      simp only [go, Bool.and_eq_true]
      refine ⟨h.1, go_ins hc hl h.2 ?_ fun x hx => hn x (by simp [hx])⟩
      show lt g.path f.path = true
      rcases lt_tri g.path f.path with h1 | h1 | h1
      · exact h1
      · exact absurd h1 (hn g (by simp))
      · exact absurd h1 hlt
/-- files that are right are told by which they are -/
theorem go_ext : ∀ {q r : Option Bs} {t u : List Fl}, go q t = true → go r u = true → (∀ f, f ∈ t ↔ f ∈ u) → t = u
  | _, _, [], [], _, _, _ => rfl
  | _, _, [], f :: u, _, _, h => by have := (h f).2 (by simp); cases this
  | _, _, f :: t, [], _, _, h => by have := (h f).1 (by simp); cases this
  | q, r, f :: t, g :: u, h1, h2, h => by
    simp only [go, Bool.and_eq_true] at h1 h2
    have a1 := go_above h1.2
    have a2 := go_above h2.2
    have e : f = g := by
      rcases List.mem_cons.1 ((h f).1 (by simp)) with h' | h'
      · exact h'
      · rcases List.mem_cons.1 ((h g).2 (by simp)) with h'' | h''
        · exact h''.symm
        · have := lt_trans (a1 g h'').1 (a2 f h').1
          rw [lt_irr] at this; cases this
    subst e
    congr 1
    refine go_ext h1.2 h2.2 fun x => ⟨fun hx => ?_, fun hx => ?_⟩
    · rcases List.mem_cons.1 ((h x).1 (by simp [hx])) with h' | h'
      · subst h'; have := (a1 x hx).1; rw [show above (some x.path) x.path = lt x.path x.path from rfl, lt_irr] at this; cases this
      · exact h'
    · rcases List.mem_cons.1 ((h x).2 (by simp [hx])) with h' | h'
      · subst h'; have := (a2 x hx).1; rw [show above (some x.path) x.path = lt x.path x.path from rfl, lt_irr] at this; cases this
      · exact h'
theorem go_len {q : Option Bs} {t : List Fl} (h : go q t = true) (p : Bs) : t.length ≤ (drop t p).length + 1 := by
  induction t generalizing q with
  | nil => simp
  | cons f t ih =>
    simp only [go, Bool.and_eq_true] at h
    have ih := ih h.2
    unfold drop at ih ⊢
    rw [List.filter_cons]
    split
    · simp only [List.length_cons]; omega
    · rename_i hf
      have hf : f.path = p := by simpa using hf
      have e : List.filter (fun g => !decide (g.path = p)) t = t := by
        rw [List.filter_eq_self]
        intro g hg
        have := (go_above h.2 g hg).1
        rw [hf] at this
        have hne : ¬ g.path = p := fun e => lt_ne this e.symm
        simp [hne]
      rw [e]; simp
/-- P10.2: what is put is right -/
theorem put_right {t : List Fl} {f : Fl} (h : right t = true) (he : (put t f).2 = 0) : right (put t f).1 = true ∧ (put t f).1 = ins f (drop t f.path) ∧ can f.path = true ∧ f.text.length ≤ 65536 := by
  unfold right at h ⊢
  rw [Bool.and_eq_true, decide_eq_true_eq] at h
  unfold put at he ⊢
  by_cases hc : can f.path = false
  · rw [if_pos hc] at he; cases he
  · rw [if_neg hc] at he ⊢
    by_cases hl : 65536 < f.text.length ∨ 1000 ≤ (drop t f.path).length
    · rw [if_pos hl] at he; cases he
    · rw [if_neg hl] at he ⊢
      have hc : can f.path = true := by simpa using hc
      refine ⟨?_, rfl, hc, by omega⟩
      rw [Bool.and_eq_true, decide_eq_true_eq]
      exact ⟨go_ins hc (by omega) (go_drop _ h.1) rfl (drop_not t f.path), by rw [ins_len]; omega⟩
theorem get_some {t : List Fl} {p : Bs} (h : (get t p).2 = true) : ∃ f ∈ t, f.path = p ∧ (get t p).1 = f.text := by
  induction t with
  | nil => simp [get] at h
  | cons g t ih =>
    rw [get] at h ⊢
    by_cases hg : g.path = p
    · rw [if_pos hg]; exact ⟨g, by simp, hg, rfl⟩
    · rw [if_neg hg] at h ⊢
      obtain ⟨f, hf, e⟩ := ih h
      exact ⟨f, by simp [hf], e⟩
theorem get_none {t : List Fl} {p : Bs} (h : ∀ f ∈ t, f.path ≠ p) : get t p = ([], false) := by
  induction t with
  | nil => rfl
  | cons g t ih =>
    rw [get, if_neg (h g (by simp))]
    exact ih fun f hf => h f (by simp [hf])
/-- of right files the one with a path is told -/
theorem get_is {q : Option Bs} {t : List Fl} (h : go q t = true) {f : Fl} (hf : f ∈ t) : get t f.path = (f.text, true) := by
  induction t generalizing q with
  | nil => cases hf
  | cons g t ih =>
    simp only [go, Bool.and_eq_true] at h
    rw [get]
    by_cases hg : g.path = f.path
    · rw [if_pos hg]
      rcases List.mem_cons.1 hf with rfl | hf
      · rfl
      · have := (go_above h.2 f hf).1
        exact absurd hg (lt_ne this)
    · rw [if_neg hg]
      rcases List.mem_cons.1 hf with rfl | hf
      · exact absurd rfl hg
      · exact ih h.2 hf
theorem get_same {q r : Option Bs} {t u : List Fl} (h : go q t = true) (h' : go r u = true) {p : Bs} (hm : ∀ f, f.path = p → (f ∈ t ↔ f ∈ u)) : get t p = get u p := by
  by_cases hx : ∃ f ∈ t, f.path = p
  · obtain ⟨f, hf, e⟩ := hx
    subst e
    rw [get_is h hf, get_is h' ((hm f rfl).1 hf)]
  · have hn : ∀ f ∈ t, f.path ≠ p := fun f hf e => hx ⟨f, hf, e⟩
    rw [get_none hn, get_none fun f hf e => hn f ((hm f e).2 hf) e]
end Go.Proofs.Ytplmcpdlommmaaa.Tr
namespace Go.Proofs.Ytplmcpdlommmaaa.Dq
open Go Tr

structure Nd where
  id : Bs
  ps : List Bs
  on : Bool
deriving DecidableEq
/-- a list of ids with one more -/
def putId : List Bs → Bs → List Bs
  | [], x => [x]
  | y :: r, x => if y = x then y :: r else if lt x y then x :: y :: r else y :: putId r x
def sortIds (l : List Bs) : List Bs := l.foldl putId []
def get (D : List Nd) (id : Bs) : Option Nd := D.find? fun n => decide (n.id = id)
def has (D : List Nd) (id : Bs) : Bool := match get D id with
  | some n => n.on
  | none => false
def ready (D : List Nd) (ps : List Bs) : Bool := ps.all (has D)
def insN (x : Nd) : List Nd → List Nd
  | [] => [x]
  | y :: r => if lt x.id y.id then x :: y :: r else y :: insN x r
/-- the place of the first one that waits, and needn't -/
def nxt (D : List Nd) : Option Nat := D.findIdx? fun n => !n.on && ready D n.ps
def turnOn (D : List Nd) (i : Nat) : List Nd := D.modify i fun n => ⟨n.id, n.ps, true⟩
def fill : Nat → List Nd → List Bs → List Nd × List Bs
  | 0, D, o => (D, o)
  | f + 1, D, o => match nxt D with
    | none => (D, o)
    | some i => fill f (turnOn D i) (o ++ [(D.getD i ⟨[], [], false⟩).id])
def add (D : List Nd) (id : Bs) (ps : List Bs) : List Nd × List Bs :=
  if (get D id).isSome then (D, [])
  else if ready D (sortIds ps) then fill (D.length + 1) (insN ⟨id, sortIds ps, true⟩ D) [id]
  else (insN ⟨id, sortIds ps, false⟩ D, [])
def all (D : List Nd) (b : Bool) : List Bs := (D.filter fun n => n.on == b).map Nd.id
def lacks (D : List Nd) : List Bs := ((D.filter fun n => !n.on).flatMap Nd.ps).foldl (fun o p => if (get D p).isSome then o else putId o p) []
def parents (D : List Nd) (id : Bs) : List Bs := match get D id with
  | some n => if n.on then n.ps else []
  | none => []
def lv : Nat → List Nd → Bs → Nat
  | 0, _, _ => 0
  | f + 1, D, id => ((parents D id).map fun p => lv f D p + 1).foldl max 0
def level (D : List Nd) (id : Bs) : Int := if has D id then (lv D.length D id : Int) else -1
def heads (D : List Nd) : List Bs := (D.filter fun n => n.on && !D.any fun m => m.on && m.ps.contains n.id).map Nd.id
def ab : Nat → List Nd → Bs → Bs → Bool
  | 0, _, a, b => decide (a = b)
  | f + 1, D, a, b => decide (a = b) || (parents D b).any (ab f D a)
def above (D : List Nd) (a b : Bs) : Bool := has D a && has D b && ab D.length D a b

/-- ids rise -/
def Up (l : List Bs) : Prop := l.Pairwise fun a b => lt a b = true
theorem get_some {D : List Nd} {id : Bs} {n : Nd} (h : get D id = some n) : n ∈ D ∧ n.id = id := by
  unfold get at h
  exact ⟨List.mem_of_find?_eq_some h, by simpa using List.find?_some h⟩
theorem get_none {D : List Nd} {id : Bs} (h : get D id = none) : ∀ n ∈ D, n.id ≠ id := by
  intro n hn e
  unfold get at h
  have := List.find?_eq_none.1 h n hn
  simp [e] at this
theorem up_once {D : List Nd} (h : Up (D.map Nd.id)) {m n : Nd} (hm : m ∈ D) (hn : n ∈ D) (he : m.id = n.id) : m = n := by
  induction D with
  | nil => cases hm
  | cons x r ih =>
    rw [List.map_cons] at h
    obtain ⟨h1, h2⟩ := List.pairwise_cons.1 h
    rcases List.mem_cons.1 hm with k1 | k1
    · rcases List.mem_cons.1 hn with k2 | k2
      · rw [k1, k2]
      · exact absurd he (lt_ne (by rw [k1]; exact h1 _ (List.mem_map_of_mem k2)))
    · rcases List.mem_cons.1 hn with k2 | k2
      · exact absurd he.symm (lt_ne (by rw [k2]; exact h1 _ (List.mem_map_of_mem k1)))
      · exact ih h2 k1 k2
theorem get_of {D : List Nd} (h : Up (D.map Nd.id)) {n : Nd} (hn : n ∈ D) : get D n.id = some n := by
  cases hg : get D n.id with
  | none => exact absurd rfl (get_none hg n hn)
  | some m => rw [up_once h (get_some hg).1 hn (get_some hg).2]
theorem has_of {D : List Nd} (h : Up (D.map Nd.id)) {n : Nd} (hn : n ∈ D) : has D n.id = n.on := by
  unfold has
  rw [get_of h hn]
theorem has_iff {D : List Nd} (h : Up (D.map Nd.id)) {id : Bs} : has D id = true ↔ ∃ n ∈ D, n.id = id ∧ n.on = true := by
  constructor
  · intro k
    unfold has at k
    split at k
    · next n hg => exact ⟨n, (get_some hg).1, (get_some hg).2, k⟩
    · cases k
  · rintro ⟨n, hn, rfl, ho⟩
    rw [has_of h hn]; exact ho
theorem insN_mem {x : Nd} {D : List Nd} {n : Nd} : n ∈ insN x D ↔ n = x ∨ n ∈ D := by
  induction D with
  | nil => simp [insN]
  | cons y r ih =>
    unfold insN
    split
    · simp [List.mem_cons]
    · rw [List.mem_cons, ih, List.mem_cons]
      constructor
      · rintro (h | h | h)
        · exact .inr (.inl h)
        · exact .inl h
        · exact .inr (.inr h)
      · rintro (h | h | h)
        · exact .inr (.inl h)
        · exact .inl h
        · exact .inr (.inr h)
theorem insN_up {x : Nd} {D : List Nd} (h : Up (D.map Nd.id)) (hx : ∀ n ∈ D, n.id ≠ x.id) : Up ((insN x D).map Nd.id) := by
  induction D with
  | nil => simp [insN, Up]
  | cons y r ih =>
    rw [List.map_cons] at h
    obtain ⟨h1, h2⟩ := List.pairwise_cons.1 h
    unfold insN
    split
    · next hl =>
      rw [List.map_cons, List.map_cons]
      refine List.pairwise_cons.2 ⟨fun b hb => ?_, h⟩
      rcases List.mem_cons.1 hb with rfl | hb
      · exact hl
      · exact lt_trans hl (h1 b hb)
    · next hl =>
      rw [List.map_cons]
      refine List.pairwise_cons.2 ⟨fun b hb => ?_, ih h2 fun n hn => hx n (List.mem_cons_of_mem _ hn)⟩
      obtain ⟨n, hn, rfl⟩ := List.mem_map.1 hb
      rcases insN_mem.1 hn with rfl | hn
      · rcases lt_tri n.id y.id with k | k | k
        · exact absurd k hl
        · exact absurd k.symm (hx y List.mem_cons_self)
        · exact k
      · exact h1 _ (List.mem_map_of_mem hn)
theorem insN_len (x : Nd) (D : List Nd) : (insN x D).length = D.length + 1 := by
  induction D with
  | nil => rfl
  | cons y r ih =>
    unfold insN
    split
    · rfl
    · rw [List.length_cons, ih, List.length_cons]
theorem turnOn_ids (D : List Nd) (i : Nat) : (turnOn D i).map Nd.id = D.map Nd.id := by
  apply List.ext_getElem?
  intro k
  unfold turnOn
  rw [List.getElem?_map, List.getElem?_map, List.getElem?_modify]
  split <;> cases D[k]? <;> rfl
theorem turnOn_len (D : List Nd) (i : Nat) : (turnOn D i).length = D.length := by simp [turnOn]
theorem turnOn_bas (D : List Nd) (i : Nat) : (turnOn D i).map (fun n => (n.id, n.ps)) = D.map fun n => (n.id, n.ps) := by
  apply List.ext_getElem?
  intro k
  unfold turnOn
  rw [List.getElem?_map, List.getElem?_map, List.getElem?_modify]
  split <;> cases D[k]? <;> rfl
/-- a rank for what is in: below it lie its parents -/
structure Inv (D : List Nd) : Prop where
  up : Up (D.map Nd.id)
  rank : ∃ r : Bs → Nat, (∀ n ∈ D, n.on = true → r n.id < (D.filter Nd.on).length) ∧ ∀ n ∈ D, n.on = true → ∀ p ∈ n.ps, has D p = true ∧ r p < r n.id
/-- who needn't wait doesn't -/
def Full (D : List Nd) : Prop := ∀ n ∈ D, n.on = false → ready D n.ps = false
end Go.Proofs.Ytplmcpdlommmaaa.Dq
