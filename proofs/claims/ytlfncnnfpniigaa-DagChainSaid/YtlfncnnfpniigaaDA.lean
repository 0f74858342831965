/-
  A graph of ids, on lists alone: what is added, what is in, what waits. No program is named here.
-/
import Derived.Test.YtlfncnnfpniigaaTA
namespace Go.Proofs.Ytlfncnnfpniigaa.Dq
open Go Tr

structure Nd where
  id : Bs
  ps : List Bs
  on : Bool
deriving DecidableEq
/-- a list of ids with one more -/
def putId : List Bs → Bs → List Bs
  | [], x => [x]
  | y :: r, x => if y = x then y :: r else if lt x y then x :: y :: r else y :: putId r x
def sortIds (l : List Bs) : List Bs := l.foldl putId []
def get (D : List Nd) (id : Bs) : Option Nd := D.find? fun n => decide (n.id = id)
def has (D : List Nd) (id : Bs) : Bool := match get D id with
  | some n => n.on
  | none => false
def ready (D : List Nd) (ps : List Bs) : Bool := ps.all (has D)
def insN (x : Nd) : List Nd → List Nd
  | [] => [x]
  | y :: r => if lt x.id y.id then x :: y :: r else y :: insN x r
/-- the place of the first one that waits, and needn't -/
def nxt (D : List Nd) : Option Nat := D.findIdx? fun n => !n.on && ready D n.ps
def turnOn (D : List Nd) (i : Nat) : List Nd := D.modify i fun n => ⟨n.id, n.ps, true⟩
def fill : Nat → List Nd → List Bs → List Nd × List Bs
  | 0, D, o => (D, o)
  | f + 1, D, o => match nxt D with
    | none => (D, o)
    | some i => fill f (turnOn D i) (o ++ [(D.getD i ⟨[], [], false⟩).id])
def add (D : List Nd) (id : Bs) (ps : List Bs) : List Nd × List Bs :=
  if (get D id).isSome then (D, [])
  else if ready D (sortIds ps) then fill (D.length + 1) (insN ⟨id, sortIds ps, true⟩ D) [id]
  else (insN ⟨id, sortIds ps, false⟩ D, [])
def all (D : List Nd) (b : Bool) : List Bs := (D.filter fun n => n.on == b).map Nd.id
def lacks (D : List Nd) : List Bs := ((D.filter fun n => !n.on).flatMap Nd.ps).foldl (fun o p => if (get D p).isSome then o else putId o p) []
def parents (D : List Nd) (id : Bs) : List Bs := match get D id with
  | some n => if n.on then n.ps else []
  | none => []
def lv : Nat → List Nd → Bs → Nat
  | 0, _, _ => 0
  | f + 1, D, id => ((parents D id).map fun p => lv f D p + 1).foldl max 0
def level (D : List Nd) (id : Bs) : Int := if has D id then (lv D.length D id : Int) else -1
def heads (D : List Nd) : List Bs := (D.filter fun n => n.on && !D.any fun m => m.on && m.ps.contains n.id).map Nd.id
def ab : Nat → List Nd → Bs → Bs → Bool
  | 0, _, a, b => decide (a = b)
  | f + 1, D, a, b => decide (a = b) || (parents D b).any (ab f D a)
def above (D : List Nd) (a b : Bs) : Bool := has D a && has D b && ab D.length D a b

/-- ids rise -/
def Up (l : List Bs) : Prop := l.Pairwise fun a b => lt a b = true
theorem get_some {D : List Nd} {id : Bs} {n : Nd} (h : get D id = some n) : n ∈ D ∧ n.id = id := by
  unfold get at h
  exact ⟨List.mem_of_find?_eq_some h, by simpa using List.find?_some h⟩
theorem get_none {D : List Nd} {id : Bs} (h : get D id = none) : ∀ n ∈ D, n.id ≠ id := by
  intro n hn e
  unfold get at h
  have := List.find?_eq_none.1 h n hn
  simp [e] at this
theorem up_once {D : List Nd} (h : Up (D.map Nd.id)) {m n : Nd} (hm : m ∈ D) (hn : n ∈ D) (he : m.id = n.id) : m = n := by
  induction D with
  | nil => cases hm
  | cons x r ih =>
    rw [List.map_cons] at h
    obtain ⟨h1, h2⟩ := List.pairwise_cons.1 h
    rcases List.mem_cons.1 hm with k1 | k1
    · rcases List.mem_cons.1 hn with k2 | k2
      · rw [k1, k2]
      · exact absurd he (lt_ne (by rw [k1]; exact h1 _ (List.mem_map_of_mem k2)))
    · rcases List.mem_cons.1 hn with k2 | k2
      · exact absurd he.symm (lt_ne (by rw [k2]; exact h1 _ (List.mem_map_of_mem k1)))
      · exact ih h2 k1 k2
theorem get_of {D : List Nd} (h : Up (D.map Nd.id)) {n : Nd} (hn : n ∈ D) : get D n.id = some n := by
  cases hg : get D n.id with
  | none => exact absurd rfl (get_none hg n hn)
  | some m => rw [up_once h (get_some hg).1 hn (get_some hg).2]
theorem has_of {D : List Nd} (h : Up (D.map Nd.id)) {n : Nd} (hn : n ∈ D) : has D n.id = n.on := by
  unfold has
  rw [get_of h hn]
theorem has_iff {D : List Nd} (h : Up (D.map Nd.id)) {id : Bs} : has D id = true ↔ ∃ n ∈ D, n.id = id ∧ n.on = true := by
  constructor
  · intro k
    unfold has at k
    split at k
    · next n hg => exact ⟨n, (get_some hg).1, (get_some hg).2, k⟩
    · cases k
  · rintro ⟨n, hn, rfl, ho⟩
    rw [has_of h hn]; exact ho
theorem insN_mem {x : Nd} {D : List Nd} {n : Nd} : n ∈ insN x D ↔ n = x ∨ n ∈ D := by
  induction D with
  | nil => simp [insN]
  | cons y r ih =>
    unfold insN
    split
    · simp [List.mem_cons]
    · rw [List.mem_cons, ih, List.mem_cons]
      constructor
      · rintro (h | h | h)
        · exact .inr (.inl h)
        · exact .inl h
        · exact .inr (.inr h)
      · rintro (h | h | h)
        · exact .inr (.inl h)
        · exact .inl h
        · exact .inr (.inr h)
theorem insN_up {x : Nd} {D : List Nd} (h : Up (D.map Nd.id)) (hx : ∀ n ∈ D, n.id ≠ x.id) : Up ((insN x D).map Nd.id) := by
  induction D with
  | nil => simp [insN, Up]
  | cons y r ih =>
    rw [List.map_cons] at h
    obtain ⟨h1, h2⟩ := List.pairwise_cons.1 h
    unfold insN
    split
    · next hl =>
      rw [List.map_cons, List.map_cons]
      refine List.pairwise_cons.2 ⟨fun b hb => ?_, h⟩
      rcases List.mem_cons.1 hb with rfl | hb
      · exact hl
      · exact lt_trans hl (h1 b hb)
    · next hl =>
      rw [List.map_cons]
      refine List.pairwise_cons.2 ⟨fun b hb => ?_, ih h2 fun n hn => hx n (List.mem_cons_of_mem _ hn)⟩
      obtain ⟨n, hn, rfl⟩ := List.mem_map.1 hb
      rcases insN_mem.1 hn with rfl | hn
      · rcases lt_tri n.id y.id with k | k | k
        · exact absurd k hl
        · exact absurd k.symm (hx y List.mem_cons_self)
        · exact k
      · exact h1 _ (List.mem_map_of_mem hn)
theorem insN_len (x : Nd) (D : List Nd) : (insN x D).length = D.length + 1 := by
  induction D with
  | nil => rfl
  | cons y r ih =>
    unfold insN
    split
    · rfl
    · rw [List.length_cons, ih, List.length_cons]
theorem turnOn_ids (D : List Nd) (i : Nat) : (turnOn D i).map Nd.id = D.map Nd.id := by
  apply List.ext_getElem?
  intro k
  unfold turnOn
  rw [List.getElem?_map, List.getElem?_map, List.getElem?_modify]
  split <;> cases D[k]? <;> rfl
theorem turnOn_len (D : List Nd) (i : Nat) : (turnOn D i).length = D.length := by simp [turnOn]
theorem turnOn_bas (D : List Nd) (i : Nat) : (turnOn D i).map (fun n => (n.id, n.ps)) = D.map fun n => (n.id, n.ps) := by
  apply List.ext_getElem?
  intro k
  unfold turnOn
  rw [List.getElem?_map, List.getElem?_map, List.getElem?_modify]
  split <;> cases D[k]? <;> rfl
/-- a rank for what is in: below it lie its parents -/
structure Inv (D : List Nd) : Prop where
  up : Up (D.map Nd.id)
  rank : ∃ r : Bs → Nat, (∀ n ∈ D, n.on = true → r n.id < (D.filter Nd.on).length) ∧ ∀ n ∈ D, n.on = true → ∀ p ∈ n.ps, has D p = true ∧ r p < r n.id
/-- who needn't wait doesn't -/
def Full (D : List Nd) : Prop := ∀ n ∈ D, n.on = false → ready D n.ps = false
end Go.Proofs.Ytlfncnnfpniigaa.Dq
