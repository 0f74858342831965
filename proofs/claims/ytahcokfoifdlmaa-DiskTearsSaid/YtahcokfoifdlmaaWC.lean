/-
  What bytes.Clone, slices.Grow of nothing, and slices.Concat of two or three come to.
-/
import Derived.Test.YtahcokfoifdlmaaWB
import Derived.Lib.AppendZerosOnto
namespace Go.Proofs.Ytahcokfoifdlmaa.Wr
open Go Go.RowKit Kt

/-- a slice that holds these bytes: a value, its length, and what it holds -/
def Is (w : World) (P : Nat → Prop) (v : Value) (l : List UInt8) : Prop := ∃ A c, v = .slice A l.length c ∧ Sl w P A c l
theorem Is.move {w w' : World} {P : Nat → Prop} {v : Value} {l : List UInt8} (h : Is w P v l) (hk : ∀ b, P b → b < w.heap.size → w'.heap[b]? = w.heap[b]?) : Is w' P v l := by
  obtain ⟨A, c, rfl, hs⟩ := h
  exact ⟨A, c, rfl, hs.move hk⟩
theorem Is.below {w w' : World} {P : Nat → Prop} {v : Value} {l : List UInt8} (h : Is w P v l) (hb : Below w.heap.size w w') : Is w' P v l := h.move fun b _ hlt => hb.block b hlt
theorem Is.imp {w : World} {P Q : Nat → Prop} {v : Value} {l : List UInt8} (h : Is w P v l) (hi : ∀ b, b < w.heap.size → P b → Q b) : Is w Q v l := by
  obtain ⟨A, c, rfl, hs⟩ := h
  exact ⟨A, c, rfl, hs.imp hi⟩
theorem Is.bound {w : World} {P : Nat → Prop} {v : Value} {l : List UInt8} (h : Is w P v l) : Is w (fun b => P b ∧ b < w.heap.size) v l := h.imp fun _ hb hp => ⟨hp, hb⟩
theorem Is.nil (w : World) (P : Nat → Prop) : Is w P (.slice none 0 0) [] := ⟨none, 0, rfl, Sl.nil _ _ _ _⟩
theorem Is.own {w : World} {B : Nat} {E : TypeId} {v : Value} {l : List UInt8} (h : Own w B E v l) : Is w (fun b => B ≤ b ∧ v.ownBlock = some b) v l := h.sl

set_option maxHeartbeats 1000000 in
set_option maxRecDepth 100000 in
theorem clone_any (l : List UInt8) (A : Option Addr) (c : Nat) (Pb : Nat → Prop) (w : World) (hs : Sl w Pb A c l) (hl : l.length ≤ 70368744177664) :
    Calls Try.prog 25 #[.slice A l.length c] w fun e w' => ∃ v, e = .returned v ∧ Own w' w.heap.size 5 v l ∧ Below w.heap.size w w' := by
  have Hs := hide hs
  have Hl := hide hl
  clear hs hl
  have q22 : ∀ (w : World) (a : Option Addr) (n c n' c' : Nat), (binOp .eql 30 (.slice a n c) (.slice none n' c')).run Try.prog w = .ok (.bool a.isNone) w := fun w a n c n' c' => Lib.run_eql_slice_nil w _ _ a n c n' c' Try.underlying30
  cases A with
  | none =>
    have h0 : l = [] := by
      cases l with
      | nil => rfl
      | cons b r => obtain ⟨_, _, he, _⟩ := Hs.out.2 (by simp); cases he
    subst h0
    go_enter Try.func25, Try.ntmps25
    go_wp2
    go_ret
    exact ⟨_, rfl, Own.nil _ _ _, Below.refl _ _⟩
  | some ad =>
    go_enter Try.func25, Try.ntmps25
    go_wp2_with (at_builtin; go_loud (refine wpList_cat rfl (.tmp 5) (.tmp 6) 30 rfl Try.underlying30 info8 w.heap.size w _ [] l Pb (some ad) c rfl rfl (Own.made w w.heap.size 5 #[] 0 (Nat.le_refl _) rfl (Nat.zero_le _)) ?qs ?ql ?qb ?qz ?_; rotate_left 4; intro v' w1 hown1 hb1 _))
    case qs => exact Hs.out.move fun b _ hb => Below.heap_alloc w _ b hb
    case ql => simpa using Hl.out
    case qb => exact (Below.refl _ _).alloc (Nat.le_refl _) _
    case qz => simp
    go_ret
    exact ⟨_, rfl, hown1, hb1⟩

/-- the cells of a list of slices of bytes -/
def cat (ls : List (List UInt8)) : List UInt8 := ls.flatten
theorem cat_take (ls : List (List UInt8)) (k : Nat) (h : k < ls.length) : cat (ls.take (k + 1)) = cat (ls.take k) ++ ls.getD k [] := by
  unfold cat
  rw [List.take_succ_eq_append_getElem h, List.flatten_append]
  simp [List.getElem?_eq_getElem h]
theorem cat_len (ls : List (List UInt8)) (k : Nat) : (cat (ls.take k)).length ≤ (cat ls).length := by
  have e : cat ls = cat (ls.take k) ++ cat (ls.drop k) := by unfold cat; rw [← List.flatten_append, List.take_append_drop]
  rw [e, List.length_append]
  omega

end Go.Proofs.Ytahcokfoifdlmaa.Wr
