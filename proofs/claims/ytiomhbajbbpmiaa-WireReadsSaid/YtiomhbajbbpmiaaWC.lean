/-
  What bytes.Clone, slices.Grow of nothing, and slices.Concat of two or three come to.
-/
import Derived.Test.YtiomhbajbbpmiaaWB
import Derived.Lib.AppendZerosOnto
namespace Go.Proofs.Ytiomhbajbbpmiaa.Wr
open Go Go.RowKit Kt

/-- a slice that holds these bytes: a value, its length, and what it holds -/
def Is (w : World) (P : Nat → Prop) (v : Value) (l : List UInt8) : Prop := ∃ A c, v = .slice A l.length c ∧ Sl w P A c l
theorem Is.move {w w' : World} {P : Nat → Prop} {v : Value} {l : List UInt8} (h : Is w P v l) (hk : ∀ b, P b → b < w.heap.size → w'.heap[b]? = w.heap[b]?) : Is w' P v l := by
  obtain ⟨A, c, rfl, hs⟩ := h
  exact ⟨A, c, rfl, hs.move hk⟩
theorem Is.below {w w' : World} {P : Nat → Prop} {v : Value} {l : List UInt8} (h : Is w P v l) (hb : Below w.heap.size w w') : Is w' P v l := h.move fun b _ hlt => hb.block b hlt
theorem Is.imp {w : World} {P Q : Nat → Prop} {v : Value} {l : List UInt8} (h : Is w P v l) (hi : ∀ b, b < w.heap.size → P b → Q b) : Is w Q v l := by
  obtain ⟨A, c, rfl, hs⟩ := h
  exact ⟨A, c, rfl, hs.imp hi⟩
theorem Is.bound {w : World} {P : Nat → Prop} {v : Value} {l : List UInt8} (h : Is w P v l) : Is w (fun b => P b ∧ b < w.heap.size) v l := h.imp fun _ hb hp => ⟨hp, hb⟩
theorem Is.nil (w : World) (P : Nat → Prop) : Is w P (.slice none 0 0) [] := ⟨none, 0, rfl, Sl.nil _ _ _ _⟩
theorem Is.own {w : World} {B : Nat} {E : TypeId} {v : Value} {l : List UInt8} (h : Own w B E v l) : Is w (fun b => B ≤ b ∧ v.ownBlock = some b) v l := h.sl

set_option maxHeartbeats 1000000 in
set_option maxRecDepth 100000 in
theorem clone_any (l : List UInt8) (A : Option Addr) (c : Nat) (Pb : Nat → Prop) (w : World) (hs : Sl w Pb A c l) (hl : l.length ≤ 70368744177664) :
    Calls Try.prog 28 #[.slice A l.length c] w fun e w' => ∃ v, e = .returned v ∧ Own w' w.heap.size 5 v l ∧ Below w.heap.size w w' := by
  have Hs := hide hs
  have Hl := hide hl
  clear hs hl
  have q22 : ∀ (w : World) (a : Option Addr) (n c n' c' : Nat), (binOp .eql 22 (.slice a n c) (.slice none n' c')).run Try.prog w = .ok (.bool a.isNone) w := fun w a n c n' c' => Lib.run_eql_slice_nil w _ _ a n c n' c' Try.underlying22
  cases A with
  | none =>
    have h0 : l = [] := by
      cases l with
      | nil => rfl
      | cons b r => obtain ⟨_, _, he, _⟩ := Hs.out.2 (by simp); cases he
    subst h0
    go_enter Try.func28, Try.ntmps28
    go_wp2
    go_ret
    exact ⟨_, rfl, Own.nil _ _ _, Below.refl _ _⟩
  | some ad =>
    go_enter Try.func28, Try.ntmps28
    go_wp2_with (at_builtin; go_loud (refine wpList_cat rfl (.tmp 5) (.tmp 6) 22 rfl Try.underlying22 info8 w.heap.size w _ [] l Pb (some ad) c rfl rfl (Own.made w w.heap.size 5 #[] 0 (Nat.le_refl _) rfl (Nat.zero_le _)) ?qs ?ql ?qb ?qz ?_; rotate_left 4; intro v' w1 hown1 hb1 _))
    case qs => exact Hs.out.move fun b _ hb => Below.heap_alloc w _ b hb
    case ql => simpa using Hl.out
    case qb => exact (Below.refl _ _).alloc (Nat.le_refl _) _
    case qz => simp
    go_ret
    exact ⟨_, rfl, hown1, hb1⟩

set_option maxHeartbeats 1000000 in
set_option maxRecDepth 100000 in
theorem grow_nil (n : Nat) (w : World) (hn : n ≤ 70368744177664) :
    Calls Try.prog 36 #[.slice none 0 0, .int .i64 n] w fun e w' => ∃ v, e = .returned v ∧ Own w' w.heap.size 5 v [] ∧ Below w.heap.size w w' := by
  by_cases h0 : n = 0
  · subst h0
    go_enter Try.func36, Try.ntmps36
    go_wp2
    go_ret
    exact ⟨_, rfl, Own.nil _ _ _, Below.refl _ _⟩
  · obtain ⟨i0, hi, hz0, hz1, hz2⟩ := info_parts info8
    have hrz := fun ty => Lib.run_append_grow_zeros (P := Try.prog) w 22 3 ty 5 i0 (.int .u8 0) .i64 .i64 Try.underlying22 Try.underlying3 hi hz0 none 0 0 [] (run_firstCells_none w.drew i0.size 0 0 0) n (by omega) (by rw [hz1]; omega) (by omega) (by omega) (by rw [hz2]; omega)
      (by rw [hz2]; have := growslice_fits (need := 0 + n) (old := 0) (bytes := 1) (by omega) (by omega); simpa using this)
    have hG1 := grownCap_ge w (0 + n) 0 5
    have hG2 := grownCap_le_maxLen w (0 + n) 0 5 (by unfold maxLen; omega)
    obtain ⟨G, hG⟩ : ∃ G, G = grownCap w (0 + n) 0 5 := ⟨_, rfl⟩
    rw [← hG] at hrz hG1 hG2
    have hG3 := hG2
    unfold maxLen at hG3
    clear hG
    go_enter Try.func36, Try.ntmps36
    go_wp2_with (at_builtin; go_loud (refine Lib.wpList_append_run _ rfl _ _ _ _ rfl _ _ rfl rfl _ _ (hrz _) ?_))
    go_ret
    refine ⟨_, rfl, Own.drew (Own.made w w.heap.size 5 _ G (Nat.le_refl _) ?_ hG2), ((Below.refl _ _).alloc (Nat.le_refl _) _).drew⟩
    simp [Builtin.zeroCells]
    omega

/-- the cells of a list of slices of bytes -/
def cat (ls : List (List UInt8)) : List UInt8 := ls.flatten
theorem cat_take (ls : List (List UInt8)) (k : Nat) (h : k < ls.length) : cat (ls.take (k + 1)) = cat (ls.take k) ++ ls.getD k [] := by
  unfold cat
  rw [List.take_succ_eq_append_getElem h, List.flatten_append]
  simp [List.getElem?_eq_getElem h]
theorem cat_len (ls : List (List UInt8)) (k : Nat) : (cat (ls.take k)).length ≤ (cat ls).length := by
  have e : cat ls = cat (ls.take k) ++ cat (ls.drop k) := by unfold cat; rw [← List.flatten_append, List.take_append_drop]
  rw [e, List.length_append]
  omega

set_option maxHeartbeats 2000000 in
set_option maxRecDepth 100000 in
theorem concat_any (ls : List (List UInt8)) (vs : List Value) (g c : Nat) (w : World) (hv : vs.length = ls.length) (hg : Row w g 22 vs) (hc : vs.length ≤ c) (hm : vs.length < 1000)
    (hs : ∀ k, k < ls.length → Is w (fun _ => True) (vs.getD k (.bool false)) (ls.getD k [])) (hl : (cat ls).length ≤ 70368744177664) :
    Calls Try.prog 26 #[.slice (some ⟨g, 0, none⟩) vs.length c] w fun e w' => ∃ v, e = .returned v ∧ Own w' w.heap.size 5 v (cat ls) ∧ Below w.heap.size w w' := by
  have Hs := hide hs
  have Hl := hide hl
  have Hg := hide hg
  have Hv := hide hv
  have Hc := hide hc
  clear hs hl hg hv hc
  go_enter Try.func26, Try.ntmps26
  go_wp2
  go_loopw [3, 11] (fun s i wr => ∃ k : Nat, k ≤ vs.length ∧ i = .int .i64 k ∧ s = .int .i64 ((cat (ls.take k)).length : Nat) ∧ w = wr) (fun _ i _ => vs.length - (intOf i).toNat)
  case atStart => exact ⟨0, Nat.zero_le _, rfl, rfl, rfl⟩
  case round =>
    obtain ⟨k, hk, rfl, rfl, rfl⟩ := hrel
    by_cases hlt : k < vs.length
    · have hkl : k < ls.length := by rw [← Hv.out]; exact hlt
      obtain ⟨A, cp, hA, hsl⟩ := Hs.out k hkl
      have Hn := hide (congrArg List.length (cat_take ls k hkl))
      have hb1 := cat_len ls (k + 1)
      rw [Hn.out, List.length_append] at hb1
      have hcell : w.cell? ⟨g, k, none⟩ = some (.slice A (ls.getD k []).length cp) := by
        rw [Hg.out.cell, ← hA]; simp [List.getElem?_eq_getElem hlt]
      have Hsum := hide (Hn.out.trans List.length_append)
      clear Hn hsl
      have hb2 := Hl.out
      generalize (ls.getD k []).length = m at *
      generalize (cat (ls.take k)).length = q at *
      generalize (cat ls).length = tot at *
      go_wp2
      refine ⟨⟨k + 1, by omega, by go_num, ?_, trivial⟩, ?_⟩
      · rw [Hsum.out]; go_num
      · simp [intOf]; omega
    · obtain rfl : k = vs.length := by omega
      have e1 : ls.take vs.length = ls := List.take_of_length_le (by rw [Hv.out]; exact Nat.le_refl _)
      rw [e1]
      have hb2 := Hl.out
      have Ht := hide (show cat (ls.take vs.length) = cat ls by rw [e1])
      go_wp2_with (go_at_call 36; go_loud (refine (grow_nil _ _ hb2).mono ?_; rintro e w1 ⟨v1, rfl, hown1, hb1⟩))
      go_loopw [6, 27] (fun s i wx => ∃ k : Nat, k ≤ vs.length ∧ i = .int .i64 k ∧ Own wx w.heap.size 5 s (cat (ls.take k)) ∧ Below w.heap.size w wx) (fun _ i _ => vs.length - (intOf i).toNat)
      case atStart => exact ⟨0, Nat.zero_le _, rfl, hown1, hb1⟩
      case round =>
        clear hown1 hb1
        obtain ⟨k, hk, rfl, hown, hb⟩ := hrel
        have Hown := hide hown
        have Hb := hide hb
        clear hown hb
        by_cases hlt : k < vs.length
        · have hkl : k < ls.length := by rw [← Hv.out]; exact hlt
          obtain ⟨A, cp, hA, hsl⟩ := Hs.out k hkl
          have Hcat := hide (cat_take ls k hkl)
          have Hn := hide (congrArg List.length (cat_take ls k hkl))
          have hb1 := cat_len ls (k + 1)
          rw [Hn.out, List.length_append] at hb1
          have hcell : wr.cell? ⟨g, k, none⟩ = some (.slice A (ls.getD k []).length cp) := by
            rw [(Hg.out.below Hb.out Hg.out.lt).cell, ← hA]; simp [List.getElem?_eq_getElem hlt]
          have Hsl := hide (hsl.move (w' := wr) fun b _ hlt => Hb.out.block b hlt)
          have Hlen := hide (show (cat (ls.take k)).length + (ls.getD k []).length ≤ 70368744177664 by omega)
          clear Hn hsl hb1
          generalize ls.getD k [] = bs at *
          go_wp2_with (at_builtin; go_loud (refine wpList_cat rfl (.tmp 31) (.tmp 32) 22 rfl Try.underlying22 info8 w.heap.size w _ _ bs (fun _ => True) A cp rfl rfl Hown.out Hsl.out Hlen.out Hb.out Hb.out.size ?_; intro v' w2 hown2 hb2 _))
          rw [← Hcat.out] at hown2
          exact ⟨⟨k + 1, by omega, by go_num, hown2, hb2⟩, by simp [intOf]; omega⟩
        · obtain rfl : k = vs.length := by omega
          go_wp2
          go_ret
          refine ⟨_, rfl, ?_, Hb.out⟩
          rw [← Ht.out]
          exact Hown.out

end Go.Proofs.Ytiomhbajbbpmiaa.Wr
