/-
  What wire.form comes to.
-/
import Derived.Test.YtlplgkdoiinfhaaDoorQ1
import Derived.Test.YtlplgkdoiinfhaaDoorQ3
import Derived.WalkLawsBesides
import Derived.Test.YtlplgkdoiinfhaaDoorChecked
import Derived.Lib.AppendZerosOnto

namespace Go.Proofs.YtlplgkdoiinfhaaDoor.Wr
open Go Go.RowKit Kt

theorem info8 : (Tryd.prog.info? 5).map (fun i => (i.zero, i.size, i.bytes)) = some (some (.int .u8 0), 1, 1) := by kernel_rfl
theorem make10 (w : World) : (Instr.makeSlice 25 (.int .i64 0) (.int .i64 10)).run Tryd.prog w = .ok (.slice (some ⟨w.heap.size, 0, none⟩) 0 10) (w.alloc (.cells (u8s (List.replicate 10 0)).toArray 5)) := by kernel_rfl

set_option maxHeartbeats 1000000 in
set_option maxRecDepth 100000 in
theorem form_any (n : Nat) (w : World) (h : n < 18446744073709551616) :
    Calls Tryd.prog 68 #[.int .u64 n] w fun e w' => ∃ v, e = .returned v ∧ Own w' w.heap.size 5 v (form n) ∧ Below w.heap.size w w' := by
  have Hn := hide h
  clear h
  have hmk := make10
  go_enter Tryd.func68, Tryd.ntmps68
  go_wp2
  clear hmk
  go_loopw [0, 3] (fun x v wr => ∃ (m : Nat) (l : List UInt8), x = .int .u64 m ∧ m ≤ n ∧ Own wr w.heap.size 5 v l ∧ l ++ form m = form n ∧ Below w.heap.size w wr) (fun x _ _ => (intOf x).toNat)
  case atStart => exact ⟨n, [], rfl, Nat.le_refl _, Own.made _ _ _ _ 10 (Nat.le_refl _) (by simp [u8s]) (by simp [maxLen]), rfl, (Below.refl _ _).alloc (Nat.le_refl _) _⟩
  case round =>
    obtain ⟨m, l, rfl, hm, hown, hl, hb⟩ := hrel
    have Hown := hide hown
    have Hb := hide hb
    have Hl := hide hl
    have Hmn := hide hm
    have hlen : l.length + (form m).length = (form n).length := by rw [← hl, List.length_append]
    have hs10 := form_short n 10 (by have := Hn.out; omega) (by omega)
    have Hlen := hide (show l.length + 10 ≤ 70368744177664 by have := form_pos m; omega)
    have Hm := hide (show m < 18446744073709551616 by have := Hn.out; omega)
    clear hown hb hl hm hlen hs10
    have hm8 : m % 128 + 128 < 256 := by omega
    by_cases hlt : m < 128
    · have Hf := hide (form_lt hlt)
      go_wp2_with (at_builtin; refine wpList_push rfl (.tmp 16) (.tmp 19) 25 rfl Tryd.underlying25 info8 w.heap.size w _ l [UInt8.ofNat m] 1 1 rfl rfl Hown.out ?qc rfl ?ql Hb.out Hb.out.size ?_; rotate_left 2; intro v' w1 hown1 hb1 _)
      case qc => simp [u8s, UInt8.toNat_ofNat']; omega
      case ql => have := Hlen.out; simp; omega
      go_ret
      refine ⟨_, rfl, ?_, hb1⟩
      rw [← Hl.out, Hf.out]
      exact hown1
    · have Hf := hide (form_ge hlt)
      go_wp2_with (at_builtin; go_loud (refine wpList_push rfl (.tmp 7) (.tmp 12) 25 rfl Tryd.underlying25 info8 w.heap.size w _ l [UInt8.ofNat (m % 128 + 128)] 1 1 rfl rfl Hown.out ?qc rfl ?ql Hb.out Hb.out.size ?_; rotate_left 2; intro v' w1 hown1 hb1 _))
      case qc => simp [u8s, UInt8.toNat_ofNat']; omega
      case ql => have := Hlen.out; simp; omega
      refine ⟨⟨m / 128, _, by push_cast; rfl, by have := Hmn.out; omega, hown1, ?_, hb1⟩, ?_⟩
      · rw [← Hl.out, Hf.out]; simp
      · simp only [intOf]; omega
end Go.Proofs.YtlplgkdoiinfhaaDoor.Wr
namespace Go.Proofs.YtlplgkdoiinfhaaDoor.Wr
open Go Go.RowKit Kt

/-- a slice that holds these bytes: a value, its length, and what it holds -/
def Is (w : World) (P : Nat → Prop) (v : Value) (l : List UInt8) : Prop := ∃ A c, v = .slice A l.length c ∧ Sl w P A c l
theorem Is.move {w w' : World} {P : Nat → Prop} {v : Value} {l : List UInt8} (h : Is w P v l) (hk : ∀ b, P b → b < w.heap.size → w'.heap[b]? = w.heap[b]?) : Is w' P v l := by
  obtain ⟨A, c, rfl, hs⟩ := h
  exact ⟨A, c, rfl, hs.move hk⟩
theorem Is.below {w w' : World} {P : Nat → Prop} {v : Value} {l : List UInt8} (h : Is w P v l) (hb : Below w.heap.size w w') : Is w' P v l := h.move fun b _ hlt => hb.block b hlt
theorem Is.imp {w : World} {P Q : Nat → Prop} {v : Value} {l : List UInt8} (h : Is w P v l) (hi : ∀ b, b < w.heap.size → P b → Q b) : Is w Q v l := by
  obtain ⟨A, c, rfl, hs⟩ := h
  exact ⟨A, c, rfl, hs.imp hi⟩
theorem Is.bound {w : World} {P : Nat → Prop} {v : Value} {l : List UInt8} (h : Is w P v l) : Is w (fun b => P b ∧ b < w.heap.size) v l := h.imp fun _ hb hp => ⟨hp, hb⟩
theorem Is.nil (w : World) (P : Nat → Prop) : Is w P (.slice none 0 0) [] := ⟨none, 0, rfl, Sl.nil _ _ _ _⟩
theorem Is.own {w : World} {B : Nat} {E : TypeId} {v : Value} {l : List UInt8} (h : Own w B E v l) : Is w (fun b => B ≤ b ∧ v.ownBlock = some b) v l := h.sl

set_option maxHeartbeats 1000000 in
set_option maxRecDepth 100000 in
theorem clone_any (l : List UInt8) (A : Option Addr) (c : Nat) (Pb : Nat → Prop) (w : World) (hs : Sl w Pb A c l) (hl : l.length ≤ 70368744177664) :
    Calls Tryd.prog 56 #[.slice A l.length c] w fun e w' => ∃ v, e = .returned v ∧ Own w' w.heap.size 5 v l ∧ Below w.heap.size w w' := by
  have Hs := hide hs
  have Hl := hide hl
  clear hs hl
  have q22 : ∀ (w : World) (a : Option Addr) (n c n' c' : Nat), (binOp .eql 25 (.slice a n c) (.slice none n' c')).run Tryd.prog w = .ok (.bool a.isNone) w := fun w a n c n' c' => Lib.run_eql_slice_nil w _ _ a n c n' c' Tryd.underlying25
  cases A with
  | none =>
    have h0 : l = [] := by
      cases l with
      | nil => rfl
      | cons b r => obtain ⟨_, _, he, _⟩ := Hs.out.2 (by simp); cases he
    subst h0
    go_enter Tryd.func56, Tryd.ntmps56
    go_wp2
    go_ret
    exact ⟨_, rfl, Own.nil _ _ _, Below.refl _ _⟩
  | some ad =>
    go_enter Tryd.func56, Tryd.ntmps56
    go_wp2_with (at_builtin; go_loud (refine wpList_cat rfl (.tmp 5) (.tmp 6) 25 rfl Tryd.underlying25 info8 w.heap.size w _ [] l Pb (some ad) c rfl rfl (Own.made w w.heap.size 5 #[] 0 (Nat.le_refl _) rfl (Nat.zero_le _)) ?qs ?ql ?qb ?qz ?_; rotate_left 4; intro v' w1 hown1 hb1 _))
    case qs => exact Hs.out.move fun b _ hb => Below.heap_alloc w _ b hb
    case ql => simpa using Hl.out
    case qb => exact (Below.refl _ _).alloc (Nat.le_refl _) _
    case qz => simp
    go_ret
    exact ⟨_, rfl, hown1, hb1⟩

set_option maxHeartbeats 1000000 in
set_option maxRecDepth 100000 in
theorem grow_nil (n : Nat) (w : World) (hn : n ≤ 70368744177664) :
    Calls Tryd.prog 78 #[.slice none 0 0, .int .i64 n] w fun e w' => ∃ v, e = .returned v ∧ Own w' w.heap.size 5 v [] ∧ Below w.heap.size w w' := by
  by_cases h0 : n = 0
  · subst h0
    go_enter Tryd.func78, Tryd.ntmps78
    go_wp2
    go_ret
    exact ⟨_, rfl, Own.nil _ _ _, Below.refl _ _⟩
  · obtain ⟨i0, hi, hz0, hz1, hz2⟩ := info_parts info8
    have hrz := fun ty => Lib.run_append_grow_zeros (P := Tryd.prog) w 25 3 ty 5 i0 (.int .u8 0) .i64 .i64 Tryd.underlying25 Tryd.underlying3 hi hz0 none 0 0 [] (run_firstCells_none w.drew i0.size 0 0 0) n (by omega) (by rw [hz1]; omega) (by omega) (by omega) (by rw [hz2]; omega)
      (by rw [hz2]; have := growslice_fits (need := 0 + n) (old := 0) (bytes := 1) (by omega) (by omega); simpa using this)
    have hG1 := grownCap_ge w (0 + n) 0 5
    have hG2 := grownCap_le_maxLen w (0 + n) 0 5 (by unfold maxLen; omega)
    obtain ⟨G, hG⟩ : ∃ G, G = grownCap w (0 + n) 0 5 := ⟨_, rfl⟩
    rw [← hG] at hrz hG1 hG2
    have hG3 := hG2
    unfold maxLen at hG3
    clear hG
    go_enter Tryd.func78, Tryd.ntmps78
    go_wp2_with (at_builtin; go_loud (refine Lib.wpList_append_run _ rfl _ _ _ _ rfl _ _ rfl rfl _ _ (hrz _) ?_))
    go_ret
    refine ⟨_, rfl, Own.drew (Own.made w w.heap.size 5 _ G (Nat.le_refl _) ?_ hG2), ((Below.refl _ _).alloc (Nat.le_refl _) _).drew⟩
    simp [Builtin.zeroCells]
    omega

/-- the cells of a list of slices of bytes -/
def cat (ls : List (List UInt8)) : List UInt8 := ls.flatten
theorem cat_take (ls : List (List UInt8)) (k : Nat) (h : k < ls.length) : cat (ls.take (k + 1)) = cat (ls.take k) ++ ls.getD k [] := by
  unfold cat
  rw [List.take_succ_eq_append_getElem h, List.flatten_append]
  simp [List.getElem?_eq_getElem h]
theorem cat_len (ls : List (List UInt8)) (k : Nat) : (cat (ls.take k)).length ≤ (cat ls).length := by
  have e : cat ls = cat (ls.take k) ++ cat (ls.drop k) := by unfold cat; rw [← List.flatten_append, List.take_append_drop]
  rw [e, List.length_append]
  omega

set_option maxHeartbeats 2000000 in
set_option maxRecDepth 100000 in
theorem concat_any (ls : List (List UInt8)) (vs : List Value) (g c : Nat) (w : World) (hv : vs.length = ls.length) (hg : Row w g 25 vs) (hc : vs.length ≤ c) (hm : vs.length < 1000)
    (hs : ∀ k, k < ls.length → Is w (fun _ => True) (vs.getD k (.bool false)) (ls.getD k [])) (hl : (cat ls).length ≤ 70368744177664) :
    Calls Tryd.prog 67 #[.slice (some ⟨g, 0, none⟩) vs.length c] w fun e w' => ∃ v, e = .returned v ∧ Own w' w.heap.size 5 v (cat ls) ∧ Below w.heap.size w w' := by
  have Hs := hide hs
  have Hl := hide hl
  have Hg := hide hg
  have Hv := hide hv
  have Hc := hide hc
  clear hs hl hg hv hc
  go_enter Tryd.func67, Tryd.ntmps67
  go_wp2
  go_loopw [3, 11] (fun s i wr => ∃ k : Nat, k ≤ vs.length ∧ i = .int .i64 k ∧ s = .int .i64 ((cat (ls.take k)).length : Nat) ∧ w = wr) (fun _ i _ => vs.length - (intOf i).toNat)
  case atStart => exact ⟨0, Nat.zero_le _, rfl, rfl, rfl⟩
  case round =>
    obtain ⟨k, hk, rfl, rfl, rfl⟩ := hrel
    by_cases hlt : k < vs.length
    · have hkl : k < ls.length := by rw [← Hv.out]; exact hlt
      obtain ⟨A, cp, hA, hsl⟩ := Hs.out k hkl
      have Hn := hide (congrArg List.length (cat_take ls k hkl))
      have hb1 := cat_len ls (k + 1)
      rw [Hn.out, List.length_append] at hb1
      have hcell : w.cell? ⟨g, k, none⟩ = some (.slice A (ls.getD k []).length cp) := by
        rw [Hg.out.cell, ← hA]; simp [List.getElem?_eq_getElem hlt]
      have Hsum := hide (Hn.out.trans List.length_append)
      clear Hn hsl
      have hb2 := Hl.out
      generalize (ls.getD k []).length = m at *
      generalize (cat (ls.take k)).length = q at *
      generalize (cat ls).length = tot at *
      go_wp2
      refine ⟨⟨k + 1, by omega, by go_num, ?_, trivial⟩, ?_⟩
      · rw [Hsum.out]; go_num
      · simp [intOf]; omega
    · obtain rfl : k = vs.length := by omega
      have e1 : ls.take vs.length = ls := List.take_of_length_le (by rw [Hv.out]; exact Nat.le_refl _)
      rw [e1]
      have hb2 := Hl.out
      have Ht := hide (show cat (ls.take vs.length) = cat ls by rw [e1])
      go_wp2_with (go_at_call 78; go_loud (refine (grow_nil _ _ hb2).mono ?_; rintro e w1 ⟨v1, rfl, hown1, hb1⟩))
      go_loopw [6, 27] (fun s i wx => ∃ k : Nat, k ≤ vs.length ∧ i = .int .i64 k ∧ Own wx w.heap.size 5 s (cat (ls.take k)) ∧ Below w.heap.size w wx) (fun _ i _ => vs.length - (intOf i).toNat)
      case atStart => exact ⟨0, Nat.zero_le _, rfl, hown1, hb1⟩
      case round =>
        clear hown1 hb1
        obtain ⟨k, hk, rfl, hown, hb⟩ := hrel
        have Hown := hide hown
        have Hb := hide hb
        clear hown hb
        by_cases hlt : k < vs.length
        · have hkl : k < ls.length := by rw [← Hv.out]; exact hlt
          obtain ⟨A, cp, hA, hsl⟩ := Hs.out k hkl
          have Hcat := hide (cat_take ls k hkl)
          have Hn := hide (congrArg List.length (cat_take ls k hkl))
          have hb1 := cat_len ls (k + 1)
          rw [Hn.out, List.length_append] at hb1
          have hcell : wr.cell? ⟨g, k, none⟩ = some (.slice A (ls.getD k []).length cp) := by
            rw [(Hg.out.below Hb.out Hg.out.lt).cell, ← hA]; simp [List.getElem?_eq_getElem hlt]
          have Hsl := hide (hsl.move (w' := wr) fun b _ hlt => Hb.out.block b hlt)
          have Hlen := hide (show (cat (ls.take k)).length + (ls.getD k []).length ≤ 70368744177664 by omega)
          clear Hn hsl hb1
          generalize ls.getD k [] = bs at *
          go_wp2_with (at_builtin; go_loud (refine wpList_cat rfl (.tmp 31) (.tmp 32) 25 rfl Tryd.underlying25 info8 w.heap.size w _ _ bs (fun _ => True) A cp rfl rfl Hown.out Hsl.out Hlen.out Hb.out Hb.out.size ?_; intro v' w2 hown2 hb2 _))
          rw [← Hcat.out] at hown2
          exact ⟨⟨k + 1, by omega, by go_num, hown2, hb2⟩, by simp [intOf]; omega⟩
        · obtain rfl : k = vs.length := by omega
          go_wp2
          go_ret
          refine ⟨_, rfl, ?_, Hb.out⟩
          rw [← Ht.out]
          exact Hown.out

end Go.Proofs.YtlplgkdoiinfhaaDoor.Wr
namespace Go.Proofs.YtlplgkdoiinfhaaDoor.Wr
open Go Go.RowKit Kt

theorem Is.own' {w w' : World} {B : Nat} {E : TypeId} {v : Value} {l : List UInt8} (h : Own w B E v l) (hb : Below w.heap.size w w') : Is w' (fun _ => True) v l := ((Is.own h).imp fun _ _ _ => trivial).below hb

theorem _root_.Go.Proofs.YtlplgkdoiinfhaaDoor.Kt.Own.base {w : World} {B B' : Nat} {E : TypeId} {v : Value} {l : List UInt8} (h : Own w B E v l) (hB : B' ≤ B) : Own w B' E v l := by
  refine ⟨h.1, ?_⟩
  rcases h.2 with ⟨h1, h2⟩ | ⟨g, cap, cur, hv', h1, h2⟩
  · exact .inl ⟨h1, h2⟩
  · exact .inr ⟨g, cap, cur, hv', Nat.le_trans hB h1, h2⟩

set_option maxHeartbeats 1000000 in
set_option maxRecDepth 100000 in
theorem num_any (l : List UInt8) (n : Nat) (A0 : Option Addr) (c0 : Nat) (Pb : Nat → Prop) (w : World) (hs : Sl w Pb A0 c0 l) (hn : n < 18446744073709551616) (hl : l.length + 10 ≤ 70368744177664) :
    Calls Tryd.prog 50 #[.slice A0 l.length c0, .int .u64 n] w fun e w' => ∃ v', e = .returned v' ∧ Own w' w.heap.size 5 v' (l ++ form n) ∧ Below w.heap.size w w' := by
  have Hs : Hid (Is w (fun _ => True) (.slice A0 l.length c0) l) := hide ⟨A0, c0, rfl, hs.imp fun _ _ _ => trivial⟩
  have Hn := hide hn
  have Hf := hide (form_short n 10 (by omega) (by omega))
  have Hl := hide hl
  clear hs hn hl
  go_enter Tryd.func50, Tryd.ntmps50
  go_wp2_with (go_at_call 68; refine (form_any _ _ Hn.out).mono ?_; rintro e w1 ⟨v1, rfl, hown1, hb1⟩; obtain ⟨A1, c1, rfl, _⟩ := Is.own hown1; have Hown1 := hide hown1; have Hb1 := hide hb1; clear hown1 hb1)
  refine (concat_any [l, form n] [.slice A0 l.length c0, .slice A1 (form n).length c1] w1.heap.size 2 _ rfl (Row.fresh w1 _ _) (by simp) (by simp) ?_ (by have := Hl.out; have := Hf.out; simp [cat]; omega)).mono ?_
  · intro k hk
    have hb := Hb1.out.alloc Hb1.out.size (.cells #[.slice A0 l.length c0, .slice A1 (form n).length c1] 25)
    rcases k with _ | _ | k
    · exact Is.below Hs.out hb
    · exact (Is.own' Hown1.out (Below.refl _ _)).below ((Below.refl _ _).alloc (Nat.le_refl _) _)
    · simp at hk; omega
  · rintro e w2 ⟨v2, rfl, hown2, hb2⟩
    have hb := Hb1.out.alloc Hb1.out.size (.cells #[.slice A0 l.length c0, .slice A1 (form n).length c1] 25)
    go_wp2
    go_ret
    refine ⟨_, rfl, ?_, hb.trans (hb2.mono hb.size)⟩
    have e : cat [l, form n] = l ++ form n := by simp [cat]
    rw [e] at hown2
    exact hown2.base hb.size

set_option maxHeartbeats 1000000 in
set_option maxRecDepth 100000 in
theorem text_put (l x : List UInt8) (A0 : Option Addr) (c0 : Nat) (A : Option Addr) (c : Nat) (Pb Px : Nat → Prop) (w : World) (hs : Sl w Pb A0 c0 l) (hx : Sl w Px A c x) (hl : l.length + x.length + 10 ≤ 70368744177664) :
    Calls Tryd.prog 51 #[.slice A0 l.length c0, .slice A x.length c] w fun e w' => ∃ v', e = .returned v' ∧ Own w' w.heap.size 5 v' (l ++ (form x.length ++ x)) ∧ Below w.heap.size w w' := by
  have Hs : Hid (Is w (fun _ => True) (.slice A0 l.length c0) l) := hide ⟨A0, c0, rfl, hs.imp fun _ _ _ => trivial⟩
  have Hx : Hid (Is w (fun _ => True) (.slice A x.length c) x) := hide ⟨A, c, rfl, hx.imp fun _ _ _ => trivial⟩
  have Hf := hide (form_short x.length 10 (by omega) (by omega))
  have Hn := hide (show x.length < 18446744073709551616 by omega)
  have Hl := hide hl
  clear hs hx
  go_enter Tryd.func51, Tryd.ntmps51
  go_wp2_with (go_at_call 68; refine (form_any _ _ Hn.out).mono ?_; rintro e w1 ⟨v1, rfl, hown1, hb1⟩; obtain ⟨A1, c1, rfl, _⟩ := Is.own hown1; have Hown1 := hide hown1; have Hb1 := hide hb1; clear hown1 hb1)
  refine (concat_any [l, form x.length, x] [.slice A0 l.length c0, .slice A1 (form x.length).length c1, .slice A x.length c] w1.heap.size 3 _ rfl (Row.fresh w1 _ _) (by simp) (by simp) ?_ (by have := Hl.out; have := Hf.out; simp [cat]; omega)).mono ?_
  · intro k hk
    have hb := Hb1.out.alloc Hb1.out.size (.cells #[.slice A0 l.length c0, .slice A1 (form x.length).length c1, .slice A x.length c] 25)
    rcases k with _ | _ | _ | k
    · exact Is.below Hs.out hb
    · exact (Is.own' Hown1.out (Below.refl _ _)).below ((Below.refl _ _).alloc (Nat.le_refl _) _)
    · exact Is.below Hx.out hb
    · simp at hk; omega
  · rintro e w2 ⟨v2, rfl, hown2, hb2⟩
    have hb := Hb1.out.alloc Hb1.out.size (.cells #[.slice A0 l.length c0, .slice A1 (form x.length).length c1, .slice A x.length c] 25)
    go_wp2
    go_ret
    refine ⟨_, rfl, ?_, hb.trans (hb2.mono hb.size)⟩
    have e : cat [l, form x.length, x] = l ++ (form x.length ++ x) := by simp [cat]
    rw [e] at hown2
    exact hown2.base hb.size
end Go.Proofs.YtlplgkdoiinfhaaDoor.Wr
