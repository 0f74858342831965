/-
  What the reference's Num and Text come to.
-/
import Derived.Test.YtiomhbajbbpmiaaWD
namespace Go.Proofs.Ytiomhbajbbpmiaa.Wr
open Go Go.RowKit Kt

set_option maxHeartbeats 1000000 in
set_option maxRecDepth 100000 in
theorem rnum_any (b : List UInt8) (n : Nat) (A : Option Addr) (c : Nat) (Pb : Nat → Prop) (w : World) (hs : Sl w Pb A c b) (h : n < 18446744073709551616) (hl : b.length + 10 ≤ 70368744177664) :
    Calls Try.prog 13 #[.slice A b.length c, .int .u64 n] w fun e w' => ∃ v, e = .returned v ∧ Own w' w.heap.size 5 v (b ++ form n) ∧ Below w.heap.size w w' := by
  have Hn := hide h
  have Hs := hide hs
  have Hbl := hide hl
  clear h hs hl
  go_enter Try.func13, Try.ntmps13
  go_wp2_with (at_builtin; go_loud (refine wpList_cat rfl (.tmp 6) (.tmp 7) 22 rfl Try.underlying22 info8 w.heap.size w _ [] b Pb A c rfl rfl (Own.made w w.heap.size 5 #[] 0 (Nat.le_refl _) rfl (Nat.zero_le _)) ?qs ?ql ?qb ?qz ?_; rotate_left 4; intro v0 w0 hown0 hb0 _))
  case qs => exact Hs.out.move fun b _ hb => Below.heap_alloc w _ b hb
  case ql => have := Hbl.out; simp; omega
  case qb => exact (Below.refl _ _).alloc (Nat.le_refl _) _
  case qz => simp
  go_loopw [1, 5] (fun x v wr => ∃ (m : Nat) (l : List UInt8), x = .int .u64 m ∧ m ≤ n ∧ Own wr w.heap.size 5 v l ∧ l ++ form m = b ++ form n ∧ Below w.heap.size w wr) (fun x _ _ => (intOf x).toNat)
  case atStart => exact ⟨n, b, rfl, Nat.le_refl _, hown0, rfl, hb0⟩
  case round =>
    clear hown0 hb0
    obtain ⟨m, l, rfl, hm, hown, hl, hb⟩ := hrel
    have Hown := hide hown
    have Hb := hide hb
    have Hl := hide hl
    have Hmn := hide hm
    have hlen : l.length + (form m).length = b.length + (form n).length := by rw [← List.length_append, hl, List.length_append]
    have hs10 := form_short n 10 (by have := Hn.out; omega) (by omega)
    have Hlen := hide (show l.length + 1 ≤ 70368744177664 by have := form_pos m; have := Hbl.out; omega)
    have Hm := hide (show m < 18446744073709551616 by have := Hn.out; omega)
    clear hown hb hl hm hlen hs10
    have hm8 : m % 128 + 128 < 256 := by omega
    have hw64 : IntKind.u64.wrap ((m : Int) / 128) = (m : Int) / 128 := by rw [IntKind.wrap_u64]; have := Hm.out; omega
    by_cases hlt : m < 128
    · have Hf := hide (form_lt hlt)
      go_wp2_with (at_builtin; go_loud (refine wpList_push rfl (.tmp 20) (.tmp 23) 22 rfl Try.underlying22 info8 w.heap.size w _ l [UInt8.ofNat m] 1 1 rfl rfl Hown.out ?qc rfl ?ql Hb.out Hb.out.size ?_; rotate_left 2; intro v' w1 hown1 hb1 _))
      case qc => simp [u8s, UInt8.toNat_ofNat']; omega
      case ql => have := Hlen.out; simp; omega
      go_ret
      refine ⟨_, rfl, ?_, hb1⟩
      rw [← Hl.out, Hf.out]
      exact hown1
    · have Hf := hide (form_ge hlt)
      go_wp2_with (at_builtin; go_loud (refine wpList_push rfl (.tmp 11) (.tmp 16) 22 rfl Try.underlying22 info8 w.heap.size w _ l [UInt8.ofNat (m % 128 + 128)] 1 1 rfl rfl Hown.out ?qc rfl ?ql Hb.out Hb.out.size ?_; rotate_left 2; intro v' w1 hown1 hb1 _))
      case qc => simp [u8s, UInt8.toNat_ofNat']; omega
      case ql => have := Hlen.out; simp; omega
      refine ⟨⟨m / 128, _, by push_cast; rfl, by have := Hmn.out; omega, hown1, ?_, hb1⟩, ?_⟩
      · rw [← Hl.out, Hf.out]; simp
      · simp only [intOf]; omega

set_option maxHeartbeats 1000000 in
set_option maxRecDepth 100000 in
theorem rtext_any (b x : List UInt8) (A A' : Option Addr) (c c' : Nat) (Pb Px : Nat → Prop) (w : World) (hs : Sl w Pb A c b) (hx : Sl w Px A' c' x) (hl : b.length + x.length + 10 ≤ 70368744177664) :
    Calls Try.prog 15 #[.slice A b.length c, .slice A' x.length c'] w fun e w' => ∃ v, e = .returned v ∧ Own w' w.heap.size 5 v (b ++ (form x.length ++ x)) ∧ Below w.heap.size w w' := by
  have Hs := hide hs
  have Hx := hide hx
  have Hbl := hide hl
  have Hf := hide (form_short x.length 10 (by omega) (by omega))
  have hxl : x.length ≤ 70368744177664 := by omega
  clear hs hx hl
  go_enter Try.func15, Try.ntmps15
  go_wp2_with fail
  refine (rnum_any b x.length A c Pb w Hs.out (by omega) (by have := Hbl.out; omega)).mono ?_
  rintro y w1 ⟨v, rfl, hown, hb⟩
  have Hown := hide hown
  have Hb := hide hb
  clear hown hb
  go_wp2_with (at_builtin; go_loud (refine wpList_cat rfl (.tmp 9) (.tmp 10) 22 rfl Try.underlying22 info8 w.heap.size w _ _ x Px A' c' rfl rfl Hown.out ?qs ?ql Hb.out Hb.out.size ?_; rotate_left 2; intro v0 w0 hown0 hb0 _))
  case qs => exact Hx.out.move fun b _ hlt => Hb.out.block b hlt
  case ql => have := Hbl.out; have := Hf.out; simp; omega
  go_ret
  rw [List.append_assoc] at hown0
  exact ⟨_, rfl, hown0, hb0⟩
end Go.Proofs.Ytiomhbajbbpmiaa.Wr
