/-
  What wire.Num and wire.Text come to.
-/
import Derived.Test.YtcmjdepjckhpdaaDoorQZB
namespace Go.Proofs.YtcmjdepjckhpdaaDoor.Wr
open Go Go.RowKit Kt

theorem Is.own' {w w' : World} {B : Nat} {E : TypeId} {v : Value} {l : List UInt8} (h : Own w B E v l) (hb : Below w.heap.size w w') : Is w' (fun _ => True) v l := ((Is.own h).imp fun _ _ _ => trivial).below hb

theorem _root_.Go.Proofs.YtcmjdepjckhpdaaDoor.Kt.Own.base {w : World} {B B' : Nat} {E : TypeId} {v : Value} {l : List UInt8} (h : Own w B E v l) (hB : B' ≤ B) : Own w B' E v l := by
  refine ⟨h.1, ?_⟩
  rcases h.2 with ⟨h1, h2⟩ | ⟨g, cap, cur, hv', h1, h2⟩
  · exact .inl ⟨h1, h2⟩
  · exact .inr ⟨g, cap, cur, hv', Nat.le_trans hB h1, h2⟩

set_option maxHeartbeats 1000000 in
set_option maxRecDepth 100000 in
theorem text_put (l x : List UInt8) (A0 : Option Addr) (c0 : Nat) (A : Option Addr) (c : Nat) (Pb Px : Nat → Prop) (w : World) (hs : Sl w Pb A0 c0 l) (hx : Sl w Px A c x) (hl : l.length + x.length + 10 ≤ 70368744177664) :
    Calls Tryd.prog 54 #[.slice A0 l.length c0, .slice A x.length c] w fun e w' => ∃ v', e = .returned v' ∧ Own w' w.heap.size 5 v' (l ++ (form x.length ++ x)) ∧ Below w.heap.size w w' := by
  have Hs : Hid (Is w (fun _ => True) (.slice A0 l.length c0) l) := hide ⟨A0, c0, rfl, hs.imp fun _ _ _ => trivial⟩
  have Hx : Hid (Is w (fun _ => True) (.slice A x.length c) x) := hide ⟨A, c, rfl, hx.imp fun _ _ _ => trivial⟩
  have Hf := hide (form_short x.length 10 (by omega) (by omega))
  have Hn := hide (show x.length < 18446744073709551616 by omega)
  have Hl := hide hl
  clear hs hx
  go_enter Tryd.func54, Tryd.ntmps54
  go_wp2_with (go_at_call 63; refine (form_any _ _ Hn.out).mono ?_; rintro e w1 ⟨v1, rfl, hown1, hb1⟩; obtain ⟨A1, c1, rfl, _⟩ := Is.own hown1; have Hown1 := hide hown1; have Hb1 := hide hb1; clear hown1 hb1)
  refine (concat_any [l, form x.length, x] [.slice A0 l.length c0, .slice A1 (form x.length).length c1, .slice A x.length c] w1.heap.size 3 _ rfl (Row.fresh w1 _ _) (by simp) (by simp) ?_ (by have := Hl.out; have := Hf.out; simp [cat]; omega)).mono ?_
  · intro k hk
    have hb := Hb1.out.alloc Hb1.out.size (.cells #[.slice A0 l.length c0, .slice A1 (form x.length).length c1, .slice A x.length c] 38)
    rcases k with _ | _ | _ | k
    · exact Is.below Hs.out hb
    · exact (Is.own' Hown1.out (Below.refl _ _)).below ((Below.refl _ _).alloc (Nat.le_refl _) _)
    · exact Is.below Hx.out hb
    · simp at hk; omega
  · rintro e w2 ⟨v2, rfl, hown2, hb2⟩
    have hb := Hb1.out.alloc Hb1.out.size (.cells #[.slice A0 l.length c0, .slice A1 (form x.length).length c1, .slice A x.length c] 38)
    go_wp2
    go_ret
    refine ⟨_, rfl, ?_, hb.trans (hb2.mono hb.size)⟩
    have e : cat [l, form x.length, x] = l ++ (form x.length ++ x) := by simp [cat]
    rw [e] at hown2
    exact hown2.base hb.size
end Go.Proofs.YtcmjdepjckhpdaaDoor.Wr
namespace Go.Proofs.YtcmjdepjckhpdaaDoor.Wr
open Go Go.RowKit Kt

set_option maxHeartbeats 1000000 in
set_option maxRecDepth 100000 in
theorem rnum_any (b : List UInt8) (n : Nat) (A : Option Addr) (c : Nat) (Pb : Nat → Prop) (w : World) (hs : Sl w Pb A c b) (h : n < 18446744073709551616) (hl : b.length + 10 ≤ 70368744177664) :
    Calls Tryd.prog 58 #[.slice A b.length c, .int .u64 n] w fun e w' => ∃ v, e = .returned v ∧ Own w' w.heap.size 5 v (b ++ form n) ∧ Below w.heap.size w w' := by
  have Hn := hide h
  have Hs := hide hs
  have Hbl := hide hl
  clear h hs hl
  go_enter Tryd.func58, Tryd.ntmps58
  go_wp2_with (at_builtin; go_loud (refine wpList_cat rfl (.tmp 6) (.tmp 7) 38 rfl Tryd.underlying38 info8 w.heap.size w _ [] b Pb A c rfl rfl (Own.made w w.heap.size 5 #[] 0 (Nat.le_refl _) rfl (Nat.zero_le _)) ?qs ?ql ?qb ?qz ?_; rotate_left 4; intro v0 w0 hown0 hb0 _))
  case qs => exact Hs.out.move fun b _ hb => Below.heap_alloc w _ b hb
  case ql => have := Hbl.out; simp; omega
  case qb => exact (Below.refl _ _).alloc (Nat.le_refl _) _
  case qz => simp
  go_loopw [1, 5] (fun x v wr => ∃ (m : Nat) (l : List UInt8), x = .int .u64 m ∧ m ≤ n ∧ Own wr w.heap.size 5 v l ∧ l ++ form m = b ++ form n ∧ Below w.heap.size w wr) (fun x _ _ => (intOf x).toNat)
  case atStart => exact ⟨n, b, rfl, Nat.le_refl _, hown0, rfl, hb0⟩
  case round =>
    clear hown0 hb0
    obtain ⟨m, l, rfl, hm, hown, hl, hb⟩ := hrel
    have Hown := hide hown
    have Hb := hide hb
    have Hl := hide hl
    have Hmn := hide hm
    have hlen : l.length + (form m).length = b.length + (form n).length := by rw [← List.length_append, hl, List.length_append]
    have hs10 := form_short n 10 (by have := Hn.out; omega) (by omega)
    have Hlen := hide (show l.length + 1 ≤ 70368744177664 by have := form_pos m; have := Hbl.out; omega)
    have Hm := hide (show m < 18446744073709551616 by have := Hn.out; omega)
    clear hown hb hl hm hlen hs10
    have hm8 : m % 128 + 128 < 256 := by omega
    have hw64 : IntKind.u64.wrap ((m : Int) / 128) = (m : Int) / 128 := by rw [IntKind.wrap_u64]; have := Hm.out; omega
    by_cases hlt : m < 128
    · have Hf := hide (form_lt hlt)
      go_wp2_with (at_builtin; go_loud (refine wpList_push rfl (.tmp 20) (.tmp 23) 38 rfl Tryd.underlying38 info8 w.heap.size w _ l [UInt8.ofNat m] 1 1 rfl rfl Hown.out ?qc rfl ?ql Hb.out Hb.out.size ?_; rotate_left 2; intro v' w1 hown1 hb1 _))
      case qc => simp [u8s, UInt8.toNat_ofNat']; omega
      case ql => have := Hlen.out; simp; omega
      go_ret
      refine ⟨_, rfl, ?_, hb1⟩
      rw [← Hl.out, Hf.out]
      exact hown1
    · have Hf := hide (form_ge hlt)
      go_wp2_with (at_builtin; go_loud (refine wpList_push rfl (.tmp 11) (.tmp 16) 38 rfl Tryd.underlying38 info8 w.heap.size w _ l [UInt8.ofNat (m % 128 + 128)] 1 1 rfl rfl Hown.out ?qc rfl ?ql Hb.out Hb.out.size ?_; rotate_left 2; intro v' w1 hown1 hb1 _))
      case qc => simp [u8s, UInt8.toNat_ofNat']; omega
      case ql => have := Hlen.out; simp; omega
      refine ⟨⟨m / 128, _, by push_cast; rfl, by have := Hmn.out; omega, hown1, ?_, hb1⟩, ?_⟩
      · rw [← Hl.out, Hf.out]; simp
      · simp only [intOf]; omega

set_option maxHeartbeats 1000000 in
set_option maxRecDepth 100000 in
theorem rtext_any (b x : List UInt8) (A A' : Option Addr) (c c' : Nat) (Pb Px : Nat → Prop) (w : World) (hs : Sl w Pb A c b) (hx : Sl w Px A' c' x) (hl : b.length + x.length + 10 ≤ 70368744177664) :
    Calls Tryd.prog 55 #[.slice A b.length c, .slice A' x.length c'] w fun e w' => ∃ v, e = .returned v ∧ Own w' w.heap.size 5 v (b ++ (form x.length ++ x)) ∧ Below w.heap.size w w' := by
  have Hs := hide hs
  have Hx := hide hx
  have Hbl := hide hl
  have Hf := hide (form_short x.length 10 (by omega) (by omega))
  have hxl : x.length ≤ 70368744177664 := by omega
  clear hs hx hl
  go_enter Tryd.func55, Tryd.ntmps55
  go_wp2_with fail
  refine (rnum_any b x.length A c Pb w Hs.out (by omega) (by have := Hbl.out; omega)).mono ?_
  rintro y w1 ⟨v, rfl, hown, hb⟩
  have Hown := hide hown
  have Hb := hide hb
  clear hown hb
  go_wp2_with (at_builtin; go_loud (refine wpList_cat rfl (.tmp 9) (.tmp 10) 38 rfl Tryd.underlying38 info8 w.heap.size w _ _ x Px A' c' rfl rfl Hown.out ?qs ?ql Hb.out Hb.out.size ?_; rotate_left 2; intro v0 w0 hown0 hb0 _))
  case qs => exact Hx.out.move fun b _ hlt => Hb.out.block b hlt
  case ql => have := Hbl.out; have := Hf.out; simp; omega
  go_ret
  rw [List.append_assoc] at hown0
  exact ⟨_, rfl, hown0, hb0⟩
end Go.Proofs.YtcmjdepjckhpdaaDoor.Wr
