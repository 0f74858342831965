/-
  What wire.Num and wire.Text come to.
-/
import Derived.Test.YtcmjdepjckhpdabDoorQZB
namespace Go.Proofs.YtcmjdepjckhpdabDoor.Wr
open Go Go.RowKit Kt

theorem Is.own' {w w' : World} {B : Nat} {E : TypeId} {v : Value} {l : List UInt8} (h : Own w B E v l) (hb : Below w.heap.size w w') : Is w' (fun _ => True) v l := ((Is.own h).imp fun _ _ _ => trivial).below hb

theorem _root_.Go.Proofs.YtcmjdepjckhpdabDoor.Kt.Own.base {w : World} {B B' : Nat} {E : TypeId} {v : Value} {l : List UInt8} (h : Own w B E v l) (hB : B' ≤ B) : Own w B' E v l := by
  refine ⟨h.1, ?_⟩
  rcases h.2 with ⟨h1, h2⟩ | ⟨g, cap, cur, hv', h1, h2⟩
  · exact .inl ⟨h1, h2⟩
  · exact .inr ⟨g, cap, cur, hv', Nat.le_trans hB h1, h2⟩

set_option maxHeartbeats 1000000 in
set_option maxRecDepth 100000 in
theorem text_put (l x : List UInt8) (A0 : Option Addr) (c0 : Nat) (A : Option Addr) (c : Nat) (Pb Px : Nat → Prop) (w : World) (hs : Sl w Pb A0 c0 l) (hx : Sl w Px A c x) (hl : l.length + x.length + 10 ≤ 70368744177664) :
    Calls Tryd.prog 38 #[.slice A0 l.length c0, .slice A x.length c] w fun e w' => ∃ v', e = .returned v' ∧ Own w' w.heap.size 5 v' (l ++ (form x.length ++ x)) ∧ Below w.heap.size w w' := by
  have Hs : Hid (Is w (fun _ => True) (.slice A0 l.length c0) l) := hide ⟨A0, c0, rfl, hs.imp fun _ _ _ => trivial⟩
  have Hx : Hid (Is w (fun _ => True) (.slice A x.length c) x) := hide ⟨A, c, rfl, hx.imp fun _ _ _ => trivial⟩
  have Hf := hide (form_short x.length 10 (by omega) (by omega))
  have Hn := hide (show x.length < 18446744073709551616 by omega)
  have Hl := hide hl
  clear hs hx
  go_enter Tryd.func38, Tryd.ntmps38
  go_wp2_with (go_at_call 45; refine (form_any _ _ Hn.out).mono ?_; rintro e w1 ⟨v1, rfl, hown1, hb1⟩; obtain ⟨A1, c1, rfl, _⟩ := Is.own hown1; have Hown1 := hide hown1; have Hb1 := hide hb1; clear hown1 hb1)
  refine (concat_any [l, form x.length, x] [.slice A0 l.length c0, .slice A1 (form x.length).length c1, .slice A x.length c] w1.heap.size 3 _ rfl (Row.fresh w1 _ _) (by simp) (by simp) ?_ (by have := Hl.out; have := Hf.out; simp [cat]; omega)).mono ?_
  · intro k hk
    have hb := Hb1.out.alloc Hb1.out.size (.cells #[.slice A0 l.length c0, .slice A1 (form x.length).length c1, .slice A x.length c] 38)
    rcases k with _ | _ | _ | k
    · exact Is.below Hs.out hb
    · exact (Is.own' Hown1.out (Below.refl _ _)).below ((Below.refl _ _).alloc (Nat.le_refl _) _)
    · exact Is.below Hx.out hb
    · simp at hk; omega
  · rintro e w2 ⟨v2, rfl, hown2, hb2⟩
    have hb := Hb1.out.alloc Hb1.out.size (.cells #[.slice A0 l.length c0, .slice A1 (form x.length).length c1, .slice A x.length c] 38)
    go_wp2
    go_ret
    refine ⟨_, rfl, ?_, hb.trans (hb2.mono hb.size)⟩
    have e : cat [l, form x.length, x] = l ++ (form x.length ++ x) := by simp [cat]
    rw [e] at hown2
    exact hown2.base hb.size
end Go.Proofs.YtcmjdepjckhpdabDoor.Wr
