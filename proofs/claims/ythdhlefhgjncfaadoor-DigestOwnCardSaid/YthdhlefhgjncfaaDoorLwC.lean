/-
  The statement DigestOwn's walk.
-/
import Derived.Test.YthdhlefhgjncfaaDoorLwB
import Derived.Test.YthdhlefhgjncfaaDoorKitB

namespace Go.Proofs.YthdhlefhgjncfaaDoor.Dg
open Go Go.RowKit Kt Sha

set_option maxHeartbeats 1000000 in
set_option maxRecDepth 100000 in
theorem own_any (bs : List UInt8) (A : Option Addr) (c : Nat) (Pb : Nat → Prop) (at_ : Nat) (v : Int) (w : World) (hs : Sl w Pb A c bs) (ht : Tab w) (hn : bs.length ≤ 9223372036854775807) (ha : at_ ≤ 65535) :
    Calls Tryd.prog 7 #[.slice A bs.length c, .int .u16 (at_ : Int), .int .u8 v] w fun e w' => e = .returned (.bool true) ∧ Below w.heap.size w w' := by
  have Ht := hide ht
  have Hs := hide hs
  clear ht hs
  by_cases h0 : bs.length = 0
  · have hb0 : ((bs.length : Int) == 0) = true := by rw [beq_iff_eq]; omega
    have H0 := hide h0
    clear h0
    go_enter Tryd.func7, Tryd.ntmps7
    go_wp2_with (go_at_call 8; refine (awake_any _ Ht.out).mono ?_; rintro e w1 ⟨rfl, hb1⟩; have Hb1 := hide hb1; clear hb1)
    go_ret
    exact ⟨rfl, Hb1.out⟩
  · have hb0 : ((bs.length : Int) == 0) = false := by rw [beq_eq_false_iff_ne]; omega
    have hpos : 0 < bs.length := by omega
    clear h0
    by_cases h1 : 300 < bs.length
    · go_enter Tryd.func7, Tryd.ntmps7
      go_wp2_with (go_at_call 8; refine (awake_any _ Ht.out).mono ?_; rintro e w1 ⟨rfl, hb1⟩; have Hb1 := hide hb1; clear hb1)
      go_ret
      exact ⟨rfl, Hb1.out⟩
    · go_enter Tryd.func7, Tryd.ntmps7
      go_wp2_with (first
        | (go_at_call 8
           refine (awake_any _ Ht.out).mono ?_
           rintro e w1 ⟨rfl, hb1⟩
           have Hb1 := hide hb1
           clear hb1
           have Hb1b := hide (Hb1.out.alloc Hb1.out.size (.cells #[] 5))
           have Hsl1 := hide ((Hs.out.bound).move (w' := w1.alloc (.cells #[] 5)) (fun b hp hb => Hb1b.out.block b hp.2))
           have Hmade := hide (Own.made w1 w1.heap.size 5 #[] 0 (Nat.le_refl _) rfl (Nat.zero_le _))
           have Hb1c := hide ((Below.refl w1.heap.size w1).alloc (Nat.le_refl _) (.cells #[] 5)))
        | (refine wpList_cat rfl (.tmp 20) (.tmp 21) 22 rfl Tryd.underlying22 info8 w1.heap.size w1 _ [] bs _ A c rfl rfl Hmade.out Hsl1.out (by simp; omega) Hb1c.out (by simp) ?_
           intro v1 w2 hown1 hb2 _
           rw [List.nil_append] at hown1
           obtain ⟨g, cap, rfl, hg1, hg2⟩ := hown1.form hpos
           have Hown := hide hown1
           have Hb2 := hide hb2
           have Hg1 := hide hg1
           have Hg2 := hide hg2
           clear hown1 hb2 hg1 hg2)
        | (go_at_call 15
           refine (new_any _).mono ?_
           rintro e w3 ⟨rfl, hh3, hb3⟩
           have Hh3 := hide hh3
           have Hb3 := hide hb3
           clear hh3 hb3))
      have htl := Ht.out.lt
      have ht3 : Tab w3 := Ht.out.below (Hb1.out.trans ((Hb2.out.mono Hb1.out.size).trans (Hb3.out.mono (Nat.le_trans Hb1.out.size Hb2.out.size))))
      have z1 := Hb1.out.size
      have z2 := Hb2.out.size
      have z3 := Hb3.out.size
      have g1 := Hg1.out
      have g2 := Hg2.out
      have hown3 := Hown.out.kept Hb3.out
      obtain ⟨A3, c3, he3, hsl3⟩ := hown3.sl
      injection he3 with he3 _ he4
      subst he3 he4
      refine (write_any [] bs w2.heap.size _ cap _ Hh3.out (hsl3.imp fun b _ hp => by have h := hp.2; simp [Value.ownBlock] at h; omega) ht3 (by omega) (by simp; omega)).mono ?_
      rintro e w4 ⟨rfl, hh4, hg4⟩
      have hcell : ∀ k, k < bs.length → w4.cell? ⟨g, k, none⟩ = some (.int .u8 ((bs.getD k 0).toNat : Int)) := fun k hk => by
        rw [World.cell?_of_block (w := w3) (hg4.block g (by omega) (fun e => by injection e with e; omega))]
        exact hown3.cells k hk
      have hfree : ∀ k, w4.frozen? ⟨g, k, none⟩ = false := fun k => by
        rw [World.frozen?_of_block (w := w3) (hg4.block g (by omega) (fun e => by injection e with e; omega))]
        exact World.ownsRow.frozenAt hown3 k
      have hk : at_ % bs.length < bs.length := Nat.mod_lt _ hpos
      have d1 := hcell _ hk
      have d2 := hfree (at_ % bs.length)
      obtain ⟨last, hh4⟩ := hh4
      have Hh4 := hide hh4
      have Hg4 := hide hg4
      have Ht3 := hide ht3
      clear hh4 hg4 hcell hfree hown3 hsl3 ht3
      have i0 : 0 ≤ (at_ : Int) % (bs.length : Int) := Int.emod_nonneg _ (by omega)
      have i1 : (at_ : Int) % (bs.length : Int) < bs.length := Int.emod_lt_of_pos _ (by omega)
      go_wp2_with (go_at_call 17; fail)
      have hb4 : Below w1.heap.size w1 w4 := (Hb2.out.trans (Hb3.out.mono Hb2.out.size)).grown Hg4.out (by omega) (fun k hk => by injection hk with hk; omega)
      have hb5 := Hb1.out.trans ((below_put hb4 Hg1.out (i := at_ % bs.length) (.int .u8 v)).mono Hb1.out.size)
      have Hb5 := hide hb5
      refine (sum_any bs w2.heap.size _ ⟨last, Hh4.out.row.off (by omega) _, Hh4.out.len, Hh4.out.tail⟩ (Ht.out.below hb5) (by omega) (by omega)).mono ?_
      rintro e w6 ⟨rfl, hb6⟩
      have Hb6 := hide (Hb5.out.trans (hb6.mono Hb5.out.size))
      clear hb4 hb5 hb6
      go_wp2_with fail
      refine (of_any bs A c _ _ ((Hs.out.bound).move fun b hb _ => Hb6.out.block b hb.2) (Ht.out.below Hb6.out) (by omega)).mono ?_
      rintro e w7 ⟨rfl, hb7⟩
      have Hb7 := hide (Hb6.out.trans (hb7.mono Hb6.out.size))
      clear hb7
      go_wp2
      go_ret
      exact ⟨rfl, Hb7.out⟩
end Go.Proofs.YthdhlefhgjncfaaDoor.Dg
