/-
  The statement DigestTells's walk, out of what the reference's Of comes to.
-/
import Derived.Test.YtoppmagelkfhoaaDoorLwA
import Derived.Test.YtoppmagelkfhoaaDoorRfD
namespace Go.Proofs.YtoppmagelkfhoaaDoor.Dg
open Go Go.RowKit Kt Sha

/-- what the reference's Of comes to -/
def RefOf : Prop := ∀ (bs : List UInt8) (A : Option Addr) (c : Nat) (Pb : Nat → Prop) (w : World), Sl w Pb A c bs → bs.length ≤ 300 → TabR w →
  Calls Tryd.prog 6 #[.slice A bs.length c] w fun e w' => e = .returned (.string ⟨(sha bs).toArray⟩) ∧ Below w.heap.size w w'

set_option maxHeartbeats 1000000 in
set_option maxRecDepth 100000 in
theorem tells_any (hR : RefOf) (bs : List UInt8) (A : Option Addr) (c : Nat) (Pb : Nat → Prop) (w : World) (hs : Sl w Pb A c bs) (ht : Tab w) (hq : TabR w) (hn : bs.length ≤ 9223372036854775807) :
    Calls Tryd.prog 3 #[.slice A bs.length c] w fun e w' => e = .returned (.bool true) ∧ Below w.heap.size w w' := by
  have Ht := hide ht
  have Hq := hide hq
  have Hs := hide hs
  clear ht hs hq
  by_cases h1 : 300 < bs.length
  · go_enter Tryd.func3, Tryd.ntmps3
    go_wp2_with (go_at_call 4; refine (awake_any _ Ht.out).mono ?_; rintro e w1 ⟨rfl, hb1⟩; have Hb1 := hide hb1; clear hb1)
    go_ret
    exact ⟨rfl, Hb1.out⟩
  · go_enter Tryd.func3, Tryd.ntmps3
    go_wp2_with (go_at_call 4; refine (awake_any _ Ht.out).mono ?_; rintro e w1 ⟨rfl, hb1⟩; have Hb1 := hide hb1; clear hb1)
    have htl := Ht.out.lt
    have hql := Hq.out.lt
    refine (of_any bs A c _ _ ((Hs.out.bound).move fun b hb _ => Hb1.out.block b hb.2) (Ht.out.below Hb1.out) (by omega)).mono ?_
    rintro e w2 ⟨rfl, hb2⟩
    have Hb2 := hide (Hb1.out.trans (hb2.mono Hb1.out.size))
    clear hb2
    go_wp2_with fail
    refine (hR bs A c _ _ ((Hs.out.bound).move fun b hb _ => Hb2.out.block b hb.2) (by omega) (Hq.out.below Hb2.out)).mono ?_
    rintro e w3 ⟨rfl, hb3⟩
    have Hb3 := hide (Hb2.out.trans (hb3.mono Hb2.out.size))
    clear hb3
    go_wp2_with fail
    refine (of_any bs A c _ _ ((Hs.out.bound).move fun b hb _ => Hb3.out.block b hb.2) (Ht.out.below Hb3.out) (by omega)).mono ?_
    rintro e w4 ⟨rfl, hb4⟩
    have Hb4 := hide (Hb3.out.trans (hb4.mono Hb3.out.size))
    clear hb4
    have hl := hide (sha_len bs)
    go_wp2
    go_ret
    exact ⟨rfl, Hb4.out⟩
end Go.Proofs.YtoppmagelkfhoaaDoor.Dg
