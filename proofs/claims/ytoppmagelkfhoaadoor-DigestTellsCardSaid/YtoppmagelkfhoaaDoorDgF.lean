/-
  What digest.Of comes to: the document's digest of the bytes that are handed in.
-/
import Derived.Test.YtoppmagelkfhoaaDoorDgE
namespace Go.Proofs.YtoppmagelkfhoaaDoor.Dg
open Go Go.RowKit Kt Sha

theorem of_any (bs : List UInt8) (A : Option Addr) (c : Nat) (Pb : Nat → Prop) (w : World) (hs : Sl w Pb A c bs) (ht : Tab w) (hn : bs.length < 4294967000) :
    Calls Tryd.prog 5 #[.slice A bs.length c] w fun e w' => e = .returned (.string ⟨(sha bs).toArray⟩) ∧ Below w.heap.size w w' := by
  have Hs := hide hs
  have Ht := hide ht
  have htl := ht.lt
  clear hs ht
  go_enter Tryd.func5, Tryd.ntmps5
  go_wp2_with (go_at_call 9; refine (new_any _).mono ?_; rintro e w1 ⟨rfl, hh1, hb1⟩; have Hh1 := hide hh1; have Hb1 := hide hb1; clear hh1 hb1)
  have hsl : Sl w1 (fun b => b ≠ w.heap.size) A c bs := ((Hs.out.bound).move fun b hb _ => Hb1.out.block b hb.2).imp fun b _ hb => by omega
  refine (write_any [] bs w.heap.size A c _ Hh1.out hsl (Ht.out.below Hb1.out) (by omega) (by simp; omega)).mono ?_
  rintro e w2 ⟨rfl, hh2, hg2⟩
  have Hh2 := hide hh2
  have Hb2 := hide (Hb1.out.grown hg2 Hb1.out.size (fun k hk => by injection hk with hk; omega))
  clear hh2 hg2 hsl
  go_wp2_with fail
  refine (sum_any bs w.heap.size _ Hh2.out (Ht.out.below Hb2.out) (by omega) hn).mono ?_
  rintro e w3 ⟨rfl, hb3⟩
  have Hb3 := hide (Hb2.out.trans (hb3.mono Hb2.out.size))
  clear hb3
  go_wp2
  go_ret
  exact ⟨rfl, Hb3.out⟩
end Go.Proofs.YtoppmagelkfhoaaDoor.Dg
