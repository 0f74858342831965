/-
  The statement DigestHex's walk.
-/
import Derived.Test.YthdhlefhgjncfaaDoorRfA
namespace Go.Proofs.YthdhlefhgjncfaaDoor.Dg
open Go Go.RowKit Kt Sha

theorem rhex_any (l : List UInt8) (w : World) : Calls Tryd.prog 14 #[.string ⟨l.toArray⟩] w fun e w' => e = .returned (.string ⟨(hexOf l).toArray⟩) ∧ Below w.heap.size w w' := by
  by_cases h : l.length = 32
  · exact rhex_yes l w h
  · exact (rhex_no l w h).mono fun _ _ ⟨h1, h2⟩ => ⟨h1, h2 ▸ Below.refl _ _⟩
theorem rparse_any (l : List UInt8) (w : World) : Calls Tryd.prog 12 #[.string ⟨l.toArray⟩] w fun e w' => e = .returned (parsed (parseOf l)) ∧ Below w.heap.size w w' := by
  by_cases h : l.length = 64
  · exact rparse_yes l w h
  · exact rparse_no l w h

set_option maxHeartbeats 1000000 in
set_option maxRecDepth 100000 in
theorem hexlaw_any (l s : List UInt8) (w : World) (ht : Tab w) (hn : l.length ≤ 9223372036854775807) (hm : s.length ≤ 9223372036854775807) :
    Calls Tryd.prog 4 #[.string ⟨l.toArray⟩, .string ⟨s.toArray⟩] w fun e w' => e = .returned (.bool true) ∧ Below w.heap.size w w' := by
  have Ht := hide ht
  clear ht
  by_cases h1 : 100 < l.length
  · go_enter Tryd.func4, Tryd.ntmps4
    go_wp2_with (go_at_call 8; refine (awake_any _ Ht.out).mono ?_; rintro e w1 ⟨rfl, hb1⟩; have Hb1 := hide hb1; clear hb1)
    go_ret
    exact ⟨rfl, Hb1.out⟩
  · by_cases h2 : 100 < s.length
    · go_enter Tryd.func4, Tryd.ntmps4
      go_wp2_with (go_at_call 8; refine (awake_any _ Ht.out).mono ?_; rintro e w1 ⟨rfl, hb1⟩; have Hb1 := hide hb1; clear hb1)
      go_ret
      exact ⟨rfl, Hb1.out⟩
    · go_enter Tryd.func4, Tryd.ntmps4
      go_wp2_with (go_at_call 8; refine (awake_any _ Ht.out).mono ?_; rintro e w1 ⟨rfl, hb1⟩; have Hb1 := hide hb1; clear hb1)
      refine (parse_any s _).mono ?_
      rintro e w2 ⟨rfl, hb2⟩
      have Hb2 := hide (Hb1.out.trans (hb2.mono Hb1.out.size))
      clear hb2
      have Hr := hide (rparse_any s)
      generalize parseOf s = o at *
      cases o with
      | none =>
        simp only [parsed, Option.getD_none, Option.isSome_none] at Hr ⊢
        go_wp2_with fail
        refine (Hr.out _).mono ?_
        rintro e w3 ⟨rfl, hb3⟩
        have Hb3 := hide (Hb2.out.trans (hb3.mono Hb2.out.size))
        clear hb3
        go_wp2_with fail
        refine (hex_any l _).mono ?_
        rintro e w4 ⟨rfl, hb4⟩
        have Hb4 := hide (Hb3.out.trans (hb4.mono Hb3.out.size))
        clear hb4
        go_wp2_with fail
        refine (rhex_any l _).mono ?_
        rintro e w5 ⟨rfl, hb5⟩
        have Hb5 := hide (Hb4.out.trans (hb5.mono Hb4.out.size))
        clear hb5
        go_wp2
        go_ret
        exact ⟨rfl, Hb5.out⟩
      | some r =>
        simp only [parsed, Option.getD_some, Option.isSome_some] at Hr ⊢
        go_wp2_with fail
        refine (Hr.out _).mono ?_
        rintro e w3 ⟨rfl, hb3⟩
        have Hb3 := hide (Hb2.out.trans (hb3.mono Hb2.out.size))
        clear hb3
        go_wp2_with fail
        refine (hex_any l _).mono ?_
        rintro e w4 ⟨rfl, hb4⟩
        have Hb4 := hide (Hb3.out.trans (hb4.mono Hb3.out.size))
        clear hb4
        go_wp2_with fail
        refine (rhex_any l _).mono ?_
        rintro e w5 ⟨rfl, hb5⟩
        have Hb5 := hide (Hb4.out.trans (hb5.mono Hb4.out.size))
        clear hb5
        go_wp2
        go_ret
        exact ⟨rfl, Hb5.out⟩
end Go.Proofs.YthdhlefhgjncfaaDoor.Dg
