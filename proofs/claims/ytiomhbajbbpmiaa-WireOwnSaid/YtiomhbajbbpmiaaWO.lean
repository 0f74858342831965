/-
  The walk of the statement WirePuts.
-/
import Derived.Test.YtiomhbajbbpmiaaWL
import Derived.Test.YtiomhbajbbpmiaaWN
namespace Go.Proofs.Ytiomhbajbbpmiaa.Wr
open Go Go.RowKit Kt

theorem _root_.Go.Proofs.Ytiomhbajbbpmiaa.Kt.Sl.belowAll {w w' : World} {P : Nat → Prop} {A : Option Addr} {c : Nat} {bs : List UInt8} (h : Sl w P A c bs) (hb : Below w.heap.size w w') : Sl w' P A c bs := h.move fun b _ hlt => hb.block b hlt

set_option maxHeartbeats 2000000 in
set_option maxRecDepth 100000 in
theorem puts_any (b x : List UInt8) (n : Nat) (A A' : Option Addr) (c c' : Nat) (Pb Px : Nat → Prop) (w : World) (hs : Sl w Pb A c b) (hx : Sl w Px A' c' x) (h : n < 18446744073709551616) (hn : b.length ≤ 9223372036854775807) (hn' : x.length ≤ 9223372036854775807) :
    Calls Try.prog 3 #[.slice A b.length c, .int .u64 n, .slice A' x.length c'] w fun e w' => e = .returned (.bool true) ∧ Below w.heap.size w w' := by
  have Hs := hide hs
  have Hx := hide hx
  have Hn := hide h
  clear hs hx h
  by_cases h1 : 200 < b.length
  · go_enter Try.func3, Try.ntmps3
    go_wp2_with (go_at_call 10; refine (awake_any _).mono ?_; rintro e w1 ⟨rfl, hb1⟩; have Hb1 := hide hb1; clear hb1)
    go_ret
    exact ⟨rfl, Hb1.out⟩
  · by_cases h2 : 200 < x.length
    · go_enter Try.func3, Try.ntmps3
      go_wp2_with (go_at_call 10; refine (awake_any _).mono ?_; rintro e w1 ⟨rfl, hb1⟩; have Hb1 := hide hb1; clear hb1)
      go_ret
      exact ⟨rfl, Hb1.out⟩
    · have Hf := hide (form_short n 10 (by have := Hn.out; omega) (by omega))
      have Hfx := hide (form_short x.length 10 (by omega) (by omega))
      obtain ⟨L, hL⟩ : ∃ L, b ++ form n = L := ⟨_, rfl⟩
      obtain ⟨M, hM⟩ : ∃ M, b ++ (form x.length ++ x) = M := ⟨_, rfl⟩
      have HL := hide hL
      have HM := hide hM
      have hLl : L.length ≤ 9223372036854775807 := by have := Hf.out; rw [← hL, List.length_append]; omega
      have hMl : M.length ≤ 9223372036854775807 := by have := Hfx.out; rw [← hM, List.length_append, List.length_append]; omega
      clear hL hM
      go_enter Try.func3, Try.ntmps3
      go_wp2_with (go_at_call 10; refine (awake_any _).mono ?_; rintro e w1 ⟨rfl, hb1⟩; have Hb1 := hide hb1; clear hb1)
      refine (num_any b n A c Pb w1 (Hs.out.belowAll Hb1.out) Hn.out (by omega)).mono ?_
      rintro y w2 ⟨v2, rfl, hv2, hb2⟩
      rw [HL.out] at hv2
      obtain ⟨A2, c2, rfl, hs2⟩ := Is.own hv2
      have Hs2 := hide hs2
      have Hb2 := hide (Hb1.out.trans (hb2.mono Hb1.out.size))
      clear hv2 hs2 hb2
      go_wp2_with fail
      refine (rnum_any b n A c Pb w2 (Hs.out.belowAll Hb2.out) Hn.out (by omega)).mono ?_
      rintro y w3 ⟨v3, rfl, hv3, hb3⟩
      rw [HL.out] at hv3
      obtain ⟨A3, c3, rfl, hs3⟩ := Is.own hv3
      have Hs3 := hide hs3
      have Hs2' := hide (Hs2.out.belowAll hb3)
      have Hb3 := hide (Hb2.out.trans (hb3.mono Hb2.out.size))
      clear hv3 hs3 hb3
      go_wp2_with fail
      refine (bytes_any L L A2 A3 c2 c3 _ _ w3 Hs2'.out Hs3.out hLl).mono ?_
      rintro y w4 ⟨rfl, hb4⟩
      simp only [decide_true]
      have Hb4 := hide (Hb3.out.trans (hb4.mono Hb3.out.size))
      clear hb4
      go_wp2_with fail
      refine (text_put b x A c A' c' Pb Px w4 (Hs.out.belowAll Hb4.out) (Hx.out.belowAll Hb4.out) (by omega)).mono ?_
      rintro y w5 ⟨v5, rfl, hv5, hb5⟩
      rw [HM.out] at hv5
      obtain ⟨A5, c5, rfl, hs5⟩ := Is.own hv5
      have Hs5 := hide hs5
      have Hb5 := hide (Hb4.out.trans (hb5.mono Hb4.out.size))
      clear hv5 hs5 hb5
      go_wp2_with fail
      refine (rtext_any b x A A' c c' Pb Px w5 (Hs.out.belowAll Hb5.out) (Hx.out.belowAll Hb5.out) (by omega)).mono ?_
      rintro y w6 ⟨v6, rfl, hv6, hb6⟩
      rw [HM.out] at hv6
      obtain ⟨A6, c6, rfl, hs6⟩ := Is.own hv6
      have Hs6 := hide hs6
      have Hs5' := hide (Hs5.out.belowAll hb6)
      have Hb6 := hide (Hb5.out.trans (hb6.mono Hb5.out.size))
      clear hv6 hs6 hb6
      go_wp2_with fail
      refine (bytes_any M M A5 A6 c5 c6 _ _ w6 Hs5'.out Hs6.out hMl).mono ?_
      rintro y w7 ⟨rfl, hb7⟩
      simp only [decide_true]
      have Hb7 := hide (Hb6.out.trans (hb7.mono Hb6.out.size))
      clear hb7
      go_wp2
      go_ret
      exact ⟨rfl, Hb7.out⟩
end Go.Proofs.Ytiomhbajbbpmiaa.Wr
