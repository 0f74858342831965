/-
  What stands behind changes nothing; and the walk of the statement WireAgain.
-/
import Derived.Test.YtiomhbajbbpmiaaWL
namespace Go.Proofs.Ytiomhbajbbpmiaa.Wr
open Go Go.RowKit Kt

theorem textOf_more (bs more : List UInt8) (most : Int) (h : (textOf bs most).2.2 ≠ 2) : textOf (bs ++ more) most = textOf bs most := by
  have hn2 : (numOf bs).2.2 ≠ 2 := by
    intro he
    rw [text_bad bs most (by omega)] at h
    exact h he
  have e := numOf_more bs more hn2
  by_cases he : (numOf bs).2.2 = 0
  · obtain ⟨n, k, hr⟩ : ∃ n k, numOf bs = (n, k, 0) := ⟨_, _, by rw [← he]⟩
    rw [hr] at e
    have hk := (numOf_ok bs n k hr).2.2.2.1
    by_cases h2 : (max most 0).toNat < n
    · rw [text_over bs most n k hr h2, text_over _ most n k e h2]
    · by_cases h3 : bs.length - k < n
      · rw [text_less bs most n k hr h2 h3] at h
        exact absurd rfl h
      · rw [text_fine bs most n k hr h2 h3, text_fine _ most n k e h2 (by rw [List.length_append]; omega)]
        rw [List.drop_append_of_le_length hk, List.take_append_of_le_length (by rw [List.length_drop]; omega)]
  · rw [text_bad bs most he, text_bad _ most (by rw [e]; exact he), e]

theorem text_len (bs : List UInt8) (most : Int) : (textOf bs most).1.length ≤ bs.length := by
  unfold textOf
  split
  · simp
  · split
    · simp
    · split
      · simp
      · simp only [List.length_take, List.length_drop]
        omega

set_option maxHeartbeats 2000000 in
set_option maxRecDepth 100000 in
theorem again_late (bs more : List UInt8) (limit : Int) (A A1 : Option Addr) (c c1 : Nat) (Pb : Nat → Prop) (w : World) (hs : Sl w Pb A c bs) (hm : Sl w Pb A1 c1 more) (h1 : bs.length ≤ 200) (h2 : more.length ≤ 100) (hlm : limit ≤ 9223372036854775807) :
    Calls Try.prog 9 #[.slice A bs.length c, .slice A1 more.length c1, .int .i64 limit] w fun e w' => e = .returned (.bool true) ∧ Below w.heap.size w w' := by
  have Hs := hide hs
  have Hm := hide hm
  have Hlm := hide hlm
  clear hs hm hlm
  obtain ⟨L, hL⟩ : ∃ L, bs ++ more = L := ⟨_, rfl⟩
  have HLl := hide (show L.length = bs.length + more.length by rw [← hL, List.length_append])
  have HL := hide hL
  clear hL
  go_enter Try.func9, Try.ntmps9
  go_wp2_with (go_at_call 10; refine (awake_any _).mono ?_; rintro e w1 ⟨rfl, hb1⟩; have Hb1 := hide hb1; clear hb1)
  refine (open_any bs A c _ w1 (Hs.out.move fun b _ hb => Hb1.out.block b hb) (by omega)).mono ?_
  rintro y w2 ⟨g1, rfl, hr2, hb2⟩
  have Hr2 := hide hr2
  have Hb2 := hide (Hb1.out.trans (hb2.mono Hb1.out.size))
  have Hg1 := hide (show w.heap.size ≤ g1 by have := hr2.from; have := Hb1.out.size; omega)
  clear hr2 hb2
  go_wp2_with (first
    | (at_builtin; refine wpList_cat rfl (.tmp 26) (.tmp 27) 22 rfl Try.underlying22 info8 w2.heap.size w2 _ [] bs Pb A c rfl rfl (Own.made w2 w2.heap.size 5 #[] 0 (Nat.le_refl _) rfl (Nat.zero_le _)) ?qs ?ql ?qb ?qz ?_; rotate_left 4; intro v3 w3 hown3 hb3 _; have Hown3 := hide hown3; have Hb3 := hide hb3; clear hown3 hb3)
    | (at_builtin; refine wpList_cat rfl (.tmp 28) (.tmp 29) 22 rfl Try.underlying22 info8 w2.heap.size w2 _ _ more Pb A1 c1 rfl rfl Hown3.out ?qs' ?ql' Hb3.out Hb3.out.size ?_; rotate_left 2; intro v4 w4 hown4 hb4 _; have Hown4 := hide hown4; have Hb4 := hide hb4; clear hown4 hb4))
  case qs => exact (Hs.out.move fun b _ hb => Hb2.out.block b hb).move fun b _ hb => Below.heap_alloc w2 _ b hb
  case ql => simp; omega
  case qb => exact (Below.refl _ _).alloc (Nat.le_refl _) _
  case qz => simp
  case qs' => exact (Hm.out.move fun b _ hb => Hb2.out.block b hb).move fun b _ hb => Hb3.out.block b hb
  case ql' => simp; omega
  obtain ⟨A4, c4, rfl, hs4⟩ := Is.own Hown4.out
  rw [List.nil_append, HL.out] at hs4 ⊢
  refine (open_any L A4 c4 _ w4 hs4 (by have := HLl.out; omega)).mono ?_
  rintro y w5 ⟨g2, rfl, hr5, hb5⟩
  have hb25 := Hb4.out.trans (hb5.mono Hb4.out.size)
  have Hr5 := hide (Hr2.out.below hb25)
  have Hs5 := hide hr5
  have Hb5 := hide (Hb2.out.trans (hb25.mono Hb2.out.size))
  have Hne := hide (show g2 ≠ g1 by have := hr5.from; have := Hr2.out.lt; have := Hb4.out.size; omega)
  have Hg2 := hide (show w.heap.size ≤ g2 by have := hr5.from; have := Hb4.out.size; have := Hb2.out.size; omega)
  clear hs4 hr5 hb5 hb25
  by_cases hlt : limit < 0
  · obtain ⟨n, k, e, hnum⟩ : ∃ n k e, numOf bs = (n, k, e) := ⟨_, _, _, rfl⟩
    have hkl : k ≤ bs.length := by have := numOf_le bs; rw [hnum] at this; exact this
    have Hst := hide (show stepNum bs 0 = (n, bs.drop k, e) by unfold stepNum; rw [if_pos rfl, hnum])
    obtain ⟨n', k', e', hnum'⟩ : ∃ n k e, numOf L = (n, k, e) := ⟨_, _, _, rfl⟩
    have Hst' := hide (show stepNum L 0 = (n', L.drop k', e') by unfold stepNum; rw [if_pos rfl, hnum'])
    have Hsame := hide (show e ≠ 2 → n' = n ∧ k' = k ∧ e' = e by
      intro he
      have := numOf_more bs more (by rw [hnum]; exact he)
      rw [HL.out, hnum, hnum'] at this
      cases this
      exact ⟨rfl, rfl, rfl⟩)
    have Hd := hide (show (bs.drop k).length = bs.length - k from List.length_drop)
    have Hd' := hide (show (L.drop k').length = bs.length + more.length - k' by rw [List.length_drop, HLl.out])
    clear hnum hnum'
    go_wp2_with fail
    refine (read_num Hr5.out).mono ?_
    rintro y w6 ⟨rfl, hr6, ho6⟩
    rw [Hst.out] at hr6 ⊢
    have Hs6 := hide (Hs5.out.other Hr5.out Hne.out ho6)
    have Hr6 := hide hr6
    have Hb6 := hide (ho6.below Hb5.out Hb5.out.size fun k hk h => by have := Hg1.out; omega)
    clear hr6 ho6
    go_wp2_with fail
    refine (read_num Hs6.out).mono ?_
    rintro y w7 ⟨rfl, hs7, ho7⟩
    rw [Hst'.out] at hs7 ⊢
    have Hr7 := hide (Hr6.out.other Hs6.out (Ne.symm Hne.out) ho7)
    have Hs7 := hide hs7
    have Hb7 := hide (ho7.below Hb6.out Hb6.out.size fun k hk h => by have := Hg2.out; omega)
    clear hs7 ho7
    go_wp2_with fail
    refine (fail_any Hr7.out).mono ?_
    rintro y w8 ⟨rfl, rfl⟩
    by_cases he : e = 2
    · subst he
      go_wp2
      go_ret
      exact ⟨rfl, Hb7.out⟩
    · obtain ⟨rfl, rfl, rfl⟩ := Hsame.out he
      have hb2 : ((e' : Int) == 2) = false := beq_eq_false_iff_ne.2 (by omega)
      go_wp2_with fail
      refine (fail_any Hr7.out).mono ?_
      rintro y w8 ⟨rfl, rfl⟩
      go_wp2_with fail
      refine (fail_any Hs7.out).mono ?_
      rintro y w8 ⟨rfl, rfl⟩
      go_wp2_with fail
      refine (left_any Hr7.out).mono ?_
      rintro y w8 ⟨rfl, rfl⟩
      rw [Hd.out]
      go_wp2_with fail
      refine (left_any Hs7.out).mono ?_
      rintro y w8 ⟨rfl, rfl⟩
      rw [Hd'.out]
      have hsub : ((bs.length + more.length - k' : Nat) : Int) - (more.length : Int) = ((bs.length - k' : Nat) : Int) := by omega
      go_wp2
      go_ret
      exact ⟨rfl, Hb7.out⟩
  · obtain ⟨X, k, e, htx⟩ : ∃ x k e, textOf bs limit = (x, k, e) := ⟨_, _, _, rfl⟩
    have hkl : k ≤ bs.length := by have := text_le bs limit; rw [htx] at this; exact this
    have hXl : X.length ≤ 9223372036854775807 := by have := text_len bs limit; rw [htx] at this; simp only at this; omega
    have Hst := hide (show stepText bs 0 limit = (X, bs.drop k, e) by unfold stepText; rw [if_pos rfl, htx])
    obtain ⟨X', k', e', htx'⟩ : ∃ x k e, textOf L limit = (x, k, e) := ⟨_, _, _, rfl⟩
    have Hst' := hide (show stepText L 0 limit = (X', L.drop k', e') by unfold stepText; rw [if_pos rfl, htx'])
    have Hsame := hide (show e ≠ 2 → X' = X ∧ k' = k ∧ e' = e by
      intro he
      have := textOf_more bs more limit (by rw [htx]; exact he)
      rw [HL.out, htx, htx'] at this
      cases this
      exact ⟨rfl, rfl, rfl⟩)
    have Hd := hide (show (bs.drop k).length = bs.length - k from List.length_drop)
    have Hd' := hide (show (L.drop k').length = bs.length + more.length - k' by rw [List.length_drop, HLl.out])
    clear htx htx'
    go_wp2_with fail
    refine (read_text limit Hr5.out Hlm.out).mono ?_
    rintro y w6 ⟨v6, rfl, hv6, hr6, ho6⟩
    rw [Hst.out] at hr6 hv6
    obtain ⟨A6, c6, rfl, hx6⟩ := Is.own hv6
    have Hx6 := hide hx6
    have Hs6 := hide (Hs5.out.other Hr5.out Hne.out ho6)
    have Hr6 := hide hr6
    have Hb6 := hide (ho6.below Hb5.out Hb5.out.size fun k hk h => by have := Hg1.out; omega)
    clear hr6 ho6 hv6 hx6
    go_wp2_with fail
    refine (read_text limit Hs6.out Hlm.out).mono ?_
    rintro y w7 ⟨v7, rfl, hv7, hs7, ho7⟩
    rw [Hst'.out] at hs7 hv7
    obtain ⟨A7, c7, rfl, hx7⟩ := Is.own hv7
    have Hx7 := hide hx7
    have Hx6' := hide (Hx6.out.only ho7 fun b hb he => by have := Hs5.out.lt; have := hb.1; omega)
    have Hr7 := hide (Hr6.out.other Hs6.out (Ne.symm Hne.out) ho7)
    have Hs7 := hide hs7
    have Hb7 := hide (ho7.below Hb6.out Hb6.out.size fun k hk h => by have := Hg2.out; omega)
    clear hs7 ho7 hv7 hx7
    go_wp2_with fail
    refine (fail_any Hr7.out).mono ?_
    rintro y w8 ⟨rfl, rfl⟩
    by_cases he : e = 2
    · subst he
      go_wp2
      go_ret
      exact ⟨rfl, Hb7.out⟩
    · obtain ⟨rfl, rfl, rfl⟩ := Hsame.out he
      have hb2 : ((e' : Int) == 2) = false := beq_eq_false_iff_ne.2 (by omega)
      go_wp2_with fail
      refine (bytes_any X' X' A6 A7 c6 c7 _ _ w7 Hx6'.out Hx7.out hXl).mono ?_
      rintro y w8 ⟨rfl, hb8⟩
      simp only [decide_true]
      have Hr8 := hide (Hr7.out.below hb8)
      have Hs8 := hide (Hs7.out.below hb8)
      have Hb8 := hide (Hb7.out.trans (hb8.mono Hb7.out.size))
      clear hb8
      go_wp2_with fail
      refine (fail_any Hr8.out).mono ?_
      rintro y w9 ⟨rfl, rfl⟩
      go_wp2_with fail
      refine (fail_any Hs8.out).mono ?_
      rintro y w9 ⟨rfl, rfl⟩
      go_wp2_with fail
      refine (left_any Hr8.out).mono ?_
      rintro y w9 ⟨rfl, rfl⟩
      rw [Hd.out]
      go_wp2_with fail
      refine (left_any Hs8.out).mono ?_
      rintro y w9 ⟨rfl, rfl⟩
      rw [Hd'.out]
      have hsub : ((bs.length + more.length - k' : Nat) : Int) - (more.length : Int) = ((bs.length - k' : Nat) : Int) := by omega
      go_wp2
      go_ret
      exact ⟨rfl, Hb8.out⟩

set_option maxHeartbeats 2000000 in
set_option maxRecDepth 100000 in
theorem again_early (n m : Nat) (limit : Int) (A A1 : Option Addr) (c c1 : Nat) (w : World) (hn : n ≤ 9223372036854775807) (hm : m ≤ 9223372036854775807) (h : 200 < n ∨ (n ≤ 200 ∧ 100 < m)) :
    Calls Try.prog 9 #[.slice A n c, .slice A1 m c1, .int .i64 limit] w fun e w' => e = .returned (.bool true) ∧ Below w.heap.size w w' := by
  rcases h with h | ⟨h, h'⟩ <;>
  · go_enter Try.func9, Try.ntmps9
    go_wp2_with (go_at_call 10; refine (awake_any _).mono ?_; rintro e w1 ⟨rfl, hb1⟩; have Hb1 := hide hb1; clear hb1)
    go_ret
    exact ⟨rfl, Hb1.out⟩
theorem again_any (bs more : List UInt8) (limit : Int) (A A1 : Option Addr) (c c1 : Nat) (w : World) (hs : Sl w (fun _ => True) A c bs) (hm : Sl w (fun _ => True) A1 c1 more) (hn : bs.length ≤ 9223372036854775807) (hn' : more.length ≤ 9223372036854775807) (hlm : limit ≤ 9223372036854775807) :
    Calls Try.prog 9 #[.slice A bs.length c, .slice A1 more.length c1, .int .i64 limit] w fun e w' => e = .returned (.bool true) ∧ Below w.heap.size w w' := by
  by_cases h : 200 < bs.length ∨ (bs.length ≤ 200 ∧ 100 < more.length)
  · exact again_early _ _ limit A A1 c c1 w hn hn' h
  · exact again_late bs more limit A A1 c c1 _ w hs hm (by omega) (by omega) hlm
end Go.Proofs.Ytiomhbajbbpmiaa.Wr
