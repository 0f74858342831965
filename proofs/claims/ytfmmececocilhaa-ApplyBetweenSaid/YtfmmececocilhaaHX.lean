/-
  The reference's Many, Right.
-/
import Derived.Test.YtfmmececocilhaaHG
import Derived.Test.YtfmmececocilhaaRegB
namespace Go.Proofs.Ytfmmececocilhaa.Hu
open Go Go.RowKit Kt Lw Li Df

theorem u8_eq {b c : UInt8} (h : b = c) : ((b.toNat : Int) == (c.toNat : Int)) = true := by rw [h]; exact beq_self_eq_true _
set_option maxHeartbeats 1000000 in
set_option maxRecDepth 100000 in
theorem refMany_any (s : UInt8) (hs0 : s ≠ 0) (L : Ls) (A : Option Addr) (c : Nat) (P : Nat → Prop) (w : World) (hs : Vs w P A c (texts L)) (hn : L.length ≤ 1000000) :
    Calls Try.prog 32 #[.slice A L.length c, .int .u8 (s.toNat : Int)] w fun y w' => y = .returned (.int .i64 (many s L : Int)) ∧ w' = w := by
  have Hs := hide hs.bound
  obtain ⟨N, hN⟩ : ∃ N, N = L.length := ⟨_, rfl⟩
  rw [← hN] at hn ⊢
  have HN := hide hN
  clear hs hN
  go_enter Try.func32, Try.ntmps32
  go_wp2
  go_loopw [5, 6] (fun o i wr => ∃ k : Nat, k ≤ N ∧ i = .int .i64 k ∧ o = .int .i64 (many s (L.take k) : Int) ∧ wr = w) (fun _ i _ => N - (intOf i).toNat)
  case atStart => exact ⟨0, Nat.zero_le _, rfl, by simp [many], rfl⟩
  case round =>
    obtain ⟨k, hk, rfl, rfl, rfl⟩ := hrel
    by_cases hlt : k < N
    · obtain ⟨b, o, rfl, ck⟩ := Hs.out.text (Below.refl _ _) (k := k) (by have := HN.out; omega)
      have H1 := hide (many_snoc s L k (by have := HN.out; omega))
      have h1 := many_leN s L k
      generalize many s (L.take k) = p at *
      generalize L.getD k [] = x at *
      by_cases hx : x = []
      · subst hx
        have H1' := hide (show many s (L.take (k + 1)) = p by rw [H1.out, if_neg (by rintro (h | h); exact absurd h (by decide); exact hs0 h.symm)]; rfl)
        clear H1 hs0
        go_wp2
        exact ⟨⟨k + 1, by omega, by go_num, by rw [H1'.out], trivial⟩, by simp [intOf]; omega⟩
      have hl : 0 < x.length := List.length_pos_iff.2 hx
      have hsz := size_of x
      have hg := get_at x 0 (by rw [hsz]; exact hl)
      rw [sg_get] at hg
      by_cases h32 : sg x = 32
      · rw [h32] at hg H1
        have H1' := hide (show many s (L.take (k + 1)) = p + 1 from by rw [H1.out, if_pos (.inl rfl)])
        clear H1 hs0 h32 hx
        go_wp2
        exact ⟨⟨k + 1, by omega, by go_num, by rw [H1'.out]; go_num, trivial⟩, by simp [intOf]; omega⟩
      have e32 : (((sg x).toNat : Int) == 32) = false := u8_ne h32
      by_cases hss : sg x = s
      · have H1' := hide (show many s (L.take (k + 1)) = p + 1 from by rw [H1.out, if_pos (.inr hss)])
        rw [hss] at hg e32
        clear H1 hs0 h32 hx hss
        have eq1 : ((s.toNat : Int) == (s.toNat : Int)) = true := beq_self_eq_true _
        go_wp2
        exact ⟨⟨k + 1, by omega, by go_num, by rw [H1'.out]; go_num, trivial⟩, by simp [intOf]; omega⟩
      · have H1' := hide (show many s (L.take (k + 1)) = p from by rw [H1.out, if_neg (by rintro (h | h); exact h32 h; exact hss h)]; rfl)
        have es : (((sg x).toNat : Int) == (s.toNat : Int)) = false := u8_ne hss
        clear H1 hs0 h32 hx hss
        go_wp2
        exact ⟨⟨k + 1, by omega, by go_num, by rw [H1'.out], trivial⟩, by simp [intOf]; omega⟩
    · obtain rfl : k = N := by omega
      go_wp2
      go_ret
      exact ⟨by rw [HN.out, List.take_length]; rfl, rfl⟩
/-- what stands ahead of line k -/
def ahead (L : Ls) (k : Nat) : Bool := decide (0 < k ∧ sg (L.getD (k - 1) []) = 43)
set_option maxHeartbeats 600000 in
set_option maxRecDepth 100000 in
theorem refRight_any (ha han hb hbn : Int) (L : Ls) (A : Option Addr) (c : Nat) (P : Nat → Prop) (w : World) (hs : Vs w P A c (texts L)) (hn : L.length ≤ 1000000) :
    Calls Try.prog 25 #[.agg #[.int .i64 ha, .int .i64 han, .int .i64 hb, .int .i64 hbn, .slice A L.length c]] w fun y w' => y = .returned (.bool (hright ⟨ha, han, hb, hbn, L⟩)) ∧ Below w.heap.size w w' := by
  have Hs := hide hs.bound
  have HC5 := hide (fun w' (hb : Below w.heap.size w w') => refMany_any 45 (by decide) L A c _ w' (Lw.Vs.below hs.bound hb) hn)
  have HC3 := hide (fun w' (hb : Below w.heap.size w w') => refMany_any 43 (by decide) L A c _ w' (Lw.Vs.below hs.bound hb) hn)
  obtain ⟨N, hN⟩ : ∃ N, N = L.length := ⟨_, rfl⟩
  rw [← hN] at hn HC5 HC3 ⊢
  have HN := hide hN
  have HR := hide (show hright ⟨ha, han, hb, hbn, L⟩ = (okF false L && (((decide (0 ≤ ha) && decide (0 ≤ hb)) && decide (han = many 45 L)) && decide (hbn = many 43 L))) from rfl)
  obtain ⟨m1, hm1e⟩ : ∃ m, m = many 45 L := ⟨_, rfl⟩
  obtain ⟨m2, hm2e⟩ : ∃ m, m = many 43 L := ⟨_, rfl⟩
  rw [← hm1e] at HC5 HR
  rw [← hm2e] at HC3 HR
  have HC5 := hide (show ∀ w', Below w.heap.size w w' → Calls Try.prog 32 #[.slice A N c, .int .u8 45] w' fun y w'' => y = .returned (.int .i64 (m1 : Int)) ∧ w'' = w' from HC5.out)
  have HC3 := hide (show ∀ w', Below w.heap.size w w' → Calls Try.prog 32 #[.slice A N c, .int .u8 43] w' fun y w'' => y = .returned (.int .i64 (m2 : Int)) ∧ w'' = w' from HC3.out)
  clear hs hN hm1e hm2e
  go_enter Try.func25, Try.ntmps25
  go_wp2
  obtain ⟨w1, hw1⟩ : ∃ w1, w1 = w.alloc (.cells #[.int .i64 ha, .int .i64 han, .int .i64 hb, .int .i64 hbn, .slice A N c] tH) := ⟨_, rfl⟩
  have hb1 : Below w.heap.size w w1 := by rw [hw1]; exact (Below.refl _ w).alloc (Nat.le_refl _) _
  have hrow : Row w1 w.heap.size tH [.int .i64 ha, .int .i64 han, .int .i64 hb, .int .i64 hbn, .slice A N c] := by rw [hw1]; exact Row.fresh w tH _
  rw [← hw1]
  have Hb1 := hide hb1
  have c0 := hrow.cell 0
  have c1 := hrow.cell 1
  have c2 := hrow.cell 2
  have c3 := hrow.cell 3
  have c4 := hrow.cell 4
  simp only [List.getElem?_cons_zero, List.getElem?_cons_succ] at c0 c1 c2 c3 c4
  clear hw1 hb1 hrow
  go_loopw [3] (fun i wr => ∃ k : Nat, k ≤ N ∧ i = .int .i64 k ∧ (∀ j, j < k → L.getD j [] ≠ []) ∧ okF false L = okF (ahead L k) (L.drop k) ∧ wr = w1) (fun i _ => N - (intOf i).toNat)
  case atStart => exact ⟨0, Nat.zero_le _, rfl, (fun j h => absurd h (Nat.not_lt_zero _)), rfl, rfl⟩
  case round =>
    obtain ⟨k, hk, rfl, hall, hok, rfl⟩ := hrel
    have Hok := hide hok
    have Hall := hide hall
    clear hok hall
    by_cases hlt : k < N
    · obtain ⟨b, o, hA, ck⟩ := Hs.out.text Hb1.out (k := k) (by have := HN.out; omega)
      subst hA
      have Hd := hide (okF_drop (ahead L k) L k (by have := HN.out; omega))
      have Hah := hide (show ahead L (k + 1) = decide (sg (L.getD k []) = 43) by unfold ahead; simp)
      obtain ⟨x, hxe⟩ : ∃ x, x = L.getD k [] := ⟨_, rfl⟩
      rw [← hxe] at ck Hd Hah
      by_cases hx : x = []
      · subst hx
        have Hno := hide (show hright ⟨ha, han, hb, hbn, L⟩ = false by rw [HR.out, Hok.out, Hd.out]; rfl)
        clear Hd Hok hxe Hah
        go_wp2
        go_ret
        exact ⟨by rw [Hno.out]; rfl, Hb1.out⟩
      have hl : 0 < x.length := List.length_pos_iff.2 hx
      have hsz := size_of x
      have hg := get_at x 0 (by rw [hsz]; exact hl)
      rw [sg_get] at hg
      have hlz : ((x.length : Int) == 0) = false := by rw [beq_eq_false_iff_ne]; omega
      have Hall' := hide (show ∀ j, j < k + 1 → L.getD j [] ≠ [] from fun j hj => by
        rcases Nat.lt_or_ge j k with h | h
        · exact Hall.out j h
        · obtain rfl : j = k := by omega
          rw [← hxe]; exact hx)
      obtain ⟨s, hse⟩ : ∃ s, s = sg x := ⟨_, rfl⟩
      rw [← hse] at hg Hd Hah
      clear hse hxe hx
      by_cases h45 : s = 45
      · subst h45
        by_cases hk0 : k = 0
        · subst hk0
          rw [Nat.add_zero] at ck
          have Hnx := hide (show okF false L = okF (ahead L (0 + 1)) (L.drop (0 + 1)) by rw [Hok.out, Hd.out, Hah.out]; rfl)
          clear Hd Hok Hah
          go_wp2
          exact ⟨⟨0 + 1, by omega, by go_num, Hall'.out, Hnx.out, trivial⟩, by simp [intOf]; omega⟩
        · obtain ⟨j, rfl⟩ : ∃ j, k = j + 1 := ⟨k - 1, by omega⟩
          obtain ⟨b', o', hA, cj⟩ := Hs.out.text Hb1.out (k := j) (by have := HN.out; omega)
          simp only [Option.some.injEq, Addr.mk.injEq, and_true] at hA
          obtain ⟨rfl, rfl⟩ := hA
          have hy := Hall.out j (by omega)
          have Haj := hide (show ahead L (j + 1) = decide (sg (L.getD j []) = 43) by unfold ahead; simp)
          generalize L.getD j [] = y at cj hy Haj
          have hly : 0 < y.length := List.length_pos_iff.2 hy
          have hszy := size_of y
          have hgy := get_at y 0 (by rw [hszy]; exact hly)
          rw [sg_get] at hgy
          obtain ⟨m, hm⟩ : ∃ m, m = j + 1 := ⟨_, rfl⟩
          rw [← hm] at ck hk hlt Hok Hd Hah Haj Hall' ⊢
          have hw2 : IntKind.i64.wrap ((m : Int) - 1) = (j : Int) := by rw [IntWalk.i64_in _ (by omega)]; omega
          have hjN : j < N := by omega
          have hm0 : 0 < m := by omega
          have hdm : decide (0 < m) = true := decide_eq_true hm0
          obtain ⟨t, hte⟩ : ∃ t, t = sg y := ⟨_, rfl⟩
          rw [← hte] at hgy Haj
          clear hte hy hm
          by_cases h43 : t = 43
          · subst h43
            have Hno := hide (show hright ⟨ha, han, hb, hbn, L⟩ = false by rw [HR.out, Hok.out, Hd.out, Haj.out]; rfl)
            clear Hd Hok Hah Haj
            go_wp2
            go_ret
            exact ⟨by rw [Hno.out]; rfl, Hb1.out⟩
          · have e43 : ((t.toNat : Int) == 43) = false := u8_ne h43
            have Hnx := hide (show okF false L = okF (ahead L (m + 1)) (L.drop (m + 1)) by rw [Hok.out, Hd.out, Hah.out, Haj.out, decide_eq_false h43]; rfl)
            clear Hd Hok Hah Haj h43
            go_wp2
            exact ⟨⟨m + 1, by omega, by go_num, Hall'.out, Hnx.out, trivial⟩, by simp [intOf]; omega⟩
      · have e45 : ((s.toNat : Int) == 45) = false := u8_ne h45
        have n45 : ((s.toNat : Int) != 45) = true := by rw [bne, e45]; rfl
        by_cases hno : s = 32 ∨ s = 43
        · have Hnx := hide (show okF false L = okF (ahead L (k + 1)) (L.drop (k + 1)) by
            rw [Hok.out, Hd.out, Hah.out, decide_eq_true (show s = 32 ∨ s = 45 ∨ s = 43 by rcases hno with h | h; exact .inl h; exact .inr (.inr h)), decide_eq_false h45]; rfl)
          clear Hd Hok Hah h45
          rcases hno with rfl | rfl
          · go_wp2
            all_goals exact ⟨⟨k + 1, by omega, by go_num, Hall'.out, Hnx.out, trivial⟩, by simp [intOf]; omega⟩
          · go_wp2
            all_goals exact ⟨⟨k + 1, by omega, by go_num, Hall'.out, Hnx.out, trivial⟩, by simp [intOf]; omega⟩
        · have h32 : ¬ s = 32 := fun h => hno (.inl h)
          have h43 : ¬ s = 43 := fun h => hno (.inr h)
          have e32 : ((s.toNat : Int) == 32) = false := u8_ne h32
          have e43 : ((s.toNat : Int) == 43) = false := u8_ne h43
          have n32 : ((s.toNat : Int) != 32) = true := by rw [bne, e32]; rfl
          have n43 : ((s.toNat : Int) != 43) = true := by rw [bne, e43]; rfl
          have Hno := hide (show hright ⟨ha, han, hb, hbn, L⟩ = false by
            rw [HR.out, Hok.out, Hd.out, decide_eq_false (show ¬ (s = 32 ∨ s = 45 ∨ s = 43) by rintro (h | h | h); exact h32 h; exact h45 h; exact h43 h)]; rfl)
          clear Hd Hok Hah h45 hno h32 h43
          go_wp2
          go_ret
          exact ⟨by rw [Hno.out]; rfl, Hb1.out⟩
    · obtain rfl : k = N := by omega
      have HR2 := hide (show hright ⟨ha, han, hb, hbn, L⟩ = (((decide (0 ≤ ha) && decide (0 ≤ hb)) && decide (han = m1)) && decide (hbn = m2)) by
        rw [HR.out, Hok.out, HN.out, List.drop_length]; rfl)
      clear Hok HR
      have f1 : ∀ z m : Int, z ≠ m → (z == m) = false := fun z m h => beq_eq_false_iff_ne.2 h
      by_cases g1 : 0 ≤ ha
      · have e1 : decide (0 ≤ ha) = true := decide_eq_true g1
        by_cases g2 : 0 ≤ hb
        · have e2 : decide (0 ≤ hb) = true := decide_eq_true g2
          by_cases g3 : han = (m1 : Int)
          · by_cases g4 : hbn = (m2 : Int)
            · have Hy := hide (show hright ⟨ha, han, hb, hbn, L⟩ = true by rw [HR2.out, e1, e2, decide_eq_true g3, decide_eq_true g4]; rfl)
              subst g3 g4
              clear HR2
              go_wp2_with fail
              go_quiet (first | with_reducible exact Calls.quiet_of_same (HC5.out _ (below_drewN Hb1.out _)) | with_reducible exact Calls.quiet_of_same (HC3.out _ (below_drewN Hb1.out _)))
              go_wp2
              go_ret
              exact ⟨by rw [Hy.out]; rfl, below_drewN Hb1.out _⟩
            · have Hy := hide (show hright ⟨ha, han, hb, hbn, L⟩ = false by rw [HR2.out, decide_eq_false g4]; simp)
              have e4 := f1 _ _ g4
              subst g3
              clear g4 HR2
              go_wp2_with fail
              go_quiet (first | with_reducible exact Calls.quiet_of_same (HC5.out _ (below_drewN Hb1.out _)) | with_reducible exact Calls.quiet_of_same (HC3.out _ (below_drewN Hb1.out _)))
              go_wp2
              go_ret
              exact ⟨by rw [Hy.out]; rfl, below_drewN Hb1.out _⟩
          · have Hy := hide (show hright ⟨ha, han, hb, hbn, L⟩ = false by rw [HR2.out, decide_eq_false g3]; simp)
            have e3 := f1 _ _ g3
            clear g3 HR2
            go_wp2_with fail
            go_quiet (first | with_reducible exact Calls.quiet_of_same (HC5.out _ (below_drewN Hb1.out _)) | with_reducible exact Calls.quiet_of_same (HC3.out _ (below_drewN Hb1.out _)))
            go_wp2
            go_ret
            exact ⟨by rw [Hy.out]; rfl, below_drewN Hb1.out _⟩
        · have e2 : decide (0 ≤ hb) = false := decide_eq_false g2
          have Hy := hide (show hright ⟨ha, han, hb, hbn, L⟩ = false by rw [HR2.out, e2]; simp)
          clear HR2
          go_wp2_with fail
          go_quiet (fail)
          go_wp2
          go_ret
          exact ⟨by rw [Hy.out]; rfl, below_drewN Hb1.out _⟩
      · have e1 : decide (0 ≤ ha) = false := decide_eq_false g1
        have Hy := hide (show hright ⟨ha, han, hb, hbn, L⟩ = false by rw [HR2.out, e1]; simp)
        clear HR2
        go_wp2_with fail
        go_quiet (fail)
        go_wp2
        go_ret
        exact ⟨by rw [Hy.out]; rfl, below_drewN Hb1.out _⟩
end Go.Proofs.Ytfmmececocilhaa.Hu
