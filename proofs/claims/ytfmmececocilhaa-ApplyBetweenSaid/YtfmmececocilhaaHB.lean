/-
  hunk.sign, end, count, front, bare; the reference's Many.
-/
import Derived.Test.YtfmmececocilhaaEF
import Derived.Test.YtfmmececocilhaaPA
import Derived.Test.YtfmmececocilhaaET
namespace Go.Proofs.Ytfmmececocilhaa.Hu
open Go Go.RowKit Kt Lw Li Df

theorem size_of (l : List UInt8) : (ByteArray.mk l.toArray).size = l.length := rfl
theorem get_at (l : List UInt8) (k : Nat) (h : k < (ByteArray.mk l.toArray).size) : (ByteArray.mk l.toArray)[k] = l.getD k 0 := by
  have h' : k < l.length := h
  have : (ByteArray.mk l.toArray)[k] = l[k]'h' := rfl
  rw [this]
  simp [List.getElem?_eq_getElem h']
theorem sg_get (x : List UInt8) : x.getD 0 0 = sg x := by cases x <;> rfl
set_option maxHeartbeats 400000 in
theorem sign_any (x : List UInt8) (w : World) : Calls Try.prog 38 #[.string ⟨x.toArray⟩] w fun y w' => y = .returned (.int .u8 ((sg x).toNat : Int)) ∧ w' = w := by
  by_cases h : x = []
  · subst h
    go_enter Try.func38, Try.ntmps38
    go_wp2
    go_ret
    exact ⟨rfl, rfl⟩
  · have he : x.isEmpty = false := by cases x with | nil => exact absurd rfl h | cons _ _ => rfl
    have hl : 0 < x.length := List.length_pos_iff.2 h
    have hs := size_of x
    have hg := get_at x 0 (by rw [hs]; exact hl)
    rw [sg_get] at hg
    generalize sg x = s at *
    go_enter Try.func38, Try.ntmps38
    go_wp2
    go_ret
    exact ⟨rfl, rfl⟩
set_option maxHeartbeats 400000 in
theorem end_any (p d : Int) (v : Value) (w : World) (h : -4503599627370496 ≤ p ∧ p ≤ 4503599627370496) (h' : -4503599627370496 ≤ d ∧ d ≤ 4503599627370496) :
    Calls Try.prog 55 #[.agg #[.int .i64 p, .int .i64 d, v]] w fun y w' => y = .returned (.int .i64 (p + d)) ∧ Below w.heap.size w w' := by
  have hw : IntKind.i64.wrap (p + d) = p + d := IntWalk.i64_in _ (by omega)
  go_enter Try.func55, Try.ntmps55
  go_wp2
  go_ret
  exact ⟨rfl, (Below.refl _ w).alloc (Nat.le_refl _) _⟩

theorem u8_ne {b c : UInt8} (h : b ≠ c) : ((b.toNat : Int) == (c.toNat : Int)) = false := by
  rw [beq_eq_false_iff_ne]
  intro e
  exact h (UInt8.toNat_inj.1 (by omega))
theorem many_leN (s : UInt8) (L : Ls) (k : Nat) : many s (L.take k) ≤ k := Nat.le_trans (many_le s _) (List.length_take_le _ _)
set_option maxHeartbeats 1000000 in
set_option maxRecDepth 100000 in
theorem count_any (L : Ls) (A : Option Addr) (c : Nat) (P : Nat → Prop) (w : World) (hs : Vs w P A c (texts L)) (hn : L.length ≤ 1000000) :
    Calls Try.prog 40 #[.slice A L.length c] w fun y w' => y = .returned (.tuple #[.int .i64 (many 45 L : Int), .int .i64 (many 43 L : Int)]) ∧ Below w.heap.size w w' := by
  have Hs := hide hs.bound
  obtain ⟨N, hN⟩ : ∃ N, N = L.length := ⟨_, rfl⟩
  rw [← hN] at hn ⊢
  have HN := hide hN
  clear hs hN
  go_enter Try.func40, Try.ntmps40
  go_wp2
  go_loopw [2, 3, 8] (fun o f i wr => ∃ k : Nat, k ≤ N ∧ i = .int .i64 k ∧ o = .int .i64 (many 45 (L.take k) : Int) ∧ f = .int .i64 (many 43 (L.take k) : Int) ∧ Below w.heap.size w wr) (fun _ _ i _ => N - (intOf i).toNat)
  case atStart => exact ⟨0, Nat.zero_le _, rfl, by simp [many], by simp [many], Below.refl _ _⟩
  case round =>
    obtain ⟨k, hk, rfl, rfl, rfl, hb⟩ := hrel
    have Hb := hide hb
    clear hb
    by_cases hlt : k < N
    · obtain ⟨b, o, rfl, ck⟩ := Hs.out.text Hb.out (k := k) (by have := HN.out; omega)
      have H1 := hide (many_snoc 45 L k (by have := HN.out; omega))
      have H2 := hide (many_snoc 43 L k (by have := HN.out; omega))
      have h1 := many_leN 45 L k
      have h2 := many_leN 43 L k
      generalize many 45 (L.take k) = p at *
      generalize many 43 (L.take k) = q at *
      generalize L.getD k [] = x at *
      have HS := hide (sign_any x)
      by_cases h45 : sg x = 45
      · rw [h45] at HS H1 H2
        have H1' := hide (show many 45 (L.take (k + 1)) = p + 1 from H1.out)
        have H2' := hide (show many 43 (L.take (k + 1)) = q from H2.out)
        clear H1 H2 h45
        go_wp2_with fail
        refine (HS.out _).mono ?_
        rintro y w1 ⟨rfl, rfl⟩
        go_wp2
        exact ⟨⟨k + 1, by omega, by go_num, by rw [H1'.out]; go_num, by rw [H2'.out], Hb.out⟩, by simp [intOf]; omega⟩
      by_cases h32 : sg x = 32
      · rw [h32] at HS H1 H2
        have H1' := hide (show many 45 (L.take (k + 1)) = p + 1 from H1.out)
        have H2' := hide (show many 43 (L.take (k + 1)) = q + 1 from H2.out)
        clear H1 H2 h45 h32
        go_wp2_with fail
        refine (HS.out _).mono ?_
        rintro y w1 ⟨rfl, rfl⟩
        go_wp2
        exact ⟨⟨k + 1, by omega, by go_num, by rw [H1'.out]; go_num, by rw [H2'.out]; go_num, Hb.out⟩, by simp [intOf]; omega⟩
      by_cases h43 : sg x = 43
      · rw [h43] at HS H1 H2
        have H1' := hide (show many 45 (L.take (k + 1)) = p from H1.out)
        have H2' := hide (show many 43 (L.take (k + 1)) = q + 1 from H2.out)
        clear H1 H2 h45 h32 h43
        go_wp2_with fail
        refine (HS.out _).mono ?_
        rintro y w1 ⟨rfl, rfl⟩
        go_wp2
        exact ⟨⟨k + 1, by omega, by go_num, by rw [H1'.out], by rw [H2'.out]; go_num, Hb.out⟩, by simp [intOf]; omega⟩
      have H1' := hide (show many 45 (L.take (k + 1)) = p by rw [H1.out, if_neg (by rintro (h | h); exact h32 h; exact h45 h)]; rfl)
      have H2' := hide (show many 43 (L.take (k + 1)) = q by rw [H2.out, if_neg (by rintro (h | h); exact h32 h; exact h43 h)]; rfl)
      have e1 : (((sg x).toNat : Int) == 45) = false := u8_ne h45
      have e2 : (((sg x).toNat : Int) == 32) = false := u8_ne h32
      have e3 : (((sg x).toNat : Int) == 43) = false := u8_ne h43
      clear H1 H2 h45 h32 h43
      generalize ((sg x).toNat : Int) = n at *
      go_wp2_with fail
      refine (HS.out _).mono ?_
      rintro y w1 ⟨rfl, rfl⟩
      go_wp2
      exact ⟨⟨k + 1, by omega, by go_num, by rw [H1'.out], by rw [H2'.out], Hb.out⟩, by simp [intOf]; omega⟩
    · obtain rfl : k = N := by omega
      go_wp2
      go_ret2
      exact ⟨by rw [HN.out, List.take_length]; rfl, Hb.out⟩
end Go.Proofs.Ytfmmececocilhaa.Hu
