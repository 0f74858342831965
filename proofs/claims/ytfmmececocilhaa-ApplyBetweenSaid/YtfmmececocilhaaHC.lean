/-
  hunk.front, bare, add.
-/
import Derived.Test.YtfmmececocilhaaHB
import Derived.Test.YtfmmececocilhaaEV
namespace Go.Proofs.Ytfmmececocilhaa.Hu
open Go Go.RowKit Kt Lw Li Df

abbrev tw (s : UInt8) (L : Ls) : Ls := L.takeWhile (fun x => decide (sg x = s))
abbrev dw (s : UInt8) (L : Ls) : Ls := L.dropWhile (fun x => decide (sg x = s))
theorem tw_is (s : UInt8) : ∀ (L : Ls) (k : Nat), k ≤ L.length → (∀ j, j < k → sg (L.getD j []) = s) → (k < L.length → sg (L.getD k []) ≠ s) → tw s L = L.take k ∧ dw s L = L.drop k
  | [], k, hk, _, _ => by
    obtain rfl : k = 0 := by simpa using hk
    exact ⟨rfl, rfl⟩
  | x :: L, 0, _, _, h => by
    have := h (by simp)
    unfold tw dw
    rw [List.takeWhile_cons, List.dropWhile_cons, decide_eq_false (show ¬ sg x = s by simpa using this)]
    exact ⟨rfl, rfl⟩
  | x :: L, k + 1, hk, h1, h2 => by
    have h0 := h1 0 (by omega)
    obtain ⟨e1, e2⟩ := tw_is s L k (by simpa using hk) (fun j hj => by simpa using h1 (j + 1) (by omega)) (fun h => by simpa using h2 (by simpa using h))
    unfold tw dw at *
    rw [List.takeWhile_cons, List.dropWhile_cons, decide_eq_true (show sg x = s by simpa using h0), e1, e2]
    exact ⟨rfl, rfl⟩
theorem vs_take {w : World} {P : Nat → Prop} {A : Option Addr} {c : Nat} {l : Ls} (h : Vs w P A c (texts l)) (j : Nat) : Vs w P A c (texts (l.take j)) := by
  have h1 := h.1
  rw [texts_len] at h1
  refine ⟨by rw [texts_len, List.length_take]; omega, fun hn => ?_⟩
  rw [texts_len, List.length_take] at hn
  obtain ⟨b, o, rfl, hp, hc⟩ := h.2 (by rw [texts_len]; omega)
  refine ⟨b, o, rfl, hp, fun k v hk => hc k v ?_⟩
  have hkl := (List.getElem?_eq_some_iff.1 hk).1
  rw [texts_len, List.length_take] at hkl
  rw [← hk]
  unfold texts
  rw [List.getElem?_map, List.getElem?_map, List.getElem?_take, if_pos (by omega)]
theorem run_cut0 (w : World) (A : Option Addr) (n c j : Nat) (hA : ∀ a, A = some a → a.spot = none) (hj : j ≤ c) :
    (Instr.slice 22 (.slice A n c) none (some (.int .i64 (j : Int))) none).run Try.prog w = .ok (.slice A j c) w := by
  have hu := run_underlying Try.underlying22
  cases A with
  | none => go_simp
  | some ad =>
    obtain ⟨b, o, sp⟩ := ad
    obtain rfl : sp = none := hA _ rfl
    go_simp

set_option maxHeartbeats 1000000 in
set_option maxRecDepth 100000 in
theorem front_any (s : UInt8) (L : Ls) (A : Option Addr) (c : Nat) (P : Nat → Prop) (w0 w : World) (hs : Vs w0 P A c (texts L)) (hb0 : Below w0.heap.size w0 w) (hn : L.length ≤ 1000000) (hA : ∀ a, A = some a → a.spot = none) :
    Calls Try.prog 54 #[.slice A L.length c, .int .u8 (s.toNat : Int)] w fun y w' => ∃ A2 c2, y = .returned (.tuple #[.slice A (tw s L).length c, .slice A2 (dw s L).length c2]) ∧ Vs w0 P A c (texts (tw s L)) ∧ Vs w0 P A2 c2 (texts (dw s L)) ∧ (∀ a, A2 = some a → a.spot = none) ∧ Below w.heap.size w w' := by
  have Hs := hide (Lw.Vs.bound (Lw.Vs.below hs hb0))
  have HsP := hide hs
  have hcap := hs.1
  rw [texts_len] at hcap
  obtain ⟨N, hN⟩ : ∃ N, N = L.length := ⟨_, rfl⟩
  rw [← hN] at hn hcap ⊢
  have HN := hide hN
  have HA := hide hA
  clear hs hN hA hb0
  go_enter Try.func54, Try.ntmps54
  go_wp2
  go_loopw [6] (fun i wr => ∃ k : Nat, k ≤ N ∧ i = .int .i64 k ∧ (∀ j, j < k → sg (L.getD j []) = s) ∧ Below w.heap.size w wr) (fun i _ => N - (intOf i).toNat)
  case atStart => exact ⟨0, Nat.zero_le _, rfl, fun j h => absurd h (Nat.not_lt_zero _), Below.refl _ _⟩
  case round =>
    obtain ⟨k, hk, rfl, hall, hb⟩ := hrel
    have Hb := hide hb
    have Hall := hide hall
    clear hb hall
    by_cases hlt : k < N
    · obtain ⟨b, o, rfl, ck⟩ := Hs.out.text Hb.out (k := k) (by have := HN.out; omega)
      by_cases hx : sg (L.getD k []) = s
      · have Hx := hide hx
        have HS := hide (sign_any (L.getD k []))
        rw [hx] at HS
        generalize L.getD k [] = x at ck HS
        clear hx
        generalize (s.toNat : Int) = n at *
        go_wp2_with fail
        refine (HS.out _).mono ?_
        rintro y w1 ⟨rfl, rfl⟩
        go_wp2
        refine ⟨⟨k + 1, by omega, by go_num, fun j hj => ?_, Hb.out⟩, by simp [intOf]; omega⟩
        rcases Nat.lt_or_ge j k with hj' | hj'
        · exact Hall.out j hj'
        · obtain rfl : j = k := by omega
          exact Hx.out
      · have Hx := hide hx
        have hne := u8_ne hx
        have HS := hide (sign_any (L.getD k []))
        generalize L.getD k [] = x at ck HS hne
        generalize ((sg x).toNat : Int) = n at *
        generalize (s.toNat : Int) = m at *
        have htw := tw_is s L k (by have := HN.out; omega) Hall.out (fun _ => Hx.out)
        have Htw := hide htw
        have hlen : (tw s L).length = k := by rw [htw.1, List.length_take]; have := HN.out; omega
        have hlen2 : (dw s L).length = N - k := by rw [htw.2, List.length_drop, ← HN.out]
        have Hlen := hide hlen
        have Hlen2 := hide hlen2
        have hrun0 := fun w => run_cut0 w (some ⟨b, o, none⟩) N c k HA.out (by omega)
        have hrun1 := fun w => run_cut1 w (some ⟨b, o, none⟩) N c k (by omega)
        have Hc2 := hide (show Vs w0 P (some ⟨b, o + k, none⟩) (c - k) (texts (dw s L)) by
          have := vs_cut HsP.out (i := k) (j := L.length) (by have := HN.out; omega) (Nat.le_refl _)
          rw [if_neg (show ¬ c = k by omega), show (some (⟨b, o, none⟩ : Addr)).map (·.add k) = some ⟨b, o + k, none⟩ by simp [Addr.add_mid]] at this
          rw [htw.2]
          rwa [List.take_of_length_le (by rw [List.length_drop]; omega)] at this)
        have Hc1 := hide (show Vs w0 P (some ⟨b, o, none⟩) c (texts (tw s L)) by rw [htw.1]; exact vs_take HsP.out k)
        clear htw hlen hlen2 hx
        go_wp2_with fail
        refine (HS.out _).mono ?_
        rintro y w1 ⟨rfl, rfl⟩
        go_wp2
        go_quiet (fail)
        go_wp2
        go_ret2
        exact ⟨_, _, by rw [Hlen.out, Hlen2.out]; rfl, Hc1.out, Hc2.out, by simp, below_drewN Hb.out _⟩
    · obtain rfl : k = N := by omega
      have htw := tw_is s L k (by have := HN.out; omega) Hall.out (fun h => by have := HN.out; omega)
      have Htw := hide htw
      have hlen : (tw s L).length = k := by rw [htw.1, List.length_take]; have := HN.out; omega
      have hlen2 : (dw s L).length = k - k := by rw [htw.2, List.length_drop, ← HN.out]
      have Hlen := hide hlen
      have Hlen2 := hide hlen2
      have hrun0 := fun w => run_cut0 w A k c k HA.out (by omega)
      have hrun1 := fun w => run_cut1 w A k c k (by omega)
      have Hc2 := hide (show Vs w0 P (if c = k then A else A.map (·.add k)) (c - k) (texts (dw s L)) by
        have := vs_cut HsP.out (i := k) (j := L.length) (by have := HN.out; omega) (Nat.le_refl _)
        rw [htw.2]
        rwa [List.take_of_length_le (by rw [List.length_drop]; omega)] at this)
      have Hc1 := hide (show Vs w0 P A c (texts (tw s L)) by rw [htw.1]; exact vs_take HsP.out k)
      have HA2 := hide (show ∀ a, (if c = k then A else A.map (·.add k)) = some a → a.spot = none by
        intro a ha
        split at ha
        · exact HA.out a ha
        · cases A with
          | none => cases ha
          | some ad =>
            have hsp := HA.out ad rfl
            obtain ⟨b, o, sp⟩ := ad
            simp at hsp
            subst hsp
            simp [Addr.add_mid] at ha
            rw [← ha])
      obtain ⟨A2, hA2⟩ : ∃ A2, (if c = k then A else A.map (·.add k)) = A2 := ⟨_, rfl⟩
      obtain ⟨c2, hc2⟩ : ∃ c2, c - k = c2 := ⟨_, rfl⟩
      rw [hA2, hc2] at Hc2
      rw [hA2] at HA2
      simp only [hA2, hc2, Nat.sub_self] at hrun1
      rw [Nat.sub_self] at Hlen2
      clear htw hlen hlen2 hA2 hc2
      go_wp2
      go_quiet (fail)
      go_wp2
      go_ret2
      exact ⟨_, _, by rw [Hlen.out, Hlen2.out]; rfl, Hc1.out, Hc2.out, HA2.out, below_drewN Hb.out _⟩
end Go.Proofs.Ytfmmececocilhaa.Hu
