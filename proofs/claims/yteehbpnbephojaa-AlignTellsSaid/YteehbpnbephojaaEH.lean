/-
  diff.alike, by the front's and the end's closure.
-/
import Derived.Test.YteehbpnbephojaaEG
namespace Go.Proofs.Yteehbpnbephojaa.Df
open Go Go.RowKit Kt Lw Li

/-- the cell of text i, here -/
theorem vs_at {w : World} {P : Nat → Prop} {A : Option Addr} {c : Nat} {l : Ls} (h : Vs w P A c (texts l)) {k : Nat} (hk : k < l.length) :
    ∃ b o, A = some ⟨b, o, none⟩ ∧ w.cell? ⟨b, o + k, none⟩ = some (.string ⟨(l.getD k []).toArray⟩) := by
  obtain ⟨b, o, rfl, hp, hc⟩ := h.2 (by rw [texts_len]; omega)
  exact ⟨b, o, rfl, hc k _ (texts_at l k hk)⟩
theorem beq_txt (x y : List UInt8) : (x == y) = decide (x = y) := by rw [Bool.eq_iff_iff, beq_iff_eq, decide_eq_true_iff]
set_option maxHeartbeats 400000 in
theorem same_front (a b : Ls) (A A' : Option Addr) (c c' i g g' : Nat) (P P' : Nat → Prop) (w : World) (h1 : w.cell? ⟨g, 0, none⟩ = some (.slice A a.length c)) (h2 : w.cell? ⟨g', 0, none⟩ = some (.slice A' b.length c'))
    (hs : Vs w P A c (texts a)) (hs' : Vs w P' A' c' (texts b)) (hi : i < a.length) (hi' : i < b.length) (_hla : a.length ≤ 1000000) (_hlb : b.length ≤ 1000000) :
    Calls Try.prog 27 #[.int .i64 (i : Int), .pointer (some ⟨g, 0, none⟩), .pointer (some ⟨g', 0, none⟩)] w fun y w' => y = .returned (.bool (frP a b i)) ∧ ∃ n, w' = w.drewN n := by
  obtain ⟨ba, oa, rfl, ca⟩ := vs_at hs hi
  obtain ⟨bb, ob, rfl, cb⟩ := vs_at hs' hi'
  have Hz := hide (beq_txt (a.getD i []) (b.getD i []))
  have Hf := hide (show frP a b i = decide (a.getD i [] = b.getD i []) from rfl)
  generalize decide (a.getD i [] = b.getD i []) = z at *
  generalize a.getD i [] = x at *
  generalize b.getD i [] = y at *
  obtain ⟨n, hn⟩ : ∃ n, n = a.length := ⟨_, rfl⟩
  obtain ⟨m, hm⟩ : ∃ m, m = b.length := ⟨_, rfl⟩
  rw [← hn] at h1 hi
  rw [← hm] at h2 hi'
  clear hn hm hs hs'
  go_enter Try.func27, Try.ntmps27
  go_wp2
  go_quiet (fail)
  go_wp2
  go_ret
  exact ⟨by rw [Hf.out, ← Hz.out]; rfl, _, rfl⟩
set_option maxHeartbeats 400000 in
theorem same_back (a b : Ls) (A A' : Option Addr) (c c' i g g' : Nat) (P P' : Nat → Prop) (w : World) (h1 : w.cell? ⟨g, 0, none⟩ = some (.slice A a.length c)) (h2 : w.cell? ⟨g', 0, none⟩ = some (.slice A' b.length c'))
    (hs : Vs w P A c (texts a)) (hs' : Vs w P' A' c' (texts b)) (hi : i < a.length) (hi' : i < b.length) (hla : a.length ≤ 1000000) (hlb : b.length ≤ 1000000) :
    Calls Try.prog 28 #[.int .i64 (i : Int), .pointer (some ⟨g, 0, none⟩), .pointer (some ⟨g', 0, none⟩)] w fun y w' => y = .returned (.bool (bkP a b i)) ∧ ∃ n, w' = w.drewN n := by
  obtain ⟨ba, oa, rfl, ca⟩ := vs_at hs (k := a.length - 1 - i) (by omega)
  obtain ⟨bb, ob, rfl, cb⟩ := vs_at hs' (k := b.length - 1 - i) (by omega)
  have Hz := hide (beq_txt (a.getD (a.length - 1 - i) []) (b.getD (b.length - 1 - i) []))
  have Hf := hide (show bkP a b i = decide (a.getD (a.length - 1 - i) [] = b.getD (b.length - 1 - i) []) from rfl)
  generalize decide (a.getD (a.length - 1 - i) [] = b.getD (b.length - 1 - i) []) = z at *
  generalize a.getD (a.length - 1 - i) [] = x at *
  generalize b.getD (b.length - 1 - i) [] = y at *
  obtain ⟨n, hn⟩ : ∃ n, n = a.length := ⟨_, rfl⟩
  obtain ⟨m, hm⟩ : ∃ m, m = b.length := ⟨_, rfl⟩
  rw [← hn] at h1 hi hla ca
  rw [← hm] at h2 hi' hlb cb
  obtain ⟨p, hp⟩ : ∃ p, p = n - 1 - i := ⟨_, rfl⟩
  obtain ⟨q, hq⟩ : ∃ q, q = m - 1 - i := ⟨_, rfl⟩
  rw [← hp] at ca
  rw [← hq] at cb
  have hw1 : IntKind.i64.wrap ((n : Int) - 1) = (n : Int) - 1 := IntWalk.i64_in _ (by omega)
  have hw2 : IntKind.i64.wrap ((m : Int) - 1) = (m : Int) - 1 := IntWalk.i64_in _ (by omega)
  have hw3 : IntKind.i64.wrap ((n : Int) - 1 - i) = (p : Int) := by rw [IntWalk.i64_in _ (by omega)]; omega
  have hw4 : IntKind.i64.wrap ((m : Int) - 1 - i) = (q : Int) := by rw [IntWalk.i64_in _ (by omega)]; omega
  have hp' : p < n := by omega
  have hq' : q < m := by omega
  clear hn hm hs hs' hp hq
  go_enter Try.func28, Try.ntmps28
  go_wp2
  go_quiet (fail)
  go_wp2
  go_ret
  exact ⟨by rw [Hf.out, ← Hz.out]; rfl, _, rfl⟩
set_option maxHeartbeats 400000 in
theorem alike_front (a b : Ls) (A A' : Option Addr) (c c' m g g' : Nat) (w : World) (h1 : w.cell? ⟨g, 0, none⟩ = some (.slice A a.length c)) (h2 : w.cell? ⟨g', 0, none⟩ = some (.slice A' b.length c'))
    (hs : Vs w (fun b => b < w.heap.size) A c (texts a)) (hs' : Vs w (fun b => b < w.heap.size) A' c' (texts b)) (hm : m ≤ a.length) (hm' : m ≤ b.length) (hla : a.length ≤ 1000000) (hlb : b.length ≤ 1000000) :
    Calls Try.prog 26 #[.int .i64 (m : Int), .func (.func 27) #[] #[.pointer (some ⟨g, 0, none⟩), .pointer (some ⟨g', 0, none⟩)]] w fun y w' => (∃ n : Nat, y = .returned (.int .i64 (n : Int)) ∧ IsRun (frP a b) m n) ∧ ∃ n, w' = w.drewN n := by
  have Hc := fun (i n : Nat) (h : i < m) => same_front a b A A' c c' i g g' _ _ (w.drewN n) h1 h2 hs hs' (by omega) (by omega) hla hlb
  have HC := hide Hc
  have hm6 : m ≤ 1000000 := by omega
  clear h1 h2 hs hs' hla hlb hm hm' Hc
  go_enter Try.func26, Try.ntmps26
  go_wp2
  go_loopw [5] (fun i wr => ∃ k n : Nat, k ≤ m ∧ i = .int .i64 k ∧ (∀ j, j < k → frP a b j = true) ∧ wr = w.drewN n) (fun i _ => m - (intOf i).toNat)
  case atStart => exact ⟨0, 0, Nat.zero_le _, rfl, fun j h => absurd h (Nat.not_lt_zero _), rfl⟩
  case round =>
    obtain ⟨k, n, hk, rfl, hall, rfl⟩ := hrel
    have Hall := hide hall
    clear hall
    by_cases hlt : k < m
    · have HCk := hide (HC.out k n hlt)
      cases hp : frP a b k with
      | true =>
        rw [hp] at HCk
        have Hp := hide hp
        clear hp
        go_wp2_with fail
        refine HCk.out.mono ?_
        rintro y w2 ⟨rfl, n2, rfl⟩
        go_wp2
        refine ⟨⟨k + 1, n + n2, by omega, by go_num, fun j hj => ?_, rfl⟩, by simp [intOf]; omega⟩
        rcases Nat.lt_or_ge j k with hl | hl
        · exact Hall.out j hl
        · obtain rfl : j = k := by omega
          exact Hp.out
      | false =>
        rw [hp] at HCk
        have Hp := hide hp
        clear hp
        go_wp2_with fail
        refine HCk.out.mono ?_
        rintro y w2 ⟨rfl, n2, rfl⟩
        go_wp2
        go_ret
        exact ⟨⟨k, rfl, ⟨hk, Hall.out, fun _ => Hp.out⟩⟩, n + n2, rfl⟩
    · obtain rfl : k = m := by omega
      go_wp2
      go_ret
      exact ⟨⟨k, rfl, ⟨hk, Hall.out, fun h => absurd h hlt⟩⟩, n, rfl⟩
set_option maxHeartbeats 400000 in
theorem alike_back (a b : Ls) (A A' : Option Addr) (c c' m g g' : Nat) (w : World) (h1 : w.cell? ⟨g, 0, none⟩ = some (.slice A a.length c)) (h2 : w.cell? ⟨g', 0, none⟩ = some (.slice A' b.length c'))
    (hs : Vs w (fun b => b < w.heap.size) A c (texts a)) (hs' : Vs w (fun b => b < w.heap.size) A' c' (texts b)) (hm : m ≤ a.length) (hm' : m ≤ b.length) (hla : a.length ≤ 1000000) (hlb : b.length ≤ 1000000) :
    Calls Try.prog 26 #[.int .i64 (m : Int), .func (.func 28) #[] #[.pointer (some ⟨g, 0, none⟩), .pointer (some ⟨g', 0, none⟩)]] w fun y w' => (∃ n : Nat, y = .returned (.int .i64 (n : Int)) ∧ IsRun (bkP a b) m n) ∧ ∃ n, w' = w.drewN n := by
  have Hc := fun (i n : Nat) (h : i < m) => same_back a b A A' c c' i g g' _ _ (w.drewN n) h1 h2 hs hs' (by omega) (by omega) hla hlb
  have HC := hide Hc
  have hm6 : m ≤ 1000000 := by omega
  clear h1 h2 hs hs' hla hlb hm hm' Hc
  go_enter Try.func26, Try.ntmps26
  go_wp2
  go_loopw [5] (fun i wr => ∃ k n : Nat, k ≤ m ∧ i = .int .i64 k ∧ (∀ j, j < k → bkP a b j = true) ∧ wr = w.drewN n) (fun i _ => m - (intOf i).toNat)
  case atStart => exact ⟨0, 0, Nat.zero_le _, rfl, fun j h => absurd h (Nat.not_lt_zero _), rfl⟩
  case round =>
    obtain ⟨k, n, hk, rfl, hall, rfl⟩ := hrel
    have Hall := hide hall
    clear hall
    by_cases hlt : k < m
    · have HCk := hide (HC.out k n hlt)
      cases hp : bkP a b k with
      | true =>
        rw [hp] at HCk
        have Hp := hide hp
        clear hp
        go_wp2_with fail
        refine HCk.out.mono ?_
        rintro y w2 ⟨rfl, n2, rfl⟩
        go_wp2
        refine ⟨⟨k + 1, n + n2, by omega, by go_num, fun j hj => ?_, rfl⟩, by simp [intOf]; omega⟩
        rcases Nat.lt_or_ge j k with hl | hl
        · exact Hall.out j hl
        · obtain rfl : j = k := by omega
          exact Hp.out
      | false =>
        rw [hp] at HCk
        have Hp := hide hp
        clear hp
        go_wp2_with fail
        refine HCk.out.mono ?_
        rintro y w2 ⟨rfl, n2, rfl⟩
        go_wp2
        go_ret
        exact ⟨⟨k, rfl, ⟨hk, Hall.out, fun _ => Hp.out⟩⟩, n + n2, rfl⟩
    · obtain rfl : k = m := by omega
      go_wp2
      go_ret
      exact ⟨⟨k, rfl, ⟨hk, Hall.out, fun h => absurd h hlt⟩⟩, n, rfl⟩
end Go.Proofs.Yteehbpnbephojaa.Df
