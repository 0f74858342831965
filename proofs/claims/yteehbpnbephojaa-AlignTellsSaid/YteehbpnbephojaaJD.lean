/-
  slices.Equal at texts; a cluster's own functions in memory.
-/
import Derived.BigQuiet
import Derived.Test.YteehbpnbephojaaQ1
import Derived.Test.YteehbpnbephojaaEC
import Derived.Test.YteehbpnbephojaaED
import Derived.Test.YteehbpnbephojaaEF
import Derived.Test.YteehbpnbephojaaQ2
namespace Go.Proofs.Yteehbpnbephojaa.Al
open Go Go.RowKit Kt Lw Li Df
attribute [local irreducible] ByteArray.toList

set_option maxHeartbeats 1000000 in
set_option maxRecDepth 100000 in
theorem equal_any (l r : List (List UInt8)) (A A' : Option Addr) (c c' : Nat) (P P' : Nat → Prop) (w : World) (hs : Vs w P A c (texts l)) (hs' : Vs w P' A' c' (texts r)) (hl : l.length ≤ 9223372036854775807) :
    Calls Try.prog 38 #[.slice A l.length c, .slice A' r.length c'] w fun y w' => y = .returned (.bool (decide (l = r))) ∧ Below w.heap.size w w' := by
  by_cases hlen : l.length = r.length
  · have Hs := hide hs.bound
    have Hs' := hide hs'.bound
    clear hs hs'
    have hb0 : ((l.length : Int) != (r.length : Int)) = false := by rw [bne_eq_false_iff_eq]; omega
    have Hlen := hide hlen
    obtain ⟨N, hN⟩ : ∃ N, N = l.length := ⟨_, rfl⟩
    obtain ⟨N', hN'⟩ : ∃ N', N' = r.length := ⟨_, rfl⟩
    rw [← hN, ← hN'] at hb0 ⊢
    have HN := hide hN
    have HN' := hide hN'
    have hNl : N ≤ 9223372036854775807 := by omega
    have hNN : N = N' := by omega
    have HNN := hide hNN
    clear hN hN' hl hlen hNN
    go_enter Try.func38, Try.ntmps38
    go_wp2
    go_loopw [13] (fun i wr => ∃ k : Nat, k ≤ N ∧ i = .int .i64 k ∧ (∀ j, j < k → l.getD j [] = r.getD j []) ∧ Below w.heap.size w wr) (fun i _ => N - (intOf i).toNat)
    case atStart => exact ⟨0, Nat.zero_le _, rfl, fun j h => absurd h (Nat.not_lt_zero _), Below.refl _ _⟩
    case round =>
      obtain ⟨k, hk, rfl, hall, hb⟩ := hrel
      have Hall := hide hall
      have Hb := hide hb
      clear hall hb
      by_cases hlt : k < N
      · obtain ⟨b, o, rfl, ck⟩ := Hs.out.text Hb.out (k := k) (by have := HN.out; omega)
        obtain ⟨b', o', rfl, ck'⟩ := Hs'.out.text Hb.out (k := k) (by have := HN'.out; have := HNN.out; omega)
        have hlt' : k < N' := by have := HNN.out; omega
        by_cases hx : l.getD k [] = r.getD k []
        · have Hx := hide hx
          rw [hx] at ck
          clear hx
          generalize (r.getD k []).toArray = x at *
          go_wp2
          go_quiet (fail)
          go_wp2
          refine ⟨⟨k + 1, by omega, by go_num, fun j hj => ?_, below_drewN Hb.out _⟩, by simp [intOf]; omega⟩
          rcases Nat.lt_or_ge j k with hj' | hj'
          · exact Hall.out j hj'
          · obtain rfl : j = k := by omega
            exact Hx.out
        · have hxn := eq_txt (l.getD k []) (r.getD k [])
          rw [decide_eq_false hx] at hxn
          have Hx := hide hx
          clear hx
          generalize (r.getD k []).toArray = x at *
          generalize (l.getD k []).toArray = y at *
          go_wp2
          go_quiet (fail)
          go_wp2
          go_ret
          refine ⟨?_, below_drewN Hb.out _⟩
          have hd : decide (l = r) = false := decide_eq_false fun h => Hx.out (by rw [h])
          rw [hd]; rfl
      · obtain rfl : k = N := by omega
        go_wp2
        go_ret
        refine ⟨?_, Hb.out⟩
        have hd : decide (l = r) = true := decide_eq_true (texts_same l r Hlen.out fun j hj => Hall.out j (by have := HN.out; omega))
        rw [hd]; rfl
  · have hb0 : ((l.length : Int) != (r.length : Int)) = true := by rw [bne_iff_ne]; omega
    have Hd := hide (show decide (l = r) = false from decide_eq_false fun h => hlen (by rw [h]))
    clear hs hs' hlen
    go_enter Try.func38, Try.ntmps38
    go_wp2
    go_ret
    exact ⟨by rw [Hd.out]; rfl, Below.refl _ _⟩


abbrev tC : TypeId := 46
abbrev tL : TypeId := 41
abbrev tPs : TypeId := 37
def clC (c : Cl) : List Value := [.int .i64 c.fr, .int .i64 c.to, .int .i64 c.n0, .int .i64 c.m0, .int .i64 c.n1, .int .i64 c.m1]
def sideV (s : Bool) : Value := .int .i64 (if s then 1 else 0)
set_option maxRecDepth 100000 in
theorem none_any (g : Nat) (n0 n1 : Int) (w : World) (c2 : w.cell? ⟨g, 2, none⟩ = some (.int .i64 n0)) (c4 : w.cell? ⟨g, 4, none⟩ = some (.int .i64 n1)) :
    Calls Try.prog 32 #[.pointer (some ⟨g, 0, none⟩)] w fun y w' => y = .returned (.bool (decide (n0 = 0 ∧ n1 = 0))) ∧ w' = w := by
  by_cases h0 : n0 = 0
  · subst h0
    go_enter Try.func32, Try.ntmps32
    go_wp2
    go_ret
    exact ⟨by by_cases h : n1 = 0 <;> simp [h], rfl⟩
  · have e0 : (n0 == 0) = false := by rw [beq_eq_false_iff_ne]; exact h0
    go_enter Try.func32, Try.ntmps32
    go_wp2
    go_ret
    exact ⟨by simp [h0], rfl⟩
set_option maxRecDepth 100000 in
set_option maxHeartbeats 1000000 in
theorem kind_any (g : Nat) (c : Cl) (p q : Ls) (A A' : Option Addr) (k k' : Nat) (P P' : Nat → Prop) (w : World) (hr : Row w g tC (clC c)) (hs : Vs w P A k (texts p)) (hs' : Vs w P' A' k' (texts q)) (hl : p.length ≤ 9223372036854775807) :
    Calls Try.prog 35 #[.pointer (some ⟨g, 0, none⟩), .slice A p.length k, .slice A' q.length k'] w fun y w' => y = .returned (.int .i64 (kindOf c p q)) ∧ Below w.heap.size w w' := by
  have c2 := hr.cell 2
  have c4 := hr.cell 4
  simp only [clC, List.getElem?_cons_zero, List.getElem?_cons_succ] at c2 c4
  have HN := hide (none_any g c.n0 c.n1 w c2 c4)
  have HE := hide (equal_any p q A A' k k' P P' w hs hs' hl)
  obtain ⟨n0, hn0⟩ : ∃ z, z = c.n0 := ⟨_, rfl⟩
  obtain ⟨n1, hn1⟩ : ∃ z, z = c.n1 := ⟨_, rfl⟩
  unfold kindOf
  rw [← hn0, ← hn1] at HN ⊢
  rw [← hn0] at c2
  rw [← hn1] at c4
  clear hn0 hn1 hr hs hs' hl
  by_cases k0 : n0 = 0
  · by_cases k1 : n1 = 0
    · rw [if_pos ⟨k0, k1⟩]
      rw [decide_eq_true (show n0 = 0 ∧ n1 = 0 from ⟨k0, k1⟩)] at HN
      clear k0 k1 c2 c4
      go_enter Try.func35, Try.ntmps35
      go_wp2_with fail
      refine HN.out.mono ?_
      rintro y w2 ⟨rfl, rfl⟩
      go_wp2
      go_ret
      exact ⟨rfl, Below.refl _ _⟩
    · rw [if_neg (fun h => k1 h.2), if_neg k1, if_pos k0]
      rw [decide_eq_false (show ¬ (n0 = 0 ∧ n1 = 0) from fun h => k1 h.2)] at HN
      have e1 : (n1 == 0) = false := by rw [beq_eq_false_iff_ne]; exact k1
      have e0 : (n0 == 0) = true := by rw [beq_iff_eq]; exact k0
      clear k0 k1
      go_enter Try.func35, Try.ntmps35
      go_wp2_with fail
      refine HN.out.mono ?_
      rintro y w2 ⟨rfl, rfl⟩
      go_wp2
      go_ret
      exact ⟨rfl, Below.refl _ _⟩
  · have e0 : (n0 == 0) = false := by rw [beq_eq_false_iff_ne]; exact k0
    rw [if_neg (fun h => k0 h.1)]
    rw [decide_eq_false (show ¬ (n0 = 0 ∧ n1 = 0) from fun h => k0 h.1)] at HN
    by_cases k1 : n1 = 0
    · rw [if_pos k1]
      have e1 : (n1 == 0) = true := by rw [beq_iff_eq]; exact k1
      clear k0 k1
      go_enter Try.func35, Try.ntmps35
      go_wp2_with fail
      refine HN.out.mono ?_
      rintro y w2 ⟨rfl, rfl⟩
      go_wp2
      go_ret
      exact ⟨rfl, Below.refl _ _⟩
    · rw [if_neg k1, if_neg k0]
      have e1 : (n1 == 0) = false := by rw [beq_eq_false_iff_ne]; exact k1
      clear k0 k1
      obtain ⟨np, hnp⟩ : ∃ z, z = p.length := ⟨_, rfl⟩
      obtain ⟨nq, hnq⟩ : ∃ z, z = q.length := ⟨_, rfl⟩
      rw [← hnp, ← hnq] at HE ⊢
      clear hnp hnq
      by_cases hpq : p = q
      · rw [if_pos hpq]
        rw [decide_eq_true hpq] at HE
        clear hpq
        go_enter Try.func35, Try.ntmps35
        go_wp2_with fail
        refine HN.out.mono ?_
        rintro y w2 ⟨rfl, rfl⟩
        go_wp2_with fail
        refine HE.out.mono ?_
        rintro y w3 ⟨rfl, hb⟩
        go_wp2
        go_ret
        exact ⟨rfl, hb⟩
      · rw [if_neg hpq]
        rw [decide_eq_false hpq] at HE
        clear hpq
        go_enter Try.func35, Try.ntmps35
        go_wp2_with fail
        refine HN.out.mono ?_
        rintro y w2 ⟨rfl, rfl⟩
        go_wp2_with fail
        refine HE.out.mono ?_
        rintro y w3 ⟨rfl, hb⟩
        go_wp2
        go_ret
        exact ⟨rfl, hb⟩
end Go.Proofs.Yteehbpnbephojaa.Al
