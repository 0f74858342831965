/-
  What the reference's Bytes comes to: whether two slices hold the same bytes.
-/
import Derived.Test.YtahcokfoifdlmaaWB
namespace Go.Proofs.Ytahcokfoifdlmaa.Wr
open Go Go.RowKit Kt

theorem same_of (l r : List UInt8) (hl : l.length = r.length) (h : ∀ j, j < l.length → l.getD j 0 = r.getD j 0) : l = r := by
  apply List.ext_getElem hl
  intro i h1 h2
  have := h i h1
  simpa [List.getElem?_eq_getElem h1, List.getElem?_eq_getElem h2] using this

set_option maxHeartbeats 1000000 in
set_option maxRecDepth 100000 in
theorem bytes_any (l r : List UInt8) (A A' : Option Addr) (c c' : Nat) (Pb Pb' : Nat → Prop) (w : World) (hs : Sl w Pb A c l) (hs' : Sl w Pb' A' c' r) (hl : l.length ≤ 9223372036854775807) :
    Calls Try.prog 16 #[.slice A l.length c, .slice A' r.length c'] w fun y w' => y = .returned (.bool (decide (l = r))) ∧ Below w.heap.size w w' := by
  by_cases hlen : l.length = r.length
  · have hlr : r.length ≤ 9223372036854775807 := by omega
    have Hs := hide hs.bound
    have Hs' := hide hs'.bound
    clear hs hs'
    have hb0 : ((l.length : Int) != (r.length : Int)) = false := by rw [bne_eq_false_iff_eq]; omega
    have Hlen := hide hlen
    obtain ⟨N, hN⟩ : ∃ N, N = l.length := ⟨_, rfl⟩
    obtain ⟨N', hN'⟩ : ∃ N', N' = r.length := ⟨_, rfl⟩
    rw [← hN, ← hN'] at hb0 ⊢
    have HN := hide hN
    have HN' := hide hN'
    have hNl : N ≤ 9223372036854775807 := by omega
    have hNN : N = N' := by omega
    have HNN := hide hNN
    clear hN hN' hl hlr hlen hNN
    go_enter Try.func16, Try.ntmps16
    go_wp2
    go_loopw [5] (fun i wr => ∃ k : Nat, k ≤ N ∧ i = .int .i64 k ∧ (∀ j, j < k → l.getD j 0 = r.getD j 0) ∧ Below w.heap.size w wr) (fun i _ => N - (intOf i).toNat)
    case atStart => exact ⟨0, Nat.zero_le _, rfl, fun j h => absurd h (Nat.not_lt_zero _), Below.refl _ _⟩
    case round =>
      obtain ⟨k, hk, rfl, hall, hb⟩ := hrel
      have Hall := hide hall
      have Hb := hide hb
      clear hall hb
      by_cases hlt : k < N
      · obtain ⟨b, o, rfl, hp, hc⟩ := Hs.out.2 (by have := HN.out; omega)
        obtain ⟨b', o', rfl, hp', hc'⟩ := Hs'.out.2 (by have := HN'.out; have := HNN.out; omega)
        have ck : wr.cell? ⟨b, o + k, none⟩ = some (.int .u8 ((l.getD k 0).toNat : Int)) := (World.cell?_of_block (a := ⟨b, o + k, none⟩) (Hb.out.block b hp.2)).trans (hc k (by have := HN.out; omega))
        have ck' : wr.cell? ⟨b', o' + k, none⟩ = some (.int .u8 ((r.getD k 0).toNat : Int)) := (World.cell?_of_block (a := ⟨b', o' + k, none⟩) (Hb.out.block b' hp'.2)).trans (hc' k (by have := HN'.out; have := HNN.out; omega))
        clear hc hc' hp hp'
        have hlt' : k < N' := by have := HNN.out; omega
        by_cases hx : l.getD k 0 = r.getD k 0
        · have Hx := hide hx
          rw [hx] at ck
          clear hx
          generalize (r.getD k 0).toNat = x at *
          go_wp2
          go_quiet (fail)
          go_wp2
          refine ⟨⟨k + 1, by omega, by go_num, fun j hj => ?_, below_drewN Hb.out _⟩, by simp [intOf]; omega⟩
          rcases Nat.lt_or_ge j k with hj' | hj'
          · exact Hall.out j hj'
          · obtain rfl : j = k := by omega
            exact Hx.out
        · have hxn : (((l.getD k 0).toNat : Int) != ((r.getD k 0).toNat : Int)) = true := by
            rw [bne_iff_ne]
            intro he
            exact hx (UInt8.toNat_inj.1 (by omega))
          have Hx := hide hx
          clear hx
          generalize (r.getD k 0).toNat = x at *
          generalize (l.getD k 0).toNat = y at *
          go_wp2
          go_quiet (fail)
          go_wp2
          go_ret
          refine ⟨?_, below_drewN Hb.out _⟩
          have hd : decide (l = r) = false := decide_eq_false fun h => Hx.out (by rw [h])
          rw [hd]; rfl
      · obtain rfl : k = N := by omega
        go_wp2
        go_ret
        refine ⟨?_, Hb.out⟩
        have hd : decide (l = r) = true := decide_eq_true (same_of l r Hlen.out fun j hj => Hall.out j (by have := HN.out; omega))
        rw [hd]; rfl
  · have hb0 : ((l.length : Int) != (r.length : Int)) = true := by rw [bne_iff_ne]; omega
    have Hd := hide (show decide (l = r) = false from decide_eq_false fun h => hlen (by rw [h]))
    clear hs hs' hlen
    go_enter Try.func16, Try.ntmps16
    go_wp2
    go_ret
    exact ⟨by rw [Hd.out]; rfl, Below.refl _ _⟩
end Go.Proofs.Ytahcokfoifdlmaa.Wr
