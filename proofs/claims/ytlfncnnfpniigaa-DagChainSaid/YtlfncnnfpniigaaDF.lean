/-
  Are ids one? Pointers, lists of ids, what stays: small pieces for graphs.
-/
import Derived.BigQuiet
import Derived.Test.YtlfncnnfpniigaaDA
import Derived.Test.YtlfncnnfpniigaaChecked
import Derived.Test.YtlfncnnfpniigaaKT
import Derived.Test.YtlfncnnfpniigaaKG
namespace Go.Proofs.Ytlfncnnfpniigaa.Dq
open Go Go.RowKit Kt Kg Lw

abbrev tId : TypeId := 23
abbrev tS : TypeId := 9
abbrev tIds : TypeId := 31
abbrev pt (g : Nat) : Value := .pointer (some ⟨g, 0, none⟩)
theorem vs_low {w : World} {P : Nat → Prop} {A : Option Addr} {c : Nat} {l : List (List UInt8)} (h : Vs w P A c (texts l)) : Vs w (fun b => b < w.heap.size) A c (texts l) := by
  refine ⟨h.1, fun h0 => ?_⟩
  obtain ⟨b, o, e, _, hc⟩ := h.2 h0
  refine ⟨b, o, e, ?_, hc⟩
  exact World.block_lt_of_cell? w _ (hc 0 _ (List.getElem?_eq_getElem h0))
theorem vs_text {w w' : World} {A : Option Addr} {c : Nat} {l : List (List UInt8)} (h : Vs w (fun b => b < w.heap.size) A c (texts l)) (hb : Below w.heap.size w w') {k : Nat} (hk : k < l.length) :
    ∃ b o, A = some ⟨b, o, none⟩ ∧ w'.cell? ⟨b, o + k, none⟩ = some (.string ⟨(l.getD k []).toArray⟩) := by
  obtain ⟨b, o, rfl, hp, hc⟩ := h.2 (by rw [texts_len]; omega)
  exact ⟨b, o, rfl, (World.cell?_of_block (a := ⟨b, o + k, none⟩) (hb.block b hp)).trans (hc k _ (texts_at l k hk))⟩
theorem texts_same (l r : List (List UInt8)) (hl : l.length = r.length) (h : ∀ j, j < l.length → l.getD j [] = r.getD j []) : l = r := by
  apply List.ext_getElem hl
  intro i h1 h2
  have := h i h1
  simpa [List.getElem?_eq_getElem h1, List.getElem?_eq_getElem h2] using this
theorem eq_txt2 (x y : List UInt8) : ((ByteArray.mk x.toArray).toList == (ByteArray.mk y.toArray).toList) = decide (x = y) := by
  rw [Lib.toList_data, Lib.toList_data, Bool.eq_iff_iff, beq_iff_eq, decide_eq_true_iff]
set_option maxHeartbeats 1000000 in
set_option maxRecDepth 100000 in
theorem ids_any (l r : List (List UInt8)) (A A' : Option Addr) (c c' : Nat) (P P' : Nat → Prop) (w : World) (hs : Vs w P A c (texts l)) (hs' : Vs w P' A' c' (texts r)) (hl : l.length ≤ 9223372036854775807) :
    Calls Try.prog 13 #[.slice A l.length c, .slice A' r.length c'] w fun y w' => y = .returned (.bool (decide (l = r))) ∧ Below w.heap.size w w' := by
  by_cases hlen : l.length = r.length
  · have Hs := hide (vs_low hs)
    have Hs' := hide (vs_low hs')
    clear hs hs'
    have hb0 : ((l.length : Int) != (r.length : Int)) = false := by rw [bne_eq_false_iff_eq]; omega
    have Hlen := hide hlen
    obtain ⟨N, hN⟩ : ∃ N, N = l.length := ⟨_, rfl⟩
    obtain ⟨N', hN'⟩ : ∃ N', N' = r.length := ⟨_, rfl⟩
    rw [← hN, ← hN'] at hb0 ⊢
    have HN := hide hN
    have HN' := hide hN'
    have hNl : N ≤ 9223372036854775807 := by omega
    have hNN : N = N' := by omega
    have HNN := hide hNN
    clear hN hN' hl hlen hNN
    go_enter Try.func13, Try.ntmps13
    go_wp2
    go_loopw [5] (fun i wr => ∃ k : Nat, k ≤ N ∧ i = .int .i64 k ∧ (∀ j, j < k → l.getD j [] = r.getD j []) ∧ Below w.heap.size w wr) (fun i _ => N - (intOf i).toNat)
    case atStart => exact ⟨0, Nat.zero_le _, rfl, fun j h => absurd h (Nat.not_lt_zero _), Below.refl _ _⟩
    case round =>
      obtain ⟨k, hk, rfl, hall, hb⟩ := hrel
      have Hall := hide hall
      have Hb := hide hb
      clear hall hb
      by_cases hlt : k < N
      · obtain ⟨b, o, rfl, ck⟩ := vs_text Hs.out Hb.out (k := k) (by have := HN.out; omega)
        obtain ⟨b', o', rfl, ck'⟩ := vs_text Hs'.out Hb.out (k := k) (by have := HN'.out; have := HNN.out; omega)
        have hlt' : k < N' := by have := HNN.out; omega
        by_cases hx : l.getD k [] = r.getD k []
        · have Hx := hide hx
          rw [hx] at ck
          clear hx
          generalize (r.getD k []).toArray = x at *
          go_wp2
          go_quiet (fail)
          go_wp2
          refine ⟨⟨k + 1, by omega, by go_num, fun j hj => ?_, below_drewN Hb.out _⟩, by simp [intOf]; omega⟩
          rcases Nat.lt_or_ge j k with hj' | hj'
          · exact Hall.out j hj'
          · obtain rfl : j = k := by omega
            exact Hx.out
        · have hxn := eq_txt2 (l.getD k []) (r.getD k [])
          rw [decide_eq_false hx] at hxn
          have Hx := hide hx
          clear hx
          generalize (r.getD k []).toArray = x at *
          generalize (l.getD k []).toArray = y at *
          go_wp2
          go_quiet (fail)
          go_wp2
          go_ret
          refine ⟨?_, below_drewN Hb.out _⟩
          have hd : decide (l = r) = false := decide_eq_false fun h => Hx.out (by rw [h])
          rw [hd]; rfl
      · obtain rfl : k = N := by omega
        go_wp2
        go_ret
        refine ⟨?_, Hb.out⟩
        have hd : decide (l = r) = true := decide_eq_true (texts_same l r Hlen.out fun j hj => Hall.out j (by have := HN.out; omega))
        rw [hd]; rfl
  · have hb0 : ((l.length : Int) != (r.length : Int)) = true := by rw [bne_iff_ne]; omega
    have Hd := hide (show decide (l = r) = false from decide_eq_false fun h => hlen (by rw [h]))
    clear hs hs' hlen
    go_enter Try.func13, Try.ntmps13
    go_wp2
    go_ret
    exact ⟨by rw [Hd.out]; rfl, Below.refl _ _⟩
theorem oth_low {S : Nat → Prop} {w0 a b : World} (h : Oth S a b) (hb : Below w0.heap.size w0 a) (hS : ∀ k, S k → w0.heap.size ≤ k) : Below w0.heap.size w0 b :=
  h.below hb hb.size fun k hk hs => by have := hS k hs; omega
theorem vs_move {w w' : World} {P : Nat → Prop} {A : Option Addr} {c : Nat} {vs : List Value} (h : Vs w P A c vs) (hk : ∀ b, P b → w'.heap[b]? = w.heap[b]?) : Vs w' P A c vs :=
  ⟨h.1, fun h0 => by
    obtain ⟨b, o, e, hp, hc⟩ := h.2 h0
    exact ⟨b, o, e, hp, fun j v hj => (World.cell?_of_block (a := ⟨b, o + j, none⟩) (hk b hp)).trans (hc j v hj)⟩⟩
theorem vs_imp {w : World} {P Q : Nat → Prop} {A : Option Addr} {c : Nat} {vs : List Value} (h : Vs w P A c vs) (hi : ∀ b, b < w.heap.size → P b → Q b) : Vs w Q A c vs :=
  ⟨h.1, fun h0 => by
    obtain ⟨b, o, e, hp, hc⟩ := h.2 h0
    refine ⟨b, o, e, hi b ?_ hp, hc⟩
    exact World.block_lt_of_cell? w _ (hc 0 _ (List.getElem?_eq_getElem h0))⟩
theorem vs_keep {w w' : World} {A : Option Addr} {c : Nat} {vs : List Value} (h : Vs w (fun b => b < w.heap.size) A c vs) (hb : Below w.heap.size w w') : Vs w' (fun b => b < w.heap.size) A c vs :=
  vs_move h fun b hp => hb.block b hp
theorem vs_at {w : World} {S : Nat → Prop} {A : Option Addr} {c : Nat} {l : List (List UInt8)} (h : Vs w S A c (texts l)) {k : Nat} {x : List UInt8} (hk : l[k]? = some x) : ∃ b o, A = some ⟨b, o, none⟩ ∧ S b ∧ w.cell? ⟨b, o + k, none⟩ = some (.string ⟨x.toArray⟩) := by
  have hlt := (List.getElem?_eq_some_iff.1 hk).1
  obtain ⟨b, o, e, hp, hc⟩ := h.2 (by rw [texts_len]; omega)
  refine ⟨b, o, e, hp, hc k _ ?_⟩
  rw [texts_at l k hlt]
  simp [List.getD_eq_getElem?_getD, hk]
theorem vs_drew {w : World} {P : Nat → Prop} {A : Option Addr} {c : Nat} {vs : List Value} (h : Vs w P A c vs) : Vs w.drew P A c vs := h
end Go.Proofs.Ytlfncnnfpniigaa.Dq
