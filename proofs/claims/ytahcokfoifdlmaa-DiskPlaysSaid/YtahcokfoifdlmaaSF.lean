/-
  Operations on a disk: such that came in, and what one comes to; the example.
-/
import Derived.Test.YtahcokfoifdlmaaSE
import Derived.Test.YtahcokfoifdlmaaWK
import Derived.Test.YtahcokfoifdlmaaLaw
import Derived.Deep.Slices
import Derived.Deep.Fields
import Derived.Deep.Strs
namespace Go.Proofs.Ytahcokfoifdlmaa.Dk
open Go Go.RowKit Go.WideShapes Go.ChangeShapes Go.ChangeAt Go.ChangeMaps Go.Deep Kt Kg Wr Lw

abbrev tO : TypeId := 35
/-- an operation's cells -/
def opC (e : Op) (v : Value) : List Value := [.int .u8 (e.kind : Int), v, .int .i64 e.n]
/-- '.slice A n c' reads as these operations -/
def Ops (w : World) (A : Option Addr) (c : Nat) (L : List Op) : Prop :=
  L.length ≤ c ∧ (0 < L.length → ∃ b o, A = some ⟨b, o, none⟩ ∧ b < w.heap.size ∧ ∀ j e, L[j]? = some e →
    ∃ A' c', w.rangeAt b (o + 3 * j) (opC e (.slice A' e.b.length c')) ∧ Sl w (fun b => b < w.heap.size) A' c' e.b)
theorem Ops.keep {w w' : World} {A : Option Addr} {c : Nat} {L : List Op} (h : Ops w A c L) (hb : Below w.heap.size w w') : Ops w' A c L :=
  ⟨h.1, fun hn => by
    obtain ⟨b, o, rfl, hlt, he⟩ := h.2 hn
    refine ⟨b, o, rfl, Nat.lt_of_lt_of_le hlt hb.size, fun j e hj => ?_⟩
    obtain ⟨A', c', hr, hv⟩ := he j e hj
    exact ⟨A', c', fun i v hi => (World.cell?_of_block (a := ⟨b, o + 3 * j + i, none⟩) (hb.block b hlt)).trans (hr i v hi), (hv.move fun b hlt _ => hb.block b hlt).imp fun b _ hlt => Nat.lt_of_lt_of_le hlt hb.size⟩⟩
theorem Ops.nil (w : World) (A : Option Addr) (c : Nat) : Ops w A c [] := ⟨Nat.zero_le _, fun h => by simp at h⟩
theorem Ops.at {w w' : World} {A : Option Addr} {c : Nat} {L : List Op} (h : Ops w A c L) (hb : Below w.heap.size w w') {k : Nat} (hk : k < L.length) :
    ∃ b o e A' c', A = some ⟨b, o, none⟩ ∧ L[k]? = some e ∧ (w'.cell? ⟨b, o + k * 3, none⟩ = some (.int .u8 (e.kind : Int)) ∧ w'.cell? ⟨b, o + k * 3 + 1, none⟩ = some (.slice A' e.b.length c') ∧ w'.cell? ⟨b, o + k * 3 + 2, none⟩ = some (.int .i64 e.n)) ∧ Sl w' (fun b => b < w.heap.size) A' c' e.b := by
  obtain ⟨b, o, rfl, hlt, he⟩ := h.2 (by omega)
  obtain ⟨A', c', h1, h2⟩ := he k _ (List.getElem?_eq_getElem hk)
  rw [Nat.mul_comm] at h1
  have h3 : ∀ i v, (opC L[k] (.slice A' (L[k]).b.length c'))[i]? = some v → w'.cell? ⟨b, o + k * 3 + i, none⟩ = some v := fun i v hi => (World.cell?_of_block (a := ⟨b, o + k * 3 + i, none⟩) (hb.block b hlt)).trans (h1 i v hi)
  exact ⟨b, o, _, A', c', rfl, List.getElem?_eq_getElem hk, ⟨h3 0 _ rfl, h3 1 _ rfl, h3 2 _ rfl⟩, h2.move fun b hlt _ => hb.block b hlt⟩
abbrev opV (e : Op) (A' : Option Addr) (n c' : Nat) : Value := .agg #[.int .u8 (e.kind : Int), .slice A' n c', .int .i64 e.n]
set_option maxHeartbeats 1000000 in
set_option maxRecDepth 100000 in
theorem do_any {w : World} {S : Nat → Prop} {g : Nat} {s : St} (h : DkIn w S g s) (hf : s.fit) (e : Op) (A' : Option Addr) (c' : Nat) (Pb : Nat → Prop) (hs : Sl w Pb A' c' e.b) :
    Calls Try.prog 11 #[.pointer (some ⟨g, 0, none⟩), opV e A' e.b.length c'] w fun y w' => Does w S g (step s e) y w' := by
  obtain ⟨w1, hw⟩ : ∃ z, z = w.alloc (.cells #[.int .u8 (e.kind : Int), .slice A' e.b.length c', .int .i64 e.n] tO) := ⟨_, rfl⟩
  have hb : Below w.heap.size w w1 := by rw [hw]; exact (Below.refl _ w).alloc (Nat.le_refl _) _
  have h1 := h.below hb
  have hrb : Row w1 w.heap.size tO [.int .u8 (e.kind : Int), .slice A' e.b.length c', .int .i64 e.n] := by rw [hw]; exact Row.fresh w tO _
  have hs1 : Sl w1 (fun b => Pb b ∧ b < w.heap.size) A' c' e.b := hs.bound.move fun b hb' _ => hb.block b hb'.2
  have P0 := hide (put_any h1 hf e.b A' c' _ hs1)
  have P1 := hide (cut_any h1 e.n)
  have P2 := hide (fuse_any h1 e.n)
  have P3 := hide (start_any h1)
  have H1 := hide h1
  have k0 := hrb.cell 0
  have k1 := hrb.cell 1
  have k2 := hrb.cell 2
  simp only [List.getElem?_cons_zero, List.getElem?_cons_succ] at k0 k1 k2
  have HB := hide hb
  have HW := hide hw
  obtain ⟨N, hN⟩ : ∃ N, N = e.b.length := ⟨_, rfl⟩
  rw [← hN] at HW P0 k1 ⊢
  clear hw h1 hrb hs1 hb hs hN h hf
  unfold step
  by_cases e0 : e.kind = 0
  · rw [if_pos e0]
    have hk : ((e.kind : Int) == 0) = true := by rw [beq_iff_eq]; omega
    clear e0
    go_enter Try.func11, Try.ntmps11
    go_wp2_with (first | rw [← HW.out] | fail)
    refine P0.out.mono ?_
    rintro y w2 hD
    have HD := hide (hD.over HB.out)
    obtain ⟨rfl, _⟩ := hD
    clear hk
    go_wp2
    go_ret
    exact HD.out
  · rw [if_neg e0]
    have hk0 : ((e.kind : Int) == 0) = false := by rw [beq_eq_false_iff_ne]; omega
    by_cases e1 : e.kind = 1
    · rw [if_pos e1]
      have hk : ((e.kind : Int) == 1) = true := by rw [beq_iff_eq]; omega
      clear e0 e1
      go_enter Try.func11, Try.ntmps11
      go_wp2_with (first | rw [← HW.out] | fail)
      refine P1.out.mono ?_
      rintro y w2 hD
      have HD := hide (hD.over HB.out)
      obtain ⟨rfl, _⟩ := hD
      clear hk hk0
      go_wp2
      go_ret
      exact HD.out
    · rw [if_neg e1]
      have hk1 : ((e.kind : Int) == 1) = false := by rw [beq_eq_false_iff_ne]; omega
      by_cases e2 : e.kind = 2
      · rw [if_pos e2]
        have hk : ((e.kind : Int) == 2) = true := by rw [beq_iff_eq]; omega
        clear e0 e1 e2
        go_enter Try.func11, Try.ntmps11
        go_wp2_with (first | rw [← HW.out] | fail)
        refine P2.out.mono ?_
        rintro y w2 ⟨rfl, hD, hO⟩
        have HD := hide (Does.over (y := .returned (.int .i64 0)) (r := (fused s e.n, 0)) ⟨rfl, S, hD, hO, fun k hk => .inl hk⟩ HB.out)
        clear hk hk0 hk1 hD hO
        go_wp2
        go_ret
        exact HD.out
      · rw [if_neg e2]
        have hk2 : ((e.kind : Int) == 2) = false := by rw [beq_eq_false_iff_ne]; omega
        by_cases e3 : e.kind = 3
        · rw [if_pos e3]
          have hk : ((e.kind : Int) == 3) = true := by rw [beq_iff_eq]; omega
          clear e0 e1 e2 e3
          go_enter Try.func11, Try.ntmps11
          go_wp2_with (first | rw [← HW.out] | fail)
          refine P3.out.mono ?_
          rintro y w2 ⟨rfl, hD, hO⟩
          have HD := hide (Does.over (y := .returned (.int .i64 0)) (r := (begun s, 0)) ⟨rfl, S, hD, hO, fun k hk => .inl hk⟩ HB.out)
          clear hk hk0 hk1 hk2 hD hO
          go_wp2
          go_ret
          exact HD.out
        · rw [if_neg e3]
          have hk3 : ((e.kind : Int) == 3) = false := by rw [beq_eq_false_iff_ne]; omega
          have HD := hide (Does.over (y := .returned (.int .i64 0)) (r := (s, 0)) ⟨rfl, S, H1.out, Oth.refl S w1, fun k hk => .inl hk⟩ HB.out)
          clear e0 e1 e2 e3
          go_enter Try.func11, Try.ntmps11
          go_wp2_with (first | rw [← HW.out] | fail)
          go_ret
          exact HD.out

set_option maxHeartbeats 1000000 in
set_option maxRecDepth 100000 in
theorem few_any (L : List Op) (A : Option Addr) (c : Nat) (w : World) (hs : Ops w A c L) (hl : L.length ≤ 9223372036854775807) :
    Calls Try.prog 9 #[.slice A L.length c] w fun y w' => y = .returned (.bool (few L)) ∧ Below w.heap.size w w' := by
  have Hs := hide hs
  obtain ⟨N, hN⟩ : ∃ N, N = L.length := ⟨_, rfl⟩
  rw [← hN] at hl ⊢
  have HN := hide hN
  clear hs hN
  go_enter Try.func9, Try.ntmps9
  go_wp2
  go_loopw [3] (fun i wr => ∃ k : Nat, k ≤ N ∧ i = .int .i64 k ∧ (∀ j e, j < k → L[j]? = some e → e.b.length ≤ 40) ∧ Below w.heap.size w wr) (fun i _ => N - (intOf i).toNat)
  case atStart => exact ⟨0, Nat.zero_le _, rfl, fun j e h => absurd h (Nat.not_lt_zero _), Below.refl _ _⟩
  case round =>
    obtain ⟨k, hk, rfl, hall, hb⟩ := hrel
    have Hb := hide hb
    have Hall := hide hall
    clear hb hall
    by_cases hlt : k < N
    · obtain ⟨b, o, e, Ae, ce, rfl, hke, ⟨c0, c1, c2⟩, hv⟩ := Hs.out.at Hb.out (k := k) (by have := HN.out; omega)
      have Hke := hide hke
      clear hke hv
      obtain ⟨M, hM⟩ : ∃ M, M = e.b.length := ⟨_, rfl⟩
      rw [← hM] at c1
      by_cases h1 : M ≤ 40
      · have d1 : decide (40 < (M : Int)) = false := by simp; omega
        have h1' : ¬ 40 < M := by omega
        have Hy := hide (show e.b.length ≤ 40 by rw [← hM]; exact h1)
        clear hM
        go_wp2
        refine ⟨⟨k + 1, by omega, by go_num, fun j e' hj he' => ?_, Hb.out⟩, by simp [intOf]; omega⟩
        rcases Nat.lt_or_ge j k with hl | hl
        · exact Hall.out j e' hl he'
        · obtain rfl : j = k := by omega
          rw [Hke.out] at he'
          injection he' with he'
          rw [← he']; exact Hy.out
      · have d1 : decide (40 < (M : Int)) = true := by simp; omega
        have h1' : 40 < M := by omega
        have Hf := hide (show few L = false by
          unfold few
          rw [Bool.and_eq_false_iff]
          left
          rw [List.all_eq_false]
          exact ⟨e, List.mem_of_getElem? Hke.out, by rw [decide_eq_true_eq, ← hM]; exact h1⟩)
        clear hM
        go_wp2
        go_ret
        exact ⟨by rw [Hf.out]; rfl, Hb.out⟩
    · obtain rfl : k = N := by omega
      have Hf := hide (show few L = decide ((k : Int) ≤ 40) by
        unfold few
        have h1 : (L.all fun o => decide (o.b.length ≤ 40)) = true := by
          rw [List.all_eq_true]
          intro e he
          obtain ⟨j, hj⟩ := List.getElem?_of_mem he
          have hjl := (List.getElem?_eq_some_iff.1 hj).1
          exact decide_eq_true (Hall.out j e (by have := HN.out; omega) hj)
        rw [h1, Bool.true_and, decide_eq_decide]
        have := HN.out
        omega)
      go_wp2
      go_ret
      exact ⟨by rw [Hf.out]; simp, Hb.out⟩
end Go.Proofs.Ytahcokfoifdlmaa.Dk
