/-
  The edits of two sides, as they are gone through, in memory.
-/
import Derived.BigQuiet
import Derived.Test.YteehbpnbephojaaJE
import Derived.Test.YteehbpnbephojaaRS
import Derived.Test.YteehbpnbephojaaEM
namespace Go.Proofs.Yteehbpnbephojaa.Al
open Go Go.RowKit Kt Lw Li Df

/-- an edit as it lies in a row -/
structure Ev where
  e : Ed
  A : Option Addr
  c : Nat
def evV (v : Ev) : Value := .agg #[.int .i64 v.e.pos, .int .i64 v.e.del, .slice v.A v.e.ins.length v.c]
/-- a block without cells -/
def Dum (w : World) (k : Nat) : Prop := ∀ o, w.cell? ⟨k, o, none⟩ = none
/-- what lay there, but what has no cells, is as it was -/
structure Bel (w0 W : World) : Prop where
  size : w0.heap.size ≤ W.heap.size
  block : ∀ k, k < w0.heap.size → Dum w0 k ∨ W.heap[k]? = w0.heap[k]?
theorem Bel.of {w0 W : World} (h : Below w0.heap.size w0 W) : Bel w0 W := ⟨h.size, fun k hk => .inr (h.block k hk)⟩
theorem Bel.trans {w0 A B : World} (h : Bel w0 A) (k : Below w0.heap.size A B) : Bel w0 B :=
  ⟨Nat.le_trans h.size k.size, fun i hi => (h.block i hi).imp id fun e => (k.block i hi).trans e⟩
theorem Bel.drewN {w0 A : World} (h : Bel w0 A) (k : Nat) : Bel w0 (A.drewN k) := ⟨h.size, h.block⟩
theorem Bel.drew {w0 A : World} (h : Bel w0 A) : Bel w0 A.drew := ⟨h.size, h.block⟩
theorem Bel.grown {w0 A B : World} {row : Option Nat} (h : Bel w0 A) (hg : A.grownBy B row) (hr : ∀ r, row = some r → w0.heap.size ≤ r) : Bel w0 B :=
  h.trans ((Below.refl _ _).grown hg h.size hr)
theorem Bel.put {w0 A : World} (h : Bel w0 A) {g i : Nat} (hg : w0.heap.size ≤ g) (u : Value) : Bel w0 (A.setCell ⟨g, i, none⟩ u) := h.trans (below_put (Below.refl _ _) hg u)
/-- where the edits of two sides are; w0: the world ahead of the block b -/
structure Ct (w0 W : World) (b : Nat) (xs ys : List Ed) : Prop where
  low : Bel w0 W
  out : w0.heap.size ≤ b
  st : ∃ A c A' c', Row W b tL [.slice A xs.length c, .slice A' ys.length c'] ∧ Es w0 A c xs ∧ Es w0 A' c' ys
theorem es_head {w0 W : World} {A : Option Addr} {c : Nat} {e : Ed} {r : List Ed} (h : Es w0 A c (e :: r)) (hb : Bel w0 W) :
    ∃ g o Ai ci, A = some ⟨g, o, none⟩ ∧ W.cell? ⟨g, o, none⟩ = some (.int .i64 e.pos) ∧ W.cell? ⟨g, o + 1, none⟩ = some (.int .i64 e.del) ∧ W.cell? ⟨g, o + 2, none⟩ = some (.slice Ai e.ins.length ci) ∧ r.length + 1 ≤ c := by
  obtain ⟨h1, h2⟩ := h
  obtain ⟨g, o, rfl, hlt, he⟩ := h2 (by simp)
  obtain ⟨Ai, ci, hr, _⟩ := he 0 e rfl
  have key : ∀ i v, (edC e (.slice Ai e.ins.length ci))[i]? = some v → W.cell? ⟨g, o + i, none⟩ = some v := fun i v hi => by
    have := hr i v hi
    rw [Nat.mul_zero, Nat.add_zero] at this
    rcases hb.block g hlt with hd | hd
    · rw [hd (o + i)] at this; cases this
    · exact (World.cell?_of_block (a := ⟨g, o + i, none⟩) hd).trans this
  exact ⟨g, o, Ai, ci, rfl, key 0 _ rfl, key 1 _ rfl, key 2 _ rfl, h1⟩
set_option maxRecDepth 100000 in
set_option maxHeartbeats 1000000 in
theorem some_any (w0 : World) (b : Nat) (xs ys : List Ed) (w : World) (h : Ct w0 w b xs ys) :
    Calls Try.prog 15 #[.pointer (some ⟨b, 0, none⟩)] w fun y w' => y = .returned (.bool (decide (xs ≠ [] ∨ ys ≠ []))) ∧ w' = w := by
  obtain ⟨A, c, A', c', hr, _, _⟩ := h.st
  have k0 := hr.cell 0
  have k1 := hr.cell 1
  simp only [List.getElem?_cons_zero, List.getElem?_cons_succ] at k0 k1
  have hD := hide (show decide (xs ≠ [] ∨ ys ≠ []) = (decide (0 < xs.length) || decide (0 < ys.length)) by
    rw [Bool.eq_iff_iff]; simp [List.length_pos_iff])
  obtain ⟨n, hn⟩ : ∃ n, n = xs.length := ⟨_, rfl⟩
  obtain ⟨m, hm⟩ : ∃ m, m = ys.length := ⟨_, rfl⟩
  rw [← hn] at k0 hD
  rw [← hm] at k1 hD
  rw [hD.out]
  clear h hr hn hm hD
  by_cases h0 : 0 < n
  · have d0 : decide (0 < n) = true := decide_eq_true h0
    have d1 : decide ((0 : Int) < (n : Int)) = true := decide_eq_true (by omega)
    go_enter Try.func15, Try.ntmps15
    go_wp2
    go_ret
    exact ⟨by rw [d0]; rfl, rfl⟩
  · have d0 : decide (0 < n) = false := decide_eq_false h0
    have d1 : decide ((0 : Int) < (n : Int)) = false := decide_eq_false (by omega)
    go_enter Try.func15, Try.ntmps15
    go_wp2
    go_ret
    exact ⟨by rw [d0]; simp, rfl⟩
set_option maxRecDepth 100000 in
set_option maxHeartbeats 1000000 in
theorem side_any (w0 : World) (b : Nat) (xs ys : List Ed) (w : World) (h : Ct w0 w b xs ys) :
    Calls Try.prog 42 #[.pointer (some ⟨b, 0, none⟩)] w fun y w' => y = .returned (sideV (sd xs ys)) ∧ ∃ k, w' = w.drewN k := by
  obtain ⟨A, c, A', c', hr, he, he'⟩ := h.st
  have k0 := hr.cell 0
  have k1 := hr.cell 1
  simp only [List.getElem?_cons_zero, List.getElem?_cons_succ] at k0 k1
  have hl := h.low
  clear h hr
  cases xs with
  | nil =>
    clear he he' hl
    simp only [List.length_nil] at k0
    go_enter Try.func42, Try.ntmps42
    go_wp2
    go_ret
    exact ⟨rfl, 0, rfl⟩
  | cons e r =>
    obtain ⟨g, o, Ai, ci, rfl, e0, _, _, hc1⟩ := es_head he hl
    obtain ⟨n, hn⟩ : ∃ n, n = (e :: r).length := ⟨_, rfl⟩
    have hn1 : 0 < n := by rw [hn]; simp
    rw [← hn] at k0
    have z0 : ((n : Int) == 0) = false := by rw [beq_eq_false_iff_ne]; omega
    have z1 : (0 : Int) < (n : Int) := by omega
    clear hn he
    cases ys with
    | nil =>
      clear he' hl
      simp only [List.length_nil] at k1
      go_enter Try.func42, Try.ntmps42
      go_wp2
      go_quiet (fail)
      go_wp2
      go_ret
      exact ⟨rfl, _, rfl⟩
    | cons f t =>
      obtain ⟨g', o', Ai', ci', rfl, f0, _, _, hc2⟩ := es_head he' hl
      obtain ⟨m, hm⟩ : ∃ m, m = (f :: t).length := ⟨_, rfl⟩
      have hm1 : 0 < m := by rw [hm]; simp
      rw [← hm] at k1
      have y0 : ((m : Int) == 0) = false := by rw [beq_eq_false_iff_ne]; omega
      have y1 : (0 : Int) < (m : Int) := by omega
      clear hm he' hl
      obtain ⟨p, hp⟩ : ∃ p, p = e.pos := ⟨_, rfl⟩
      obtain ⟨q, hq⟩ : ∃ q, q = f.pos := ⟨_, rfl⟩
      rw [← hp] at e0
      rw [← hq] at f0
      rw [show sd (e :: r) (f :: t) = decide (q < p) by rw [hp, hq]; rfl]
      clear hp hq hn1 hm1
      by_cases hpq : p ≤ q
      · have dl : decide (p ≤ q) = true := decide_eq_true hpq
        have dh : decide (q < p) = false := decide_eq_false (by omega)
        rw [dh]
        go_enter Try.func42, Try.ntmps42
        go_wp2
        go_quiet (fail)
        go_wp2
        go_ret
        exact ⟨rfl, _, rfl⟩
      · have dl : decide (p ≤ q) = false := decide_eq_false hpq
        have dh : decide (q < p) = true := decide_eq_true (by omega)
        rw [dh]
        go_enter Try.func42, Try.ntmps42
        go_wp2
        go_quiet (fail)
        go_wp2
        go_ret
        exact ⟨rfl, _, rfl⟩
end Go.Proofs.Yteehbpnbephojaa.Al
