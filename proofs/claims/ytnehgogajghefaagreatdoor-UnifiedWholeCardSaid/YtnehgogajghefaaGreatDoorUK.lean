/-
  unified: the reader in memory; ahead, noEnd, lack.
-/
import Derived.Test.YtnehgogajghefaaGreatDoorQ1
import Derived.Test.YtnehgogajghefaaGreatDoorUJ
import Derived.Test.YtnehgogajghefaaGreatDoorII
namespace Go.Proofs.YtnehgogajghefaaGreatDoor.Un
open Go Go.RowKit Kt Lw Li Df Hu

abbrev tR : TypeId := 54
/-- the function that reads the next line -/
def fnV (g : Nat) (b : Bool) : Value := .func (.func (if b then 41 else 62)) #[.pointer (some ⟨g, 0, none⟩)] #[]
/-- the last hunk is open: its lines are a row of the call's own, and no other hunk's -/
structure OP (w : World) (B go cap : Nat) (V : List (Hk × Value)) (e : Hk) (vi : Value) : Prop where
  out : OH w B go cap V e vi
  own : OwT w B tS vi e.lines
  apart : ∀ p ∈ V, ∀ b, vi.ownBlock = some b → p.2.ownBlock ≠ some b
theorem OP.keep {w w' : World} {B go cap : Nat} {V : List (Hk × Value)} {e : Hk} {vi : Value} (h : OP w B go cap V e vi) (hb : Below w.heap.size w w') : OP w' B go cap V e vi :=
  ⟨h.out.keep hb, h.own.kept hb, h.apart⟩
/-- hunks so far, the last one ahead, as they lie in memory -/
def Rv (w : World) (B : Nat) (v : Value) : List Hk → Prop
  | [] => v = .slice none 0 0
  | e :: L => ∃ go cap V vi, v = .slice (some ⟨go, 0, none⟩) (V.length + 1) cap ∧ V.map (·.1) = L.reverse ∧ OP w B go cap V e vi
theorem Rv.keep {w w' : World} {B : Nat} {v : Value} {L : List Hk} (h : Rv w B v L) (hb : Below w.heap.size w w') : Rv w' B v L := by
  cases L with
  | nil => exact h
  | cons e L =>
    obtain ⟨go, cap, V, vi, h1, h2, h3⟩ := h
    exact ⟨go, cap, V, vi, h1, h2, h3.keep hb⟩
/-- the reader in block g -/
structure RdM (w : World) (B g : Nat) (b : Bool) (s : St) : Prop where
  ex : ∃ v, Row w g tR [fnV g b, v, .int .i64 s.old, .int .i64 s.fresh] ∧ Rv w B v s.rv
set_option maxRecDepth 100000 in
set_option maxHeartbeats 1000000 in
theorem ahead_any (B g : Nat) (b : Bool) (s : St) (w : World) (h : RdM w B g b s) (hn : s.rv.length ≤ 1000000) (hl : ∀ e ∈ s.rv, e.lines.length ≤ 1000000) :
    Calls Tryz.prog 61 #[.pointer (some ⟨g, 0, none⟩)] w fun y w' => y = .returned (.string ⟨(ahd s.rv).toArray⟩) ∧ Below w.heap.size w w' := by
  obtain ⟨v, hrow, hrv⟩ := h.ex
  have c1 := hrow.cell 1
  simp only [List.getElem?_cons_zero, List.getElem?_cons_succ] at c1
  cases hq : s.rv with
  | nil =>
    rw [hq] at hrv
    have hv : v = .slice none 0 0 := hrv
    subst hv
    clear h hn hl hq hrv hrow
    go_enter Tryz.func61, Tryz.ntmps61
    go_wp2
    go_ret
    exact ⟨rfl, Below.refl _ _⟩
  | cons e L =>
    rw [hq] at hrv hn hl
    obtain ⟨go, cap, V, vi, rfl, hV, hop⟩ := hrv
    obtain ⟨Ai, ci, rfl, hvs⟩ := hop.own.vs
    obtain ⟨N, hN⟩ : ∃ N, N = V.length := ⟨_, rfl⟩
    have hNl : N ≤ 1000000 := by
      have h1 := congrArg List.length hV
      simp at h1 hn
      omega
    have d4 := (hop.out.cell hN 4 (by omega)).1
    simp only [hkC, List.getElem?_cons_succ, List.getElem?_cons_zero] at d4
    have hcap : N + 1 ≤ cap := by have := hop.out.lt.2.2; omega
    rw [← hN] at c1
    obtain ⟨M, hM⟩ : ∃ M, M = N + 1 := ⟨_, rfl⟩
    rw [← hM] at c1 hcap
    have hwM : IntKind.i64.wrap ((M : Int) - 1) = (N : Int) := by rw [IntWalk.i64_in _ (by omega)]; omega
    have hnM : N < M := by omega
    have hll := hl e List.mem_cons_self
    have Ha := hide (show ahd (e :: L) = e.lines.getLast?.getD [] from rfl)
    obtain ⟨n, hnn⟩ : ∃ n, n = e.lines.length := ⟨_, rfl⟩
    rw [← hnn] at d4 hll
    by_cases hz : n = 0
    · have Hz := hide (show ahd (e :: L) = [] by
        have : e.lines = [] := List.eq_nil_of_length_eq_zero (by omega)
        rw [Ha.out, this]; rfl)
      subst hz
      clear h hn hl hq hrow hV hop hvs hN hM Ha hnn
      go_enter Tryz.func61, Tryz.ntmps61
      go_wp2
      go_quiet (fail)
      go_wp2
      go_ret
      exact ⟨by rw [Hz.out]; rfl, below_drewN (Below.refl _ _) nq⟩
    · obtain ⟨bl, ol, rfl, ck⟩ := (Lw.Vs.bound hvs).text (Below.refl _ w) (k := n - 1) (by omega)
      obtain ⟨m, hm⟩ : ∃ m, m = n - 1 := ⟨_, rfl⟩
      rw [← hm] at ck
      have hwn : IntKind.i64.wrap ((n : Int) - 1) = (m : Int) := by rw [IntWalk.i64_in _ (by omega)]; omega
      have hmn : m < n := by omega
      have hn0 : ((n : Int) == 0) = false := beq_eq_false_iff_ne.2 (by omega)
      have Hz := hide (show ahd (e :: L) = e.lines.getD m [] by
        rw [Ha.out, hm, hnn, List.getLast?_eq_getElem?, List.getD_eq_getElem?_getD])
      obtain ⟨x, hx⟩ : ∃ x, x = e.lines.getD m [] := ⟨_, rfl⟩
      rw [← hx] at ck Hz
      clear h hn hl hq hrow hV hop hvs hN hM Ha hnn hm hx hz
      go_enter Tryz.func61, Tryz.ntmps61
      go_wp2
      go_quiet (fail)
      go_wp2
      go_ret
      exact ⟨by rw [Hz.out]; rfl, below_drewN (Below.refl _ _) nq⟩
end Go.Proofs.YtnehgogajghefaaGreatDoor.Un
