/-
  Hunks as a text, on lists alone: two texts of hunks, one behind the other; a wrong line between.
-/
import Derived.Test.YtfmmececocilhaaDoorUC
namespace Go.Proofs.YtfmmececocilhaaDoor.Un
open Go Df Li Hu

theorem prt_app {l m : List Hk} (hl : l.all tell = true) (hm : m.all tell = true) : prt (l ++ m) = prt l ++ prt m := by
  have h : (l ++ m).all tell = true := by rw [List.all_append, hl, hm]; rfl
  rw [prt, prt, prt, if_pos hl, if_pos hm, if_pos h, List.map_append, List.flatten_append]
theorem parse_app {l m : List Hk} (hl : l.all tell = true) (hm : m.all tell = true) : parse (prt l ++ prt m) = (l ++ m, 0, 0) := by
  rw [← prt_app hl hm]
  exact parse_prt (by rw [List.all_append, hl, hm]; rfl)
theorem hd_x : hd [120, 10] = none := by
  cases h : hd [120, 10] with
  | none => rfl
  | some k =>
    obtain ⟨_, _, _, e⟩ := hd_some h
    have := congrArg sg e
    rw [head_sg] at this
    exact absurd this (by decide)
theorem step_x (V : List Hk) : step ⟨V, 0, 0⟩ [120, 10] = none := by
  have h : step ⟨V, 0, 0⟩ [120, 10] = noEnd ⟨V, 0, 0⟩ [120, 10] := by
    rw [step, if_pos ⟨rfl, rfl⟩]
    unfold stepH
    rw [hd_x]
  rw [h]
  cases V with
  | nil => rfl
  | cons e V =>
    unfold noEnd
    simp only
    rw [if_neg]
    rintro ⟨h, _⟩
    revert h
    decide
theorem parse_x {l : List Hk} (hl : l.all tell = true) (t : List UInt8) : parse (prt l ++ ([120, 10] ++ t)) = ([], (lns (prt l)).length + 1, 3) := by
  have h1 : lns (prt l ++ ([120, 10] ++ t)) = (l.map hkL).flatten ++ [120, 10] :: lns t := by
    rw [prt, if_pos hl, hksT_lns l _ hl, lns_append [120, 10] t (by decide)]
    rfl
  rw [parse, h1, run_hks l [] _ 0 hl, run, step_x, prt_lns hl]
  simp [fin]
end Go.Proofs.YtfmmececocilhaaDoor.Un
