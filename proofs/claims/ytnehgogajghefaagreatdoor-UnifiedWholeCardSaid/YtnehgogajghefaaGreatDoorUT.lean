/-
  unified: the statements' own example, on lists.
-/
import Derived.Test.YtnehgogajghefaaGreatDoorUR
namespace Go.Proofs.YtnehgogajghefaaGreatDoor.Un
open Go Go.RowKit Kt Lw Li Df Hu

abbrev exU : Hk := ⟨0, 1, 0, 1, [[45, 97, 10], [43, 98]]⟩
def exT : List UInt8 := [64, 64, 32, 45, 49, 44, 49, 32, 43, 49, 44, 49, 32, 64, 64, 10, 45, 97, 10, 43, 98, 10, 92, 32, 78, 111, 32, 110, 101, 119, 108, 105, 110, 101, 32, 97, 116, 32, 101, 110, 100, 32, 111, 102, 32, 102, 105, 108, 101, 10]
theorem ex_tell : [exU].all tell = true := by decide
theorem itoa_one : Lib.itoa 1 = [49] := by
  rw [itoa_nat 1 (by omega), Lib.decDigits]
  rfl
theorem ex_prt : prt [exU] = exT := by
  rw [prt, if_pos ex_tell]
  have h1 : sideT 0 1 = [49, 44, 49] := by
    have : plc 0 1 = 1 := rfl
    rw [sideT, this, itoa_one]; rfl
  simp only [List.map_cons, List.map_nil, List.flatten_cons, List.flatten_nil, hkT, headT, h1]
  rfl
theorem ex_parse : parse exT = ([exU], 0, 0) := by rw [← ex_prt]; exact parse_prt ex_tell
theorem ex_no : parse [120] = ([], 1, 3) := by
  have h1 : hd [120] = none := by
    cases h : hd [120] with
    | none => rfl
    | some k =>
      obtain ⟨_, _, _, e⟩ := hd_some h
      have := congrArg sg e
      rw [head_sg] at this
      exact absurd this (by decide)
  have h2 : step ⟨[], 0, 0⟩ [120] = none := by
    have h3 : stepH ⟨[], 0, 0⟩ [120] = none := by unfold stepH; rw [h1]; rfl
    rw [step, if_pos ⟨rfl, rfl⟩, h3]
  have h4 : lns [120] = [[120]] := by decide
  rw [parse, h4, run, h2]
  rfl
end Go.Proofs.YtnehgogajghefaaGreatDoor.Un
