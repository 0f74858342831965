/-
  Two sides' trees, together, on lists: the chapter's example.
-/
import Derived.Test.YtghnieddokhagaaQTA
import Derived.Test.YtghnieddokhagaaQMF
import Derived.Test.YtghnieddokhagaaNF
namespace Go.Proofs.Ytghnieddokhagaa.Tr
open Go Go.Proofs.Ytghnieddokhagaa.Li Go.Proofs.Ytghnieddokhagaa.Df Al

theorem wake_one : trees mgT [] [⟨[120], [49]⟩] [⟨[121], [50]⟩] = ([⟨[120], [49]⟩, ⟨[121], [50]⟩], []) := by
  have hb : both [⟨[120], [49]⟩] [⟨[121], [50]⟩] = [[120], [121]] := by decide
  rw [trees_is mgT [] (by decide), hb]
  have e1 : one mgT [] [⟨[120], [49]⟩] [⟨[121], [50]⟩] [120] = ([49], true, false) := by unfold one; simp [get]
  have e2 : one mgT [] [⟨[120], [49]⟩] [⟨[121], [50]⟩] [121] = ([50], true, false) := by unfold one; simp [get]
  simp [outs, odds, e1, e2]
theorem wake_two : trees mgT [⟨[120], [48]⟩] [⟨[120], [49]⟩] [⟨[121], [50]⟩] = ([⟨[120], [49]⟩, ⟨[121], [50]⟩], [[120]]) := by
  have hb : both [⟨[120], [49]⟩] [⟨[121], [50]⟩] = [[120], [121]] := by decide
  rw [trees_is mgT _ (by decide), hb]
  have e1 : one mgT [⟨[120], [48]⟩] [⟨[120], [49]⟩] [⟨[121], [50]⟩] [120] = ([49], true, true) := by unfold one; simp [get]
  have e2 : one mgT [⟨[120], [48]⟩] [⟨[120], [49]⟩] [⟨[121], [50]⟩] [121] = ([50], true, false) := by unfold one; simp [get]
  simp [outs, odds, e1, e2]
theorem wake_fine : fine [] = true ∧ fine [⟨[120], [48]⟩] = true ∧ fine [⟨[120], [49]⟩] = true ∧ fine [⟨[121], [50]⟩] = true := by decide
end Go.Proofs.Ytghnieddokhagaa.Tr
