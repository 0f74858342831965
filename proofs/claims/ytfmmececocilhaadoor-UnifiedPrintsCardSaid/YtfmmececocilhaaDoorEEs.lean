/-
  Own rows of texts.
-/
import Derived.Test.YtfmmececocilhaaDoorECs
namespace Go.Proofs.YtfmmececocilhaaDoor.Df
open Go Go.RowKit Kt Lw

theorem infoText : (Tryd.prog.info? 9).map (fun i => (i.zero, i.size, i.bytes)) = some (some (.string ⟨#[]⟩), 1, 16) := by kernel_rfl
theorem OwT.one {w : World} {B : Nat} {v : Value} {l : Ls} (h : OwT w B tS v l) : v.oneCell' = true := by
  rcases h.2 with ⟨rfl, _⟩ | ⟨g, cap, cur, rfl, _⟩ <;> rfl
theorem grown_then {a b c : World} {r : Option Nat} (h : a.grownBy b none) (k : b.grownBy c r) : a.grownBy c r :=
  ⟨k.os.trans h.os, k.tape.trans h.tape, k.output.trans h.output, Nat.le_trans h.size k.size, fun i hi hne => (k.block i (Nat.lt_of_lt_of_le hi h.size) hne).trans (h.block i hi (by simp))⟩
end Go.Proofs.YtfmmececocilhaaDoor.Df
