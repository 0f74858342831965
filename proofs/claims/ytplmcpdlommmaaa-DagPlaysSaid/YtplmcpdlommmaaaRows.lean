/-
  No cell of these rows narrows 'for every input' (looked for: loops, veiled, ifaces, maps, wideKeys, modest, calm, conditions, laid).
  DERIVED. THE GIVEN ROWS OF THIS SEAT. 6 by the template 'for every input the law returns true; each argument reads behind the call as it read before'; 0 by the template 'total and deterministic' (their statements: YtplmcpdlommmaaaTotals.lean).
  GIVEN WITH THE SEED: the statements are not yours to turn. If you find one false, say at which input.
  Laid BY PROGRAM, IN A SANDBOX (cutbox-rows.mjs): the forced cells as the released guide's own fill.sh prints them over the translation 21af21aebccdee24… (all of the seat's roots in one cut). By AI agents, Wed Nov 11 2026. No macro, syntax, notation, axiom, sorry.
-/
import Derived.Test.YtplmcpdlommmaaaChecked
import GoSem.Claim
import GoSem.ClaimJoined
import GoSem.ClaimMapViews
import Derived.JoinedTies
import Derived.KernelRfl
namespace Go.Proofs.Ytplmcpdlommmaaa
/- THE CELL 'sum', in the pinned program and in every row, IS THE sha256 OF THE DUMP (.gsa) THAT YtplmcpdlommmaaaProg.lean LOADS. Nothing in Lean hashes anything: it is a label: what it is worth is what the hold of that sum in a sandbox is worth. -/
noncomputable def Try.pinned : Pinned := { name := "ytplmcpdlommmaaa", sum := "21af21aebccdee24912302e4153e1962ebaaa97dfcfb495f3632a7caaaf2b7be", checked := Try.checked }
namespace Rows
def none {H : Type} : Left H := { results := [], args := [] }

/-- 'grapevinelaw15.DagPlays': WHATEVER THE INPUT: true; the input reads as it did. -/
def dagPlaysSpec : ChangeSpec := { name := "dagPlays", fn := fun _ => fun
  | [d1, d2, d3] => { results := [.lit (.bool true)], args := [d1, d2, d3] }
  | _ => none }
def dagPlaysRow : OpenClaim := { program := "ytplmcpdlommmaaa", sum := "21af21aebccdee24912302e4153e1962ebaaa97dfcfb495f3632a7caaaf2b7be", func := "grapevine/grapevinelaw15.DagPlays", spec := "dagPlays", unfollowed := true, recurses := true, apart := false }
def DagPlaysSaid : Prop := dagPlaysRow.holds Try.pinned (OpenSpec.ofChange dagPlaysSpec)

/-- ITS FALSE NEIGHBOUR: 'it returns false'. Refute it at one input. -/
def dagPlaysWrong : ChangeSpec := { name := "dagPlays", fn := fun _ => fun
  | [d1, d2, d3] => { results := [.lit (.bool false)], args := [d1, d2, d3] }
  | _ => none }
def DagPlaysWrongFalsely : Prop := dagPlaysRow.holds Try.pinned (OpenSpec.ofChange dagPlaysWrong)

/-- 'grapevinelaw16.OrderLog': WHATEVER THE INPUT: true; the input reads as it did. -/
def orderLogSpec : ChangeSpec := { name := "orderLog", fn := fun _ => fun
  | [d] => { results := [.lit (.bool true)], args := [d] }
  | _ => none }
def orderLogRow : OpenClaim := { program := "ytplmcpdlommmaaa", sum := "21af21aebccdee24912302e4153e1962ebaaa97dfcfb495f3632a7caaaf2b7be", func := "grapevine/grapevinelaw16.OrderLog", spec := "orderLog", unfollowed := true, recurses := true, apart := false }
def OrderLogSaid : Prop := orderLogRow.holds Try.pinned (OpenSpec.ofChange orderLogSpec)

/-- ITS FALSE NEIGHBOUR: 'it returns false'. Refute it at one input. -/
def orderLogWrong : ChangeSpec := { name := "orderLog", fn := fun _ => fun
  | [d] => { results := [.lit (.bool false)], args := [d] }
  | _ => none }
def OrderLogWrongFalsely : Prop := orderLogRow.holds Try.pinned (OpenSpec.ofChange orderLogWrong)

/-- 'grapevinelaw16.OrderOne': WHATEVER THE INPUT: true; the input reads as it did. -/
def orderOneSpec : ChangeSpec := { name := "orderOne", fn := fun _ => fun
  | [d1, d2, d3, d4] => { results := [.lit (.bool true)], args := [d1, d2, d3, d4] }
  | _ => none }
def orderOneRow : OpenClaim := { program := "ytplmcpdlommmaaa", sum := "21af21aebccdee24912302e4153e1962ebaaa97dfcfb495f3632a7caaaf2b7be", func := "grapevine/grapevinelaw16.OrderOne", spec := "orderOne", unfollowed := true, recurses := true, apart := false }
def OrderOneSaid : Prop := orderOneRow.holds Try.pinned (OpenSpec.ofChange orderOneSpec)

/-- ITS FALSE NEIGHBOUR: 'it returns false'. Refute it at one input. -/
def orderOneWrong : ChangeSpec := { name := "orderOne", fn := fun _ => fun
  | [d1, d2, d3, d4] => { results := [.lit (.bool false)], args := [d1, d2, d3, d4] }
  | _ => none }
def OrderOneWrongFalsely : Prop := orderOneRow.holds Try.pinned (OpenSpec.ofChange orderOneWrong)

/-- 'grapevinelaw16.OrderMore': WHATEVER THE INPUT: true; the input reads as it did. -/
def orderMoreSpec : ChangeSpec := { name := "orderMore", fn := fun _ => fun
  | [d1, d2, d3, d4] => { results := [.lit (.bool true)], args := [d1, d2, d3, d4] }
  | _ => none }
def orderMoreRow : OpenClaim := { program := "ytplmcpdlommmaaa", sum := "21af21aebccdee24912302e4153e1962ebaaa97dfcfb495f3632a7caaaf2b7be", func := "grapevine/grapevinelaw16.OrderMore", spec := "orderMore", unfollowed := true, recurses := true, apart := false }
def OrderMoreSaid : Prop := orderMoreRow.holds Try.pinned (OpenSpec.ofChange orderMoreSpec)

/-- ITS FALSE NEIGHBOUR: 'it returns false'. Refute it at one input. -/
def orderMoreWrong : ChangeSpec := { name := "orderMore", fn := fun _ => fun
  | [d1, d2, d3, d4] => { results := [.lit (.bool false)], args := [d1, d2, d3, d4] }
  | _ => none }
def OrderMoreWrongFalsely : Prop := orderMoreRow.holds Try.pinned (OpenSpec.ofChange orderMoreWrong)

/-- 'grapevinelaw16.OrderCommon': WHATEVER THE INPUT: true; the input reads as it did. -/
def orderCommonSpec : ChangeSpec := { name := "orderCommon", fn := fun _ => fun
  | [d1, d2, d3] => { results := [.lit (.bool true)], args := [d1, d2, d3] }
  | _ => none }
def orderCommonRow : OpenClaim := { program := "ytplmcpdlommmaaa", sum := "21af21aebccdee24912302e4153e1962ebaaa97dfcfb495f3632a7caaaf2b7be", func := "grapevine/grapevinelaw16.OrderCommon", spec := "orderCommon", unfollowed := true, recurses := true, apart := false }
def OrderCommonSaid : Prop := orderCommonRow.holds Try.pinned (OpenSpec.ofChange orderCommonSpec)

/-- ITS FALSE NEIGHBOUR: 'it returns false'. Refute it at one input. -/
def orderCommonWrong : ChangeSpec := { name := "orderCommon", fn := fun _ => fun
  | [d1, d2, d3] => { results := [.lit (.bool false)], args := [d1, d2, d3] }
  | _ => none }
def OrderCommonWrongFalsely : Prop := orderCommonRow.holds Try.pinned (OpenSpec.ofChange orderCommonWrong)

/-- 'grapevinelaw16.OrderDown': WHATEVER THE INPUT: true; the input reads as it did. -/
def orderDownSpec : ChangeSpec := { name := "orderDown", fn := fun _ => fun
  | [d1, d2] => { results := [.lit (.bool true)], args := [d1, d2] }
  | _ => none }
def orderDownRow : OpenClaim := { program := "ytplmcpdlommmaaa", sum := "21af21aebccdee24912302e4153e1962ebaaa97dfcfb495f3632a7caaaf2b7be", func := "grapevine/grapevinelaw16.OrderDown", spec := "orderDown", unfollowed := true, recurses := true, apart := false }
def OrderDownSaid : Prop := orderDownRow.holds Try.pinned (OpenSpec.ofChange orderDownSpec)

/-- ITS FALSE NEIGHBOUR: 'it returns false'. Refute it at one input. -/
def orderDownWrong : ChangeSpec := { name := "orderDown", fn := fun _ => fun
  | [d1, d2] => { results := [.lit (.bool false)], args := [d1, d2] }
  | _ => none }
def OrderDownWrongFalsely : Prop := orderDownRow.holds Try.pinned (OpenSpec.ofChange orderDownWrong)

/- THE SECOND FORM. 'bulk': how many values and letters a reading holds, each counted each time it is reached (what is shared counts as often as it is met; a slice's spare places count too). A statement '..UptoSaid' is the law's where the arguments, and the package variables that the reading takes, are together of bulk at most 1048576: NARROWER than '..Said'. Prove '..Said' where nothing that the law and all that it calls make is longer than what came in: it says more and counts as full. Else prove '..UptoSaid'. A law counts once. -/
mutual
def uptoBulk {H : Type} : DataW H → Nat
  | .lit (.string bytes) => bytes.length + 1
  | .lit _ => 1
  | .nil => 1
  | .ptr d => uptoBulk d + 1
  | .slice elems spare => uptoBulkAll elems + uptoBulkAll spare + 1
  | .agg parts => uptoBulkAll parts + 1
  | .iface _ d => uptoBulk d + 1
  | .map entries => uptoBulkEntries entries + 1
  | .held _ => 1
def uptoBulkAll {H : Type} : List (DataW H) → Nat
  | [] => 0
  | d :: r => uptoBulk d + uptoBulkAll r
def uptoBulkEntries {H : Type} : List (Lit × DataW H) → Nat
  | [] => 0
  | x :: r => uptoBulkEntry x + uptoBulkEntries r
def uptoBulkEntry {H : Type} : Lit × DataW H → Nat
  | (.string bytes, d) => bytes.length + uptoBulk d + 1
  | (_, d) => uptoBulk d + 1
 end
def uptoSmall : (H : Type) → List (DataW H) → Bool := fun _ ds => decide (uptoBulkAll ds ≤ 1048576)
def OpenSpec.upto (s : _root_.Go.ChangeSpec) : _root_.Go.OpenSpec := { _root_.Go.OpenSpec.ofChange s with cond := some uptoSmall }

/-- 'grapevinelaw15.DagPlays', WHERE WHAT IT READS IS OF BULK AT MOST 1048576: true; the input reads as it did. -/
def dagPlaysUptoRow : OpenClaim := { program := "ytplmcpdlommmaaa", sum := "21af21aebccdee24912302e4153e1962ebaaa97dfcfb495f3632a7caaaf2b7be", func := "grapevine/grapevinelaw15.DagPlays", spec := "dagPlays", unfollowed := true, recurses := true, apart := false, narrowed := true }
def DagPlaysUptoSaid : Prop := dagPlaysUptoRow.holds Try.pinned (OpenSpec.upto dagPlaysSpec)

/-- 'grapevinelaw16.OrderLog', WHERE WHAT IT READS IS OF BULK AT MOST 1048576: true; the input reads as it did. -/
def orderLogUptoRow : OpenClaim := { program := "ytplmcpdlommmaaa", sum := "21af21aebccdee24912302e4153e1962ebaaa97dfcfb495f3632a7caaaf2b7be", func := "grapevine/grapevinelaw16.OrderLog", spec := "orderLog", unfollowed := true, recurses := true, apart := false, narrowed := true }
def OrderLogUptoSaid : Prop := orderLogUptoRow.holds Try.pinned (OpenSpec.upto orderLogSpec)

/-- 'grapevinelaw16.OrderOne', WHERE WHAT IT READS IS OF BULK AT MOST 1048576: true; the input reads as it did. -/
def orderOneUptoRow : OpenClaim := { program := "ytplmcpdlommmaaa", sum := "21af21aebccdee24912302e4153e1962ebaaa97dfcfb495f3632a7caaaf2b7be", func := "grapevine/grapevinelaw16.OrderOne", spec := "orderOne", unfollowed := true, recurses := true, apart := false, narrowed := true }
def OrderOneUptoSaid : Prop := orderOneUptoRow.holds Try.pinned (OpenSpec.upto orderOneSpec)

/-- 'grapevinelaw16.OrderMore', WHERE WHAT IT READS IS OF BULK AT MOST 1048576: true; the input reads as it did. -/
def orderMoreUptoRow : OpenClaim := { program := "ytplmcpdlommmaaa", sum := "21af21aebccdee24912302e4153e1962ebaaa97dfcfb495f3632a7caaaf2b7be", func := "grapevine/grapevinelaw16.OrderMore", spec := "orderMore", unfollowed := true, recurses := true, apart := false, narrowed := true }
def OrderMoreUptoSaid : Prop := orderMoreUptoRow.holds Try.pinned (OpenSpec.upto orderMoreSpec)

/-- 'grapevinelaw16.OrderCommon', WHERE WHAT IT READS IS OF BULK AT MOST 1048576: true; the input reads as it did. -/
def orderCommonUptoRow : OpenClaim := { program := "ytplmcpdlommmaaa", sum := "21af21aebccdee24912302e4153e1962ebaaa97dfcfb495f3632a7caaaf2b7be", func := "grapevine/grapevinelaw16.OrderCommon", spec := "orderCommon", unfollowed := true, recurses := true, apart := false, narrowed := true }
def OrderCommonUptoSaid : Prop := orderCommonUptoRow.holds Try.pinned (OpenSpec.upto orderCommonSpec)

/-- 'grapevinelaw16.OrderDown', WHERE WHAT IT READS IS OF BULK AT MOST 1048576: true; the input reads as it did. -/
def orderDownUptoRow : OpenClaim := { program := "ytplmcpdlommmaaa", sum := "21af21aebccdee24912302e4153e1962ebaaa97dfcfb495f3632a7caaaf2b7be", func := "grapevine/grapevinelaw16.OrderDown", spec := "orderDown", unfollowed := true, recurses := true, apart := false, narrowed := true }
def OrderDownUptoSaid : Prop := orderDownUptoRow.holds Try.pinned (OpenSpec.upto orderDownSpec)

end Rows
end Go.Proofs.Ytplmcpdlommmaaa
