/-
  NARROWER THAN 'FOR EVERY INPUT', by the rows' own cells (each row's printed sentence says how): PatchEncodes: laid · PatchDecodes: laid · PatchPlays: laid · PatchBack: laid · PatchBetween: laid · PatchLimits: laid · PatchTwice: laid.
  DERIVED. THE GIVEN ROWS OF THIS SEAT. 7 by the template 'for every input the law returns true; each argument reads behind the call as it read before'; 0 by the template 'total and deterministic' (their statements: YtabgkfkjnpcbkaaDoorTotals.lean).
  GIVEN WITH THE SEED: the statements are not yours to turn. If you find one false, say at which input.
  Laid BY PROGRAM, IN A SANDBOX (cutbox-rows.mjs): the forced cells as the released guide's own fill.sh prints them over the translation 169b1f6dbd9ff5d4… (all of the seat's roots in one cut). By AI agents, Wed Nov 11 2026. No macro, syntax, notation, axiom, sorry.
-/
import Derived.Test.YtabgkfkjnpcbkaaDoorChecked
import GoSem.PinnedTables
import GoSem.Claim
import GoSem.ClaimJoined
import GoSem.ClaimMapViews
import Derived.JoinedTies
import Derived.KernelRfl
namespace Go.Proofs.YtabgkfkjnpcbkaaDoor
/- THE CELL 'sum', in the pinned program and in every row, IS THE sha256 OF THE DUMP (.gsa) THAT YtabgkfkjnpcbkaaDoorProg.lean LOADS. Nothing in Lean hashes anything: it is a label: what it is worth is what the hold of that sum in a sandbox is worth. -/
noncomputable def Tryd.pinned : Pinned := { name := "ytabgkfkjnpcbkaadoor", sum := "169b1f6dbd9ff5d489d0468ce2763794890abd76b7f459faf9e2104d57929863", checked := Tryd.checked }
namespace Rows
def none {H : Type} : Left H := { results := [], args := [] }

/- WHAT THE LISTED PACKAGE-LEVEL VARIABLES READ AS WHEN THE CALL BEGINS. Each datum BY PROGRAM (the guide's laid-datum.mjs) off the statement by which the dump's own 'gosem.cut.vars' lays the variable. In a bare row this is a premise. The card (YtabgkfkjnpcbkaaDoorCards.lean) ties it to the program's text. -/
def laid_grapevine_grapevineref01_keys {H : Type} : DataW H := .agg [.lit (.int .u32 1116352408), .lit (.int .u32 1899447441), .lit (.int .u32 3049323471), .lit (.int .u32 3921009573), .lit (.int .u32 961987163), .lit (.int .u32 1508970993), .lit (.int .u32 2453635748), .lit (.int .u32 2870763221), .lit (.int .u32 3624381080), .lit (.int .u32 310598401), .lit (.int .u32 607225278), .lit (.int .u32 1426881987), .lit (.int .u32 1925078388), .lit (.int .u32 2162078206), .lit (.int .u32 2614888103), .lit (.int .u32 3248222580), .lit (.int .u32 3835390401), .lit (.int .u32 4022224774), .lit (.int .u32 264347078), .lit (.int .u32 604807628), .lit (.int .u32 770255983), .lit (.int .u32 1249150122), .lit (.int .u32 1555081692), .lit (.int .u32 1996064986), .lit (.int .u32 2554220882), .lit (.int .u32 2821834349), .lit (.int .u32 2952996808), .lit (.int .u32 3210313671), .lit (.int .u32 3336571891), .lit (.int .u32 3584528711), .lit (.int .u32 113926993), .lit (.int .u32 338241895), .lit (.int .u32 666307205), .lit (.int .u32 773529912), .lit (.int .u32 1294757372), .lit (.int .u32 1396182291), .lit (.int .u32 1695183700), .lit (.int .u32 1986661051), .lit (.int .u32 2177026350), .lit (.int .u32 2456956037), .lit (.int .u32 2730485921), .lit (.int .u32 2820302411), .lit (.int .u32 3259730800), .lit (.int .u32 3345764771), .lit (.int .u32 3516065817), .lit (.int .u32 3600352804), .lit (.int .u32 4094571909), .lit (.int .u32 275423344), .lit (.int .u32 430227734), .lit (.int .u32 506948616), .lit (.int .u32 659060556), .lit (.int .u32 883997877), .lit (.int .u32 958139571), .lit (.int .u32 1322822218), .lit (.int .u32 1537002063), .lit (.int .u32 1747873779), .lit (.int .u32 1955562222), .lit (.int .u32 2024104815), .lit (.int .u32 2227730452), .lit (.int .u32 2361852424), .lit (.int .u32 2428436474), .lit (.int .u32 2756734187), .lit (.int .u32 3204031479), .lit (.int .u32 3329325298)]
def laid_unicode_utf8_acceptRanges {H : Type} : DataW H := .agg [.agg [.lit (.int .u8 128), .lit (.int .u8 191)], .agg [.lit (.int .u8 160), .lit (.int .u8 191)], .agg [.lit (.int .u8 128), .lit (.int .u8 159)], .agg [.lit (.int .u8 144), .lit (.int .u8 191)], .agg [.lit (.int .u8 128), .lit (.int .u8 143)], .agg [.lit (.int .u8 0), .lit (.int .u8 0)], .agg [.lit (.int .u8 0), .lit (.int .u8 0)], .agg [.lit (.int .u8 0), .lit (.int .u8 0)], .agg [.lit (.int .u8 0), .lit (.int .u8 0)], .agg [.lit (.int .u8 0), .lit (.int .u8 0)], .agg [.lit (.int .u8 0), .lit (.int .u8 0)], .agg [.lit (.int .u8 0), .lit (.int .u8 0)], .agg [.lit (.int .u8 0), .lit (.int .u8 0)], .agg [.lit (.int .u8 0), .lit (.int .u8 0)], .agg [.lit (.int .u8 0), .lit (.int .u8 0)], .agg [.lit (.int .u8 0), .lit (.int .u8 0)]]
def laid_grapevine_digest_steps {H : Type} : DataW H := .agg [.lit (.int .u32 1116352408), .lit (.int .u32 1899447441), .lit (.int .u32 3049323471), .lit (.int .u32 3921009573), .lit (.int .u32 961987163), .lit (.int .u32 1508970993), .lit (.int .u32 2453635748), .lit (.int .u32 2870763221), .lit (.int .u32 3624381080), .lit (.int .u32 310598401), .lit (.int .u32 607225278), .lit (.int .u32 1426881987), .lit (.int .u32 1925078388), .lit (.int .u32 2162078206), .lit (.int .u32 2614888103), .lit (.int .u32 3248222580), .lit (.int .u32 3835390401), .lit (.int .u32 4022224774), .lit (.int .u32 264347078), .lit (.int .u32 604807628), .lit (.int .u32 770255983), .lit (.int .u32 1249150122), .lit (.int .u32 1555081692), .lit (.int .u32 1996064986), .lit (.int .u32 2554220882), .lit (.int .u32 2821834349), .lit (.int .u32 2952996808), .lit (.int .u32 3210313671), .lit (.int .u32 3336571891), .lit (.int .u32 3584528711), .lit (.int .u32 113926993), .lit (.int .u32 338241895), .lit (.int .u32 666307205), .lit (.int .u32 773529912), .lit (.int .u32 1294757372), .lit (.int .u32 1396182291), .lit (.int .u32 1695183700), .lit (.int .u32 1986661051), .lit (.int .u32 2177026350), .lit (.int .u32 2456956037), .lit (.int .u32 2730485921), .lit (.int .u32 2820302411), .lit (.int .u32 3259730800), .lit (.int .u32 3345764771), .lit (.int .u32 3516065817), .lit (.int .u32 3600352804), .lit (.int .u32 4094571909), .lit (.int .u32 275423344), .lit (.int .u32 430227734), .lit (.int .u32 506948616), .lit (.int .u32 659060556), .lit (.int .u32 883997877), .lit (.int .u32 958139571), .lit (.int .u32 1322822218), .lit (.int .u32 1537002063), .lit (.int .u32 1747873779), .lit (.int .u32 1955562222), .lit (.int .u32 2024104815), .lit (.int .u32 2227730452), .lit (.int .u32 2361852424), .lit (.int .u32 2428436474), .lit (.int .u32 2756734187), .lit (.int .u32 3204031479), .lit (.int .u32 3329325298)]
/-- One of Go's own tables, pinned by name: the form's constant. -/
def laid_unicode_utf8_first : DataW Unit := Go.Pinned.utf8First

/-- 'grapevinelaw12.PatchEncodes': WHATEVER THE INPUT: true; the input reads as it did. -/
def patchEncodesSpec : ChangeSpec := { name := "patchEncodes", fn := fun _ => fun
  | [d] => { results := [.lit (.bool true)], args := [d] }
  | _ => none }
def patchEncodesRow : OpenClaim := { program := "ytabgkfkjnpcbkaadoor", sum := "169b1f6dbd9ff5d489d0468ce2763794890abd76b7f459faf9e2104d57929863", func := "grapevine/grapevinelaw12.PatchEncodes", spec := "patchEncodes", inPlace := ["internal/bytealg.CountString", "internal/bytealg.IndexByteString", "internal/bytealg.IndexString", "internal/bytealg.abigen_runtime_cmpstring"], unfollowed := true, recurses := true, named := ["unicode/utf8.first", "unicode/utf8.acceptRanges", "internal/bytealg.MaxLen", "grapevine/digest.steps", "grapevine/grapevineref01.keys"], apart := false, laid := [("grapevine/grapevineref01.keys", laid_grapevine_grapevineref01_keys), ("unicode/utf8.acceptRanges", laid_unicode_utf8_acceptRanges), ("grapevine/digest.steps", laid_grapevine_digest_steps), ("unicode/utf8.first", laid_unicode_utf8_first)] }
def PatchEncodesSaid : Prop := patchEncodesRow.holds Tryd.pinned (OpenSpec.ofChange patchEncodesSpec)

/-- ITS FALSE NEIGHBOUR: 'it returns false'. Refute it at one input. -/
def patchEncodesWrong : ChangeSpec := { name := "patchEncodes", fn := fun _ => fun
  | [d] => { results := [.lit (.bool false)], args := [d] }
  | _ => none }
def PatchEncodesWrongFalsely : Prop := patchEncodesRow.holds Tryd.pinned (OpenSpec.ofChange patchEncodesWrong)

/-- 'grapevinelaw12.PatchDecodes': WHATEVER THE INPUT: true; the input reads as it did. -/
def patchDecodesSpec : ChangeSpec := { name := "patchDecodes", fn := fun _ => fun
  | [d] => { results := [.lit (.bool true)], args := [d] }
  | _ => none }
def patchDecodesRow : OpenClaim := { program := "ytabgkfkjnpcbkaadoor", sum := "169b1f6dbd9ff5d489d0468ce2763794890abd76b7f459faf9e2104d57929863", func := "grapevine/grapevinelaw12.PatchDecodes", spec := "patchDecodes", inPlace := ["internal/bytealg.CountString", "internal/bytealg.IndexByteString", "internal/bytealg.IndexString", "internal/bytealg.abigen_runtime_cmpstring"], unfollowed := true, recurses := true, named := ["unicode/utf8.first", "unicode/utf8.acceptRanges", "internal/bytealg.MaxLen", "grapevine/digest.steps", "grapevine/grapevineref01.keys"], apart := false, laid := [("grapevine/grapevineref01.keys", laid_grapevine_grapevineref01_keys), ("unicode/utf8.acceptRanges", laid_unicode_utf8_acceptRanges), ("grapevine/digest.steps", laid_grapevine_digest_steps), ("unicode/utf8.first", laid_unicode_utf8_first)] }
def PatchDecodesSaid : Prop := patchDecodesRow.holds Tryd.pinned (OpenSpec.ofChange patchDecodesSpec)

/-- ITS FALSE NEIGHBOUR: 'it returns false'. Refute it at one input. -/
def patchDecodesWrong : ChangeSpec := { name := "patchDecodes", fn := fun _ => fun
  | [d] => { results := [.lit (.bool false)], args := [d] }
  | _ => none }
def PatchDecodesWrongFalsely : Prop := patchDecodesRow.holds Tryd.pinned (OpenSpec.ofChange patchDecodesWrong)

/-- 'grapevinelaw12.PatchPlays': WHATEVER THE INPUT: true; the input reads as it did. -/
def patchPlaysSpec : ChangeSpec := { name := "patchPlays", fn := fun _ => fun
  | [d1, d2, d3] => { results := [.lit (.bool true)], args := [d1, d2, d3] }
  | _ => none }
def patchPlaysRow : OpenClaim := { program := "ytabgkfkjnpcbkaadoor", sum := "169b1f6dbd9ff5d489d0468ce2763794890abd76b7f459faf9e2104d57929863", func := "grapevine/grapevinelaw12.PatchPlays", spec := "patchPlays", inPlace := ["internal/bytealg.CountString", "internal/bytealg.IndexByteString", "internal/bytealg.IndexString", "internal/bytealg.abigen_runtime_cmpstring"], unfollowed := true, recurses := true, named := ["unicode/utf8.first", "unicode/utf8.acceptRanges", "internal/bytealg.MaxLen", "grapevine/digest.steps", "grapevine/grapevineref01.keys"], apart := false, laid := [("grapevine/grapevineref01.keys", laid_grapevine_grapevineref01_keys), ("unicode/utf8.acceptRanges", laid_unicode_utf8_acceptRanges), ("grapevine/digest.steps", laid_grapevine_digest_steps), ("unicode/utf8.first", laid_unicode_utf8_first)] }
def PatchPlaysSaid : Prop := patchPlaysRow.holds Tryd.pinned (OpenSpec.ofChange patchPlaysSpec)

/-- ITS FALSE NEIGHBOUR: 'it returns false'. Refute it at one input. -/
def patchPlaysWrong : ChangeSpec := { name := "patchPlays", fn := fun _ => fun
  | [d1, d2, d3] => { results := [.lit (.bool false)], args := [d1, d2, d3] }
  | _ => none }
def PatchPlaysWrongFalsely : Prop := patchPlaysRow.holds Tryd.pinned (OpenSpec.ofChange patchPlaysWrong)

/-- 'grapevinelaw12.PatchBack': WHATEVER THE INPUT: true; the input reads as it did. -/
def patchBackSpec : ChangeSpec := { name := "patchBack", fn := fun _ => fun
  | [d1, d2] => { results := [.lit (.bool true)], args := [d1, d2] }
  | _ => none }
def patchBackRow : OpenClaim := { program := "ytabgkfkjnpcbkaadoor", sum := "169b1f6dbd9ff5d489d0468ce2763794890abd76b7f459faf9e2104d57929863", func := "grapevine/grapevinelaw12.PatchBack", spec := "patchBack", inPlace := ["internal/bytealg.CountString", "internal/bytealg.IndexByteString", "internal/bytealg.IndexString", "internal/bytealg.abigen_runtime_cmpstring"], unfollowed := true, recurses := true, named := ["unicode/utf8.first", "unicode/utf8.acceptRanges", "internal/bytealg.MaxLen", "grapevine/digest.steps", "grapevine/grapevineref01.keys"], apart := false, laid := [("grapevine/grapevineref01.keys", laid_grapevine_grapevineref01_keys), ("unicode/utf8.acceptRanges", laid_unicode_utf8_acceptRanges), ("grapevine/digest.steps", laid_grapevine_digest_steps), ("unicode/utf8.first", laid_unicode_utf8_first)] }
def PatchBackSaid : Prop := patchBackRow.holds Tryd.pinned (OpenSpec.ofChange patchBackSpec)

/-- ITS FALSE NEIGHBOUR: 'it returns false'. Refute it at one input. -/
def patchBackWrong : ChangeSpec := { name := "patchBack", fn := fun _ => fun
  | [d1, d2] => { results := [.lit (.bool false)], args := [d1, d2] }
  | _ => none }
def PatchBackWrongFalsely : Prop := patchBackRow.holds Tryd.pinned (OpenSpec.ofChange patchBackWrong)

/-- 'grapevinelaw12.PatchBetween': WHATEVER THE INPUT: true; the input reads as it did. -/
def patchBetweenSpec : ChangeSpec := { name := "patchBetween", fn := fun _ => fun
  | [d1, d2] => { results := [.lit (.bool true)], args := [d1, d2] }
  | _ => none }
def patchBetweenRow : OpenClaim := { program := "ytabgkfkjnpcbkaadoor", sum := "169b1f6dbd9ff5d489d0468ce2763794890abd76b7f459faf9e2104d57929863", func := "grapevine/grapevinelaw12.PatchBetween", spec := "patchBetween", inPlace := ["internal/bytealg.CountString", "internal/bytealg.IndexByteString", "internal/bytealg.IndexString", "internal/bytealg.abigen_runtime_cmpstring"], unfollowed := true, recurses := true, named := ["unicode/utf8.first", "unicode/utf8.acceptRanges", "internal/bytealg.MaxLen", "grapevine/digest.steps", "grapevine/grapevineref01.keys"], apart := false, laid := [("grapevine/grapevineref01.keys", laid_grapevine_grapevineref01_keys), ("unicode/utf8.acceptRanges", laid_unicode_utf8_acceptRanges), ("grapevine/digest.steps", laid_grapevine_digest_steps), ("unicode/utf8.first", laid_unicode_utf8_first)] }
def PatchBetweenSaid : Prop := patchBetweenRow.holds Tryd.pinned (OpenSpec.ofChange patchBetweenSpec)

/-- ITS FALSE NEIGHBOUR: 'it returns false'. Refute it at one input. -/
def patchBetweenWrong : ChangeSpec := { name := "patchBetween", fn := fun _ => fun
  | [d1, d2] => { results := [.lit (.bool false)], args := [d1, d2] }
  | _ => none }
def PatchBetweenWrongFalsely : Prop := patchBetweenRow.holds Tryd.pinned (OpenSpec.ofChange patchBetweenWrong)

/-- 'grapevinelaw12.PatchLimits': WHATEVER THE INPUT: true; the input reads as it did. -/
def patchLimitsSpec : ChangeSpec := { name := "patchLimits", fn := fun _ => fun
  | [d1, d2, d3] => { results := [.lit (.bool true)], args := [d1, d2, d3] }
  | _ => none }
def patchLimitsRow : OpenClaim := { program := "ytabgkfkjnpcbkaadoor", sum := "169b1f6dbd9ff5d489d0468ce2763794890abd76b7f459faf9e2104d57929863", func := "grapevine/grapevinelaw12.PatchLimits", spec := "patchLimits", inPlace := ["internal/bytealg.CountString", "internal/bytealg.IndexByteString", "internal/bytealg.IndexString", "internal/bytealg.abigen_runtime_cmpstring"], unfollowed := true, recurses := true, named := ["unicode/utf8.first", "unicode/utf8.acceptRanges", "internal/bytealg.MaxLen", "grapevine/digest.steps", "grapevine/grapevineref01.keys"], apart := false, laid := [("grapevine/grapevineref01.keys", laid_grapevine_grapevineref01_keys), ("unicode/utf8.acceptRanges", laid_unicode_utf8_acceptRanges), ("grapevine/digest.steps", laid_grapevine_digest_steps), ("unicode/utf8.first", laid_unicode_utf8_first)] }
def PatchLimitsSaid : Prop := patchLimitsRow.holds Tryd.pinned (OpenSpec.ofChange patchLimitsSpec)

/-- ITS FALSE NEIGHBOUR: 'it returns false'. Refute it at one input. -/
def patchLimitsWrong : ChangeSpec := { name := "patchLimits", fn := fun _ => fun
  | [d1, d2, d3] => { results := [.lit (.bool false)], args := [d1, d2, d3] }
  | _ => none }
def PatchLimitsWrongFalsely : Prop := patchLimitsRow.holds Tryd.pinned (OpenSpec.ofChange patchLimitsWrong)

/-- 'grapevinelaw12.PatchTwice': WHATEVER THE INPUT: true; the input reads as it did. -/
def patchTwiceSpec : ChangeSpec := { name := "patchTwice", fn := fun _ => fun
  | [d1, d2] => { results := [.lit (.bool true)], args := [d1, d2] }
  | _ => none }
def patchTwiceRow : OpenClaim := { program := "ytabgkfkjnpcbkaadoor", sum := "169b1f6dbd9ff5d489d0468ce2763794890abd76b7f459faf9e2104d57929863", func := "grapevine/grapevinelaw12.PatchTwice", spec := "patchTwice", inPlace := ["internal/bytealg.CountString", "internal/bytealg.IndexByteString", "internal/bytealg.IndexString", "internal/bytealg.abigen_runtime_cmpstring"], unfollowed := true, recurses := true, named := ["unicode/utf8.first", "unicode/utf8.acceptRanges", "internal/bytealg.MaxLen", "grapevine/digest.steps", "grapevine/grapevineref01.keys"], apart := false, laid := [("grapevine/grapevineref01.keys", laid_grapevine_grapevineref01_keys), ("unicode/utf8.acceptRanges", laid_unicode_utf8_acceptRanges), ("grapevine/digest.steps", laid_grapevine_digest_steps), ("unicode/utf8.first", laid_unicode_utf8_first)] }
def PatchTwiceSaid : Prop := patchTwiceRow.holds Tryd.pinned (OpenSpec.ofChange patchTwiceSpec)

/-- ITS FALSE NEIGHBOUR: 'it returns false'. Refute it at one input. -/
def patchTwiceWrong : ChangeSpec := { name := "patchTwice", fn := fun _ => fun
  | [d1, d2] => { results := [.lit (.bool false)], args := [d1, d2] }
  | _ => none }
def PatchTwiceWrongFalsely : Prop := patchTwiceRow.holds Tryd.pinned (OpenSpec.ofChange patchTwiceWrong)

/- THE SECOND FORM. 'bulk': how many values and letters a reading holds, each counted each time it is reached (what is shared counts as often as it is met; a slice's spare places count too). A statement '..UptoSaid' is the law's where the arguments, and the package variables that the reading takes, are together of bulk at most 1048576: NARROWER than '..Said'. Prove '..Said' where nothing that the law and all that it calls make is longer than what came in: it says more and counts as full. Else prove '..UptoSaid'. A law counts once. -/
mutual
def uptoBulk {H : Type} : DataW H → Nat
  | .lit (.string bytes) => bytes.length + 1
  | .lit _ => 1
  | .nil => 1
  | .ptr d => uptoBulk d + 1
  | .slice elems spare => uptoBulkAll elems + uptoBulkAll spare + 1
  | .agg parts => uptoBulkAll parts + 1
  | .iface _ d => uptoBulk d + 1
  | .map entries => uptoBulkEntries entries + 1
  | .held _ => 1
def uptoBulkAll {H : Type} : List (DataW H) → Nat
  | [] => 0
  | d :: r => uptoBulk d + uptoBulkAll r
def uptoBulkEntries {H : Type} : List (Lit × DataW H) → Nat
  | [] => 0
  | x :: r => uptoBulkEntry x + uptoBulkEntries r
def uptoBulkEntry {H : Type} : Lit × DataW H → Nat
  | (.string bytes, d) => bytes.length + uptoBulk d + 1
  | (_, d) => uptoBulk d + 1
 end
def uptoSmall : (H : Type) → List (DataW H) → Bool := fun _ ds => decide (uptoBulkAll ds ≤ 1048576)
def OpenSpec.upto (s : _root_.Go.ChangeSpec) : _root_.Go.OpenSpec := { _root_.Go.OpenSpec.ofChange s with cond := some uptoSmall }

/-- 'grapevinelaw12.PatchEncodes', WHERE WHAT IT READS IS OF BULK AT MOST 1048576: true; the input reads as it did. -/
def patchEncodesUptoRow : OpenClaim := { program := "ytabgkfkjnpcbkaadoor", sum := "169b1f6dbd9ff5d489d0468ce2763794890abd76b7f459faf9e2104d57929863", func := "grapevine/grapevinelaw12.PatchEncodes", spec := "patchEncodes", inPlace := ["internal/bytealg.CountString", "internal/bytealg.IndexByteString", "internal/bytealg.IndexString", "internal/bytealg.abigen_runtime_cmpstring"], unfollowed := true, recurses := true, named := ["unicode/utf8.first", "unicode/utf8.acceptRanges", "internal/bytealg.MaxLen", "grapevine/digest.steps", "grapevine/grapevineref01.keys"], apart := false, laid := [("grapevine/grapevineref01.keys", laid_grapevine_grapevineref01_keys), ("unicode/utf8.acceptRanges", laid_unicode_utf8_acceptRanges), ("grapevine/digest.steps", laid_grapevine_digest_steps), ("unicode/utf8.first", laid_unicode_utf8_first)], narrowed := true }
def PatchEncodesUptoSaid : Prop := patchEncodesUptoRow.holds Tryd.pinned (OpenSpec.upto patchEncodesSpec)

/-- 'grapevinelaw12.PatchDecodes', WHERE WHAT IT READS IS OF BULK AT MOST 1048576: true; the input reads as it did. -/
def patchDecodesUptoRow : OpenClaim := { program := "ytabgkfkjnpcbkaadoor", sum := "169b1f6dbd9ff5d489d0468ce2763794890abd76b7f459faf9e2104d57929863", func := "grapevine/grapevinelaw12.PatchDecodes", spec := "patchDecodes", inPlace := ["internal/bytealg.CountString", "internal/bytealg.IndexByteString", "internal/bytealg.IndexString", "internal/bytealg.abigen_runtime_cmpstring"], unfollowed := true, recurses := true, named := ["unicode/utf8.first", "unicode/utf8.acceptRanges", "internal/bytealg.MaxLen", "grapevine/digest.steps", "grapevine/grapevineref01.keys"], apart := false, laid := [("grapevine/grapevineref01.keys", laid_grapevine_grapevineref01_keys), ("unicode/utf8.acceptRanges", laid_unicode_utf8_acceptRanges), ("grapevine/digest.steps", laid_grapevine_digest_steps), ("unicode/utf8.first", laid_unicode_utf8_first)], narrowed := true }
def PatchDecodesUptoSaid : Prop := patchDecodesUptoRow.holds Tryd.pinned (OpenSpec.upto patchDecodesSpec)

/-- 'grapevinelaw12.PatchPlays', WHERE WHAT IT READS IS OF BULK AT MOST 1048576: true; the input reads as it did. -/
def patchPlaysUptoRow : OpenClaim := { program := "ytabgkfkjnpcbkaadoor", sum := "169b1f6dbd9ff5d489d0468ce2763794890abd76b7f459faf9e2104d57929863", func := "grapevine/grapevinelaw12.PatchPlays", spec := "patchPlays", inPlace := ["internal/bytealg.CountString", "internal/bytealg.IndexByteString", "internal/bytealg.IndexString", "internal/bytealg.abigen_runtime_cmpstring"], unfollowed := true, recurses := true, named := ["unicode/utf8.first", "unicode/utf8.acceptRanges", "internal/bytealg.MaxLen", "grapevine/digest.steps", "grapevine/grapevineref01.keys"], apart := false, laid := [("grapevine/grapevineref01.keys", laid_grapevine_grapevineref01_keys), ("unicode/utf8.acceptRanges", laid_unicode_utf8_acceptRanges), ("grapevine/digest.steps", laid_grapevine_digest_steps), ("unicode/utf8.first", laid_unicode_utf8_first)], narrowed := true }
def PatchPlaysUptoSaid : Prop := patchPlaysUptoRow.holds Tryd.pinned (OpenSpec.upto patchPlaysSpec)

/-- 'grapevinelaw12.PatchBack', WHERE WHAT IT READS IS OF BULK AT MOST 1048576: true; the input reads as it did. -/
def patchBackUptoRow : OpenClaim := { program := "ytabgkfkjnpcbkaadoor", sum := "169b1f6dbd9ff5d489d0468ce2763794890abd76b7f459faf9e2104d57929863", func := "grapevine/grapevinelaw12.PatchBack", spec := "patchBack", inPlace := ["internal/bytealg.CountString", "internal/bytealg.IndexByteString", "internal/bytealg.IndexString", "internal/bytealg.abigen_runtime_cmpstring"], unfollowed := true, recurses := true, named := ["unicode/utf8.first", "unicode/utf8.acceptRanges", "internal/bytealg.MaxLen", "grapevine/digest.steps", "grapevine/grapevineref01.keys"], apart := false, laid := [("grapevine/grapevineref01.keys", laid_grapevine_grapevineref01_keys), ("unicode/utf8.acceptRanges", laid_unicode_utf8_acceptRanges), ("grapevine/digest.steps", laid_grapevine_digest_steps), ("unicode/utf8.first", laid_unicode_utf8_first)], narrowed := true }
def PatchBackUptoSaid : Prop := patchBackUptoRow.holds Tryd.pinned (OpenSpec.upto patchBackSpec)

/-- 'grapevinelaw12.PatchBetween', WHERE WHAT IT READS IS OF BULK AT MOST 1048576: true; the input reads as it did. -/
def patchBetweenUptoRow : OpenClaim := { program := "ytabgkfkjnpcbkaadoor", sum := "169b1f6dbd9ff5d489d0468ce2763794890abd76b7f459faf9e2104d57929863", func := "grapevine/grapevinelaw12.PatchBetween", spec := "patchBetween", inPlace := ["internal/bytealg.CountString", "internal/bytealg.IndexByteString", "internal/bytealg.IndexString", "internal/bytealg.abigen_runtime_cmpstring"], unfollowed := true, recurses := true, named := ["unicode/utf8.first", "unicode/utf8.acceptRanges", "internal/bytealg.MaxLen", "grapevine/digest.steps", "grapevine/grapevineref01.keys"], apart := false, laid := [("grapevine/grapevineref01.keys", laid_grapevine_grapevineref01_keys), ("unicode/utf8.acceptRanges", laid_unicode_utf8_acceptRanges), ("grapevine/digest.steps", laid_grapevine_digest_steps), ("unicode/utf8.first", laid_unicode_utf8_first)], narrowed := true }
def PatchBetweenUptoSaid : Prop := patchBetweenUptoRow.holds Tryd.pinned (OpenSpec.upto patchBetweenSpec)

/-- 'grapevinelaw12.PatchLimits', WHERE WHAT IT READS IS OF BULK AT MOST 1048576: true; the input reads as it did. -/
def patchLimitsUptoRow : OpenClaim := { program := "ytabgkfkjnpcbkaadoor", sum := "169b1f6dbd9ff5d489d0468ce2763794890abd76b7f459faf9e2104d57929863", func := "grapevine/grapevinelaw12.PatchLimits", spec := "patchLimits", inPlace := ["internal/bytealg.CountString", "internal/bytealg.IndexByteString", "internal/bytealg.IndexString", "internal/bytealg.abigen_runtime_cmpstring"], unfollowed := true, recurses := true, named := ["unicode/utf8.first", "unicode/utf8.acceptRanges", "internal/bytealg.MaxLen", "grapevine/digest.steps", "grapevine/grapevineref01.keys"], apart := false, laid := [("grapevine/grapevineref01.keys", laid_grapevine_grapevineref01_keys), ("unicode/utf8.acceptRanges", laid_unicode_utf8_acceptRanges), ("grapevine/digest.steps", laid_grapevine_digest_steps), ("unicode/utf8.first", laid_unicode_utf8_first)], narrowed := true }
def PatchLimitsUptoSaid : Prop := patchLimitsUptoRow.holds Tryd.pinned (OpenSpec.upto patchLimitsSpec)

/-- 'grapevinelaw12.PatchTwice', WHERE WHAT IT READS IS OF BULK AT MOST 1048576: true; the input reads as it did. -/
def patchTwiceUptoRow : OpenClaim := { program := "ytabgkfkjnpcbkaadoor", sum := "169b1f6dbd9ff5d489d0468ce2763794890abd76b7f459faf9e2104d57929863", func := "grapevine/grapevinelaw12.PatchTwice", spec := "patchTwice", inPlace := ["internal/bytealg.CountString", "internal/bytealg.IndexByteString", "internal/bytealg.IndexString", "internal/bytealg.abigen_runtime_cmpstring"], unfollowed := true, recurses := true, named := ["unicode/utf8.first", "unicode/utf8.acceptRanges", "internal/bytealg.MaxLen", "grapevine/digest.steps", "grapevine/grapevineref01.keys"], apart := false, laid := [("grapevine/grapevineref01.keys", laid_grapevine_grapevineref01_keys), ("unicode/utf8.acceptRanges", laid_unicode_utf8_acceptRanges), ("grapevine/digest.steps", laid_grapevine_digest_steps), ("unicode/utf8.first", laid_unicode_utf8_first)], narrowed := true }
def PatchTwiceUptoSaid : Prop := patchTwiceUptoRow.holds Tryd.pinned (OpenSpec.upto patchTwiceSpec)

end Rows
end Go.Proofs.YtabgkfkjnpcbkaaDoor
