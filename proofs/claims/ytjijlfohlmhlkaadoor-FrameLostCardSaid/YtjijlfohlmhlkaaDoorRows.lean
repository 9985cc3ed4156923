/-
  NARROWER THAN 'FOR EVERY INPUT', by the rows' own cells (each row's printed sentence says how): FrameSeals: laid · FrameOpens: laid · FrameTurned: laid · FrameLost: laid · FrameFinds: laid · FrameRows: laid.
  DERIVED. THE GIVEN ROWS OF THIS SEAT. 6 by the template 'for every input the law returns true; each argument reads behind the call as it read before'; 0 by the template 'total and deterministic' (their statements: YtjijlfohlmhlkaaDoorTotals.lean).
  GIVEN WITH THE SEED: the statements are not yours to turn. If you find one false, say at which input.
  Laid BY PROGRAM, IN A SANDBOX (cutbox-rows.mjs): the forced cells as the released guide's own fill.sh prints them over the translation 1dc156c869c0add8… (all of the seat's roots in one cut). By AI agents, Wed Nov 11 2026. No macro, syntax, notation, axiom, sorry.
-/
import Derived.Test.YtjijlfohlmhlkaaDoorChecked
import GoSem.Claim
import GoSem.ClaimJoined
import GoSem.ClaimMapViews
import Derived.JoinedTies
import Derived.KernelRfl
namespace Go.Proofs.YtjijlfohlmhlkaaDoor
/- THE CELL 'sum', in the pinned program and in every row, IS THE sha256 OF THE DUMP (.gsa) THAT YtjijlfohlmhlkaaDoorProg.lean LOADS. Nothing in Lean hashes anything: it is a label: what it is worth is what the hold of that sum in a sandbox is worth. -/
noncomputable def Tryd.pinned : Pinned := { name := "ytjijlfohlmhlkaadoor", sum := "1dc156c869c0add8ffc79efe45df326635aab1037929221ffcb519a7ca8881b8", checked := Tryd.checked }
namespace Rows
def none {H : Type} : Left H := { results := [], args := [] }

/- WHAT THE LISTED PACKAGE-LEVEL VARIABLES READ AS WHEN THE CALL BEGINS. Each datum BY PROGRAM (the guide's laid-datum.mjs) off the statement by which the dump's own 'gosem.cut.vars' lays the variable. In a bare row this is a premise. The card (YtjijlfohlmhlkaaDoorCards.lean) ties it to the program's text. -/
def laid_sojourn_crc_low {H : Type} : DataW H := .agg [.lit (.int .u32 0), .lit (.int .u32 4067132163), .lit (.int .u32 3778769143), .lit (.int .u32 324072436), .lit (.int .u32 3348797215), .lit (.int .u32 904991772), .lit (.int .u32 648144872), .lit (.int .u32 3570033899), .lit (.int .u32 2329499855), .lit (.int .u32 2024987596), .lit (.int .u32 1809983544), .lit (.int .u32 2575936315), .lit (.int .u32 1296289744), .lit (.int .u32 3207089363), .lit (.int .u32 2893594407), .lit (.int .u32 1578318884)]
def laid_sojourn_crc_high {H : Type} : DataW H := .agg [.lit (.int .u32 0), .lit (.int .u32 274646895), .lit (.int .u32 549293790), .lit (.int .u32 820201905), .lit (.int .u32 1098587580), .lit (.int .u32 1361435347), .lit (.int .u32 1640403810), .lit (.int .u32 1905808397), .lit (.int .u32 2197175160), .lit (.int .u32 2460548119), .lit (.int .u32 2722870694), .lit (.int .u32 2987750089), .lit (.int .u32 3280807620), .lit (.int .u32 3553878443), .lit (.int .u32 3811616794), .lit (.int .u32 4084100981)]
def laid_errors_errorType {H : Type} : DataW H := .iface "internal/reflectlite.rtype" (.agg [.ptr (.lit (.string [101, 114, 114, 111, 114]))])

/-- 'sojournlaw09.FrameSeals': WHATEVER THE INPUT: true; the input reads as it did. -/
def frameSealsSpec : ChangeSpec := { name := "frameSeals", fn := fun _ => fun
  | [d1, d2, d3] => { results := [.lit (.bool true)], args := [d1, d2, d3] }
  | _ => none }
def frameSealsRow : OpenClaim := { program := "ytjijlfohlmhlkaadoor", sum := "1dc156c869c0add8ffc79efe45df326635aab1037929221ffcb519a7ca8881b8", func := "sojourn/sojournlaw09.FrameSeals", spec := "frameSeals", inPlace := ["internal/reflectlite.ValueOf", "(internal/reflectlite.Value).Type", "(internal/reflectlite.Value).IsNil", "internal/reflectlite.TypeOf", "(internal/reflectlite.Value).Elem", "(internal/reflectlite.Value).Set"], unfollowed := true, recurses := true, named := ["sojourn/crc.low", "sojourn/crc.high", "errors.errorType"], apart := false, laid := [("sojourn/crc.low", laid_sojourn_crc_low), ("sojourn/crc.high", laid_sojourn_crc_high), ("errors.errorType", laid_errors_errorType)] }
def FrameSealsSaid : Prop := frameSealsRow.holds Tryd.pinned (OpenSpec.ofChange frameSealsSpec)

/-- ITS FALSE NEIGHBOUR: 'it returns false'. Refute it at one input. -/
def frameSealsWrong : ChangeSpec := { name := "frameSeals", fn := fun _ => fun
  | [d1, d2, d3] => { results := [.lit (.bool false)], args := [d1, d2, d3] }
  | _ => none }
def FrameSealsWrongFalsely : Prop := frameSealsRow.holds Tryd.pinned (OpenSpec.ofChange frameSealsWrong)

/-- 'sojournlaw09.FrameOpens': WHATEVER THE INPUT: true; the input reads as it did. -/
def frameOpensSpec : ChangeSpec := { name := "frameOpens", fn := fun _ => fun
  | [d1, d2] => { results := [.lit (.bool true)], args := [d1, d2] }
  | _ => none }
def frameOpensRow : OpenClaim := { program := "ytjijlfohlmhlkaadoor", sum := "1dc156c869c0add8ffc79efe45df326635aab1037929221ffcb519a7ca8881b8", func := "sojourn/sojournlaw09.FrameOpens", spec := "frameOpens", inPlace := ["internal/reflectlite.ValueOf", "(internal/reflectlite.Value).Type", "(internal/reflectlite.Value).IsNil", "internal/reflectlite.TypeOf", "(internal/reflectlite.Value).Elem", "(internal/reflectlite.Value).Set"], unfollowed := true, recurses := true, named := ["sojourn/crc.low", "sojourn/crc.high", "errors.errorType"], apart := false, laid := [("sojourn/crc.low", laid_sojourn_crc_low), ("sojourn/crc.high", laid_sojourn_crc_high), ("errors.errorType", laid_errors_errorType)] }
def FrameOpensSaid : Prop := frameOpensRow.holds Tryd.pinned (OpenSpec.ofChange frameOpensSpec)

/-- ITS FALSE NEIGHBOUR: 'it returns false'. Refute it at one input. -/
def frameOpensWrong : ChangeSpec := { name := "frameOpens", fn := fun _ => fun
  | [d1, d2] => { results := [.lit (.bool false)], args := [d1, d2] }
  | _ => none }
def FrameOpensWrongFalsely : Prop := frameOpensRow.holds Tryd.pinned (OpenSpec.ofChange frameOpensWrong)

/-- 'sojournlaw09.FrameTurned': WHATEVER THE INPUT: true; the input reads as it did. -/
def frameTurnedSpec : ChangeSpec := { name := "frameTurned", fn := fun _ => fun
  | [d1, d2, d3] => { results := [.lit (.bool true)], args := [d1, d2, d3] }
  | _ => none }
def frameTurnedRow : OpenClaim := { program := "ytjijlfohlmhlkaadoor", sum := "1dc156c869c0add8ffc79efe45df326635aab1037929221ffcb519a7ca8881b8", func := "sojourn/sojournlaw09.FrameTurned", spec := "frameTurned", named := ["sojourn/crc.low", "sojourn/crc.high"], apart := false, laid := [("sojourn/crc.low", laid_sojourn_crc_low), ("sojourn/crc.high", laid_sojourn_crc_high)] }
def FrameTurnedSaid : Prop := frameTurnedRow.holds Tryd.pinned (OpenSpec.ofChange frameTurnedSpec)

/-- ITS FALSE NEIGHBOUR: 'it returns false'. Refute it at one input. -/
def frameTurnedWrong : ChangeSpec := { name := "frameTurned", fn := fun _ => fun
  | [d1, d2, d3] => { results := [.lit (.bool false)], args := [d1, d2, d3] }
  | _ => none }
def FrameTurnedWrongFalsely : Prop := frameTurnedRow.holds Tryd.pinned (OpenSpec.ofChange frameTurnedWrong)

/-- 'sojournlaw09.FrameLost': WHATEVER THE INPUT: true; the input reads as it did. -/
def frameLostSpec : ChangeSpec := { name := "frameLost", fn := fun _ => fun
  | [d1, d2, d3] => { results := [.lit (.bool true)], args := [d1, d2, d3] }
  | _ => none }
def frameLostRow : OpenClaim := { program := "ytjijlfohlmhlkaadoor", sum := "1dc156c869c0add8ffc79efe45df326635aab1037929221ffcb519a7ca8881b8", func := "sojourn/sojournlaw09.FrameLost", spec := "frameLost", named := ["sojourn/crc.low", "sojourn/crc.high"], apart := false, laid := [("sojourn/crc.low", laid_sojourn_crc_low), ("sojourn/crc.high", laid_sojourn_crc_high)] }
def FrameLostSaid : Prop := frameLostRow.holds Tryd.pinned (OpenSpec.ofChange frameLostSpec)

/-- ITS FALSE NEIGHBOUR: 'it returns false'. Refute it at one input. -/
def frameLostWrong : ChangeSpec := { name := "frameLost", fn := fun _ => fun
  | [d1, d2, d3] => { results := [.lit (.bool false)], args := [d1, d2, d3] }
  | _ => none }
def FrameLostWrongFalsely : Prop := frameLostRow.holds Tryd.pinned (OpenSpec.ofChange frameLostWrong)

/-- 'sojournlaw09.FrameFinds': WHATEVER THE INPUT: true; the input reads as it did. -/
def frameFindsSpec : ChangeSpec := { name := "frameFinds", fn := fun _ => fun
  | [d1, d2, d3] => { results := [.lit (.bool true)], args := [d1, d2, d3] }
  | _ => none }
def frameFindsRow : OpenClaim := { program := "ytjijlfohlmhlkaadoor", sum := "1dc156c869c0add8ffc79efe45df326635aab1037929221ffcb519a7ca8881b8", func := "sojourn/sojournlaw09.FrameFinds", spec := "frameFinds", inPlace := ["internal/bytealg.IndexByteString"], named := ["sojourn/crc.low", "sojourn/crc.high"], apart := false, laid := [("sojourn/crc.low", laid_sojourn_crc_low), ("sojourn/crc.high", laid_sojourn_crc_high)] }
def FrameFindsSaid : Prop := frameFindsRow.holds Tryd.pinned (OpenSpec.ofChange frameFindsSpec)

/-- ITS FALSE NEIGHBOUR: 'it returns false'. Refute it at one input. -/
def frameFindsWrong : ChangeSpec := { name := "frameFinds", fn := fun _ => fun
  | [d1, d2, d3] => { results := [.lit (.bool false)], args := [d1, d2, d3] }
  | _ => none }
def FrameFindsWrongFalsely : Prop := frameFindsRow.holds Tryd.pinned (OpenSpec.ofChange frameFindsWrong)

/-- 'sojournlaw09.FrameRows': WHATEVER THE INPUT: true; the input reads as it did. -/
def frameRowsSpec : ChangeSpec := { name := "frameRows", fn := fun _ => fun
  | [d] => { results := [.lit (.bool true)], args := [d] }
  | _ => none }
def frameRowsRow : OpenClaim := { program := "ytjijlfohlmhlkaadoor", sum := "1dc156c869c0add8ffc79efe45df326635aab1037929221ffcb519a7ca8881b8", func := "sojourn/sojournlaw09.FrameRows", spec := "frameRows", inPlace := ["internal/bytealg.IndexByteString", "internal/reflectlite.ValueOf", "(internal/reflectlite.Value).Type", "(internal/reflectlite.Value).IsNil", "internal/reflectlite.TypeOf", "(internal/reflectlite.Value).Elem", "(internal/reflectlite.Value).Set"], unfollowed := true, recurses := true, named := ["sojourn/crc.low", "sojourn/crc.high", "errors.errorType"], apart := false, laid := [("sojourn/crc.low", laid_sojourn_crc_low), ("sojourn/crc.high", laid_sojourn_crc_high), ("errors.errorType", laid_errors_errorType)] }
def FrameRowsSaid : Prop := frameRowsRow.holds Tryd.pinned (OpenSpec.ofChange frameRowsSpec)

/-- ITS FALSE NEIGHBOUR: 'it returns false'. Refute it at one input. -/
def frameRowsWrong : ChangeSpec := { name := "frameRows", fn := fun _ => fun
  | [d] => { results := [.lit (.bool false)], args := [d] }
  | _ => none }
def FrameRowsWrongFalsely : Prop := frameRowsRow.holds Tryd.pinned (OpenSpec.ofChange frameRowsWrong)

/- THE SECOND FORM. 'bulk': how many values and letters a reading holds, each counted each time it is reached (what is shared counts as often as it is met; a slice's spare places count too). A statement '..UptoSaid' is the law's where the arguments, and the package variables that the reading takes, are together of bulk at most 1048576: NARROWER than '..Said'. Prove '..Said' where nothing that the law and all that it calls make is longer than what came in: it says more and counts as full. Else prove '..UptoSaid'. A law counts once. -/
mutual
def uptoBulk {H : Type} : DataW H → Nat
  | .lit (.string bytes) => bytes.length + 1
  | .lit _ => 1
  | .nil => 1
  | .ptr d => uptoBulk d + 1
  | .slice elems spare => uptoBulkAll elems + uptoBulkAll spare + 1
  | .agg parts => uptoBulkAll parts + 1
  | .iface _ d => uptoBulk d + 1
  | .map entries => uptoBulkEntries entries + 1
  | .held _ => 1
def uptoBulkAll {H : Type} : List (DataW H) → Nat
  | [] => 0
  | d :: r => uptoBulk d + uptoBulkAll r
def uptoBulkEntries {H : Type} : List (Lit × DataW H) → Nat
  | [] => 0
  | x :: r => uptoBulkEntry x + uptoBulkEntries r
def uptoBulkEntry {H : Type} : Lit × DataW H → Nat
  | (.string bytes, d) => bytes.length + uptoBulk d + 1
  | (_, d) => uptoBulk d + 1
 end
def uptoSmall : (H : Type) → List (DataW H) → Bool := fun _ ds => decide (uptoBulkAll ds ≤ 1048576)
def OpenSpec.upto (s : _root_.Go.ChangeSpec) : _root_.Go.OpenSpec := { _root_.Go.OpenSpec.ofChange s with cond := some uptoSmall }

/-- 'sojournlaw09.FrameSeals', WHERE WHAT IT READS IS OF BULK AT MOST 1048576: true; the input reads as it did. -/
def frameSealsUptoRow : OpenClaim := { program := "ytjijlfohlmhlkaadoor", sum := "1dc156c869c0add8ffc79efe45df326635aab1037929221ffcb519a7ca8881b8", func := "sojourn/sojournlaw09.FrameSeals", spec := "frameSeals", inPlace := ["internal/reflectlite.ValueOf", "(internal/reflectlite.Value).Type", "(internal/reflectlite.Value).IsNil", "internal/reflectlite.TypeOf", "(internal/reflectlite.Value).Elem", "(internal/reflectlite.Value).Set"], unfollowed := true, recurses := true, named := ["sojourn/crc.low", "sojourn/crc.high", "errors.errorType"], apart := false, laid := [("sojourn/crc.low", laid_sojourn_crc_low), ("sojourn/crc.high", laid_sojourn_crc_high), ("errors.errorType", laid_errors_errorType)], narrowed := true }
def FrameSealsUptoSaid : Prop := frameSealsUptoRow.holds Tryd.pinned (OpenSpec.upto frameSealsSpec)

/-- 'sojournlaw09.FrameOpens', WHERE WHAT IT READS IS OF BULK AT MOST 1048576: true; the input reads as it did. -/
def frameOpensUptoRow : OpenClaim := { program := "ytjijlfohlmhlkaadoor", sum := "1dc156c869c0add8ffc79efe45df326635aab1037929221ffcb519a7ca8881b8", func := "sojourn/sojournlaw09.FrameOpens", spec := "frameOpens", inPlace := ["internal/reflectlite.ValueOf", "(internal/reflectlite.Value).Type", "(internal/reflectlite.Value).IsNil", "internal/reflectlite.TypeOf", "(internal/reflectlite.Value).Elem", "(internal/reflectlite.Value).Set"], unfollowed := true, recurses := true, named := ["sojourn/crc.low", "sojourn/crc.high", "errors.errorType"], apart := false, laid := [("sojourn/crc.low", laid_sojourn_crc_low), ("sojourn/crc.high", laid_sojourn_crc_high), ("errors.errorType", laid_errors_errorType)], narrowed := true }
def FrameOpensUptoSaid : Prop := frameOpensUptoRow.holds Tryd.pinned (OpenSpec.upto frameOpensSpec)

/-- 'sojournlaw09.FrameTurned', WHERE WHAT IT READS IS OF BULK AT MOST 1048576: true; the input reads as it did. -/
def frameTurnedUptoRow : OpenClaim := { program := "ytjijlfohlmhlkaadoor", sum := "1dc156c869c0add8ffc79efe45df326635aab1037929221ffcb519a7ca8881b8", func := "sojourn/sojournlaw09.FrameTurned", spec := "frameTurned", named := ["sojourn/crc.low", "sojourn/crc.high"], apart := false, laid := [("sojourn/crc.low", laid_sojourn_crc_low), ("sojourn/crc.high", laid_sojourn_crc_high)], narrowed := true }
def FrameTurnedUptoSaid : Prop := frameTurnedUptoRow.holds Tryd.pinned (OpenSpec.upto frameTurnedSpec)

/-- 'sojournlaw09.FrameLost', WHERE WHAT IT READS IS OF BULK AT MOST 1048576: true; the input reads as it did. -/
def frameLostUptoRow : OpenClaim := { program := "ytjijlfohlmhlkaadoor", sum := "1dc156c869c0add8ffc79efe45df326635aab1037929221ffcb519a7ca8881b8", func := "sojourn/sojournlaw09.FrameLost", spec := "frameLost", named := ["sojourn/crc.low", "sojourn/crc.high"], apart := false, laid := [("sojourn/crc.low", laid_sojourn_crc_low), ("sojourn/crc.high", laid_sojourn_crc_high)], narrowed := true }
def FrameLostUptoSaid : Prop := frameLostUptoRow.holds Tryd.pinned (OpenSpec.upto frameLostSpec)

/-- 'sojournlaw09.FrameFinds', WHERE WHAT IT READS IS OF BULK AT MOST 1048576: true; the input reads as it did. -/
def frameFindsUptoRow : OpenClaim := { program := "ytjijlfohlmhlkaadoor", sum := "1dc156c869c0add8ffc79efe45df326635aab1037929221ffcb519a7ca8881b8", func := "sojourn/sojournlaw09.FrameFinds", spec := "frameFinds", inPlace := ["internal/bytealg.IndexByteString"], named := ["sojourn/crc.low", "sojourn/crc.high"], apart := false, laid := [("sojourn/crc.low", laid_sojourn_crc_low), ("sojourn/crc.high", laid_sojourn_crc_high)], narrowed := true }
def FrameFindsUptoSaid : Prop := frameFindsUptoRow.holds Tryd.pinned (OpenSpec.upto frameFindsSpec)

/-- 'sojournlaw09.FrameRows', WHERE WHAT IT READS IS OF BULK AT MOST 1048576: true; the input reads as it did. -/
def frameRowsUptoRow : OpenClaim := { program := "ytjijlfohlmhlkaadoor", sum := "1dc156c869c0add8ffc79efe45df326635aab1037929221ffcb519a7ca8881b8", func := "sojourn/sojournlaw09.FrameRows", spec := "frameRows", inPlace := ["internal/bytealg.IndexByteString", "internal/reflectlite.ValueOf", "(internal/reflectlite.Value).Type", "(internal/reflectlite.Value).IsNil", "internal/reflectlite.TypeOf", "(internal/reflectlite.Value).Elem", "(internal/reflectlite.Value).Set"], unfollowed := true, recurses := true, named := ["sojourn/crc.low", "sojourn/crc.high", "errors.errorType"], apart := false, laid := [("sojourn/crc.low", laid_sojourn_crc_low), ("sojourn/crc.high", laid_sojourn_crc_high), ("errors.errorType", laid_errors_errorType)], narrowed := true }
def FrameRowsUptoSaid : Prop := frameRowsUptoRow.holds Tryd.pinned (OpenSpec.upto frameRowsSpec)

end Rows
end Go.Proofs.YtjijlfohlmhlkaaDoor
