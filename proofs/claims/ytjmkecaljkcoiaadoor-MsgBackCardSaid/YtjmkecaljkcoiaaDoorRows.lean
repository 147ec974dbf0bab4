/-
  NARROWER THAN 'FOR EVERY INPUT', by the rows' own cells (each row's printed sentence says how): MsgEncodes: laid · MsgBack: laid · MsgWhole: laid · MsgBeats: laid.
  DERIVED. THE GIVEN ROWS OF THIS SEAT. 4 by the template 'for every input the law returns true; each argument reads behind the call as it read before'; 0 by the template 'total and deterministic' (their statements: YtjmkecaljkcoiaaDoorTotals.lean).
  GIVEN WITH THE SEED: the statements are not yours to turn. If you find one false, say at which input.
  Laid BY PROGRAM, IN A SANDBOX (cutbox-rows.mjs): the forced cells as the released guide's own fill.sh prints them over the translation fde24bb5c7199700… (all of the seat's roots in one cut). By AI agents, Wed Nov 11 2026. No macro, syntax, notation, axiom, sorry.
-/
import Derived.Test.YtjmkecaljkcoiaaDoorChecked
import GoSem.Claim
import GoSem.ClaimJoined
import GoSem.ClaimMapViews
import Derived.JoinedTies
import Derived.KernelRfl
namespace Go.Proofs.YtjmkecaljkcoiaaDoor
/- THE CELL 'sum', in the pinned program and in every row, IS THE sha256 OF THE DUMP (.gsa) THAT YtjmkecaljkcoiaaDoorProg.lean LOADS. Nothing in Lean hashes anything: it is a label: what it is worth is what the hold of that sum in a sandbox is worth. -/
noncomputable def Tryd.pinned : Pinned := { name := "ytjmkecaljkcoiaadoor", sum := "fde24bb5c71997001510ccd4439e343901988484247b36ad4fe5a753a9c0c75d", checked := Tryd.checked }
namespace Rows
def none {H : Type} : Left H := { results := [], args := [] }

/- WHAT THE LISTED PACKAGE-LEVEL VARIABLES READ AS WHEN THE CALL BEGINS. Each datum BY PROGRAM (the guide's laid-datum.mjs) off the statement by which the dump's own 'gosem.cut.vars' lays the variable. In a bare row this is a premise. The card (YtjmkecaljkcoiaaDoorCards.lean) ties it to the program's text. -/
def laid_choragus_msg_kinds {H : Type} : DataW H := .agg [.agg [.lit (.string []), .lit (.int .u16 0)], .agg [.lit (.string [115, 117, 98, 109, 105, 116]), .lit (.int .u16 1075)], .agg [.lit (.string [99, 104, 111, 115, 101, 110]), .lit (.int .u16 292)], .agg [.lit (.string [110, 101, 101, 100]), .lit (.int .u16 4)], .agg [.lit (.string [112, 114, 101, 112, 97, 114, 101]), .lit (.int .u16 12)], .agg [.lit (.string [112, 114, 111, 109, 105, 115, 101]), .lit (.int .u16 76)], .agg [.lit (.string [97, 99, 99, 101, 112, 116]), .lit (.int .u16 268)], .agg [.lit (.string [97, 99, 99, 101, 112, 116, 101, 100]), .lit (.int .u16 12)], .agg [.lit (.string [110, 97, 99, 107]), .lit (.int .u16 12)], .agg [.lit (.string [102, 108, 117, 115, 104]), .lit (.int .u16 34)], .agg [.lit (.string [102, 108, 117, 115, 104, 101, 100]), .lit (.int .u16 51)], .agg [.lit (.string [106, 111, 105, 110]), .lit (.int .u16 33)], .agg [.lit (.string [119, 101, 108, 99, 111, 109, 101]), .lit (.int .u16 1540)], .agg [.lit (.string [108, 101, 97, 118, 101]), .lit (.int .u16 33)], .agg [.lit (.string [101, 120, 112, 101, 108]), .lit (.int .u16 2)]]

/-- 'choraguslaw10.MsgEncodes': WHATEVER THE INPUT: true; the input reads as it did. -/
def msgEncodesSpec : ChangeSpec := { name := "msgEncodes", fn := fun _ => fun
  | [d] => { results := [.lit (.bool true)], args := [d] }
  | _ => none }
def msgEncodesRow : OpenClaim := { program := "ytjmkecaljkcoiaadoor", sum := "fde24bb5c71997001510ccd4439e343901988484247b36ad4fe5a753a9c0c75d", func := "choragus/choraguslaw10.MsgEncodes", spec := "msgEncodes", unfollowed := true, recurses := true, named := ["choragus/msg.kinds"], plainKeys := false, apart := false, laid := [("choragus/msg.kinds", laid_choragus_msg_kinds)] }
def MsgEncodesSaid : Prop := msgEncodesRow.holds Tryd.pinned (OpenSpec.ofChange msgEncodesSpec)

/-- ITS FALSE NEIGHBOUR: 'it returns false'. Refute it at one input. -/
def msgEncodesWrong : ChangeSpec := { name := "msgEncodes", fn := fun _ => fun
  | [d] => { results := [.lit (.bool false)], args := [d] }
  | _ => none }
def MsgEncodesWrongFalsely : Prop := msgEncodesRow.holds Tryd.pinned (OpenSpec.ofChange msgEncodesWrong)

/-- 'choraguslaw10.MsgBack': WHATEVER THE INPUT: true; the input reads as it did. -/
def msgBackSpec : ChangeSpec := { name := "msgBack", fn := fun _ => fun
  | [d1, d2] => { results := [.lit (.bool true)], args := [d1, d2] }
  | _ => none }
def msgBackRow : OpenClaim := { program := "ytjmkecaljkcoiaadoor", sum := "fde24bb5c71997001510ccd4439e343901988484247b36ad4fe5a753a9c0c75d", func := "choragus/choraguslaw10.MsgBack", spec := "msgBack", unfollowed := true, recurses := true, named := ["choragus/msg.kinds"], plainKeys := false, apart := false, laid := [("choragus/msg.kinds", laid_choragus_msg_kinds)] }
def MsgBackSaid : Prop := msgBackRow.holds Tryd.pinned (OpenSpec.ofChange msgBackSpec)

/-- ITS FALSE NEIGHBOUR: 'it returns false'. Refute it at one input. -/
def msgBackWrong : ChangeSpec := { name := "msgBack", fn := fun _ => fun
  | [d1, d2] => { results := [.lit (.bool false)], args := [d1, d2] }
  | _ => none }
def MsgBackWrongFalsely : Prop := msgBackRow.holds Tryd.pinned (OpenSpec.ofChange msgBackWrong)

/-- 'choraguslaw10.MsgWhole': WHATEVER THE INPUT: true; the input reads as it did. -/
def msgWholeSpec : ChangeSpec := { name := "msgWhole", fn := fun _ => fun
  | [d1, d2, d3] => { results := [.lit (.bool true)], args := [d1, d2, d3] }
  | _ => none }
def msgWholeRow : OpenClaim := { program := "ytjmkecaljkcoiaadoor", sum := "fde24bb5c71997001510ccd4439e343901988484247b36ad4fe5a753a9c0c75d", func := "choragus/choraguslaw10.MsgWhole", spec := "msgWhole", unfollowed := true, recurses := true, named := ["choragus/msg.kinds"], plainKeys := false, apart := false, laid := [("choragus/msg.kinds", laid_choragus_msg_kinds)] }
def MsgWholeSaid : Prop := msgWholeRow.holds Tryd.pinned (OpenSpec.ofChange msgWholeSpec)

/-- ITS FALSE NEIGHBOUR: 'it returns false'. Refute it at one input. -/
def msgWholeWrong : ChangeSpec := { name := "msgWhole", fn := fun _ => fun
  | [d1, d2, d3] => { results := [.lit (.bool false)], args := [d1, d2, d3] }
  | _ => none }
def MsgWholeWrongFalsely : Prop := msgWholeRow.holds Tryd.pinned (OpenSpec.ofChange msgWholeWrong)

/-- 'choraguslaw10.MsgBeats': WHATEVER THE INPUT: true; the input reads as it did. -/
def msgBeatsSpec : ChangeSpec := { name := "msgBeats", fn := fun _ => fun
  | [d1, d2] => { results := [.lit (.bool true)], args := [d1, d2] }
  | _ => none }
def msgBeatsRow : OpenClaim := { program := "ytjmkecaljkcoiaadoor", sum := "fde24bb5c71997001510ccd4439e343901988484247b36ad4fe5a753a9c0c75d", func := "choragus/choraguslaw10.MsgBeats", spec := "msgBeats", unfollowed := true, recurses := true, named := ["choragus/msg.kinds"], plainKeys := false, apart := false, laid := [("choragus/msg.kinds", laid_choragus_msg_kinds)] }
def MsgBeatsSaid : Prop := msgBeatsRow.holds Tryd.pinned (OpenSpec.ofChange msgBeatsSpec)

/-- ITS FALSE NEIGHBOUR: 'it returns false'. Refute it at one input. -/
def msgBeatsWrong : ChangeSpec := { name := "msgBeats", fn := fun _ => fun
  | [d1, d2] => { results := [.lit (.bool false)], args := [d1, d2] }
  | _ => none }
def MsgBeatsWrongFalsely : Prop := msgBeatsRow.holds Tryd.pinned (OpenSpec.ofChange msgBeatsWrong)

/- THE SECOND FORM. 'bulk': how many values and letters a reading holds, each counted each time it is reached (what is shared counts as often as it is met; a slice's spare places count too). A statement '..UptoSaid' is the law's where the arguments, and the package variables that the reading takes, are together of bulk at most 1048576: NARROWER than '..Said'. Prove '..Said' where nothing that the law and all that it calls make is longer than what came in: it says more and counts as full. Else prove '..UptoSaid'. A law counts once. -/
mutual
def uptoBulk {H : Type} : DataW H → Nat
  | .lit (.string bytes) => bytes.length + 1
  | .lit _ => 1
  | .nil => 1
  | .ptr d => uptoBulk d + 1
  | .slice elems spare => uptoBulkAll elems + uptoBulkAll spare + 1
  | .agg parts => uptoBulkAll parts + 1
  | .iface _ d => uptoBulk d + 1
  | .map entries => uptoBulkEntries entries + 1
  | .held _ => 1
def uptoBulkAll {H : Type} : List (DataW H) → Nat
  | [] => 0
  | d :: r => uptoBulk d + uptoBulkAll r
def uptoBulkEntries {H : Type} : List (Lit × DataW H) → Nat
  | [] => 0
  | x :: r => uptoBulkEntry x + uptoBulkEntries r
def uptoBulkEntry {H : Type} : Lit × DataW H → Nat
  | (.string bytes, d) => bytes.length + uptoBulk d + 1
  | (_, d) => uptoBulk d + 1
 end
def uptoSmall : (H : Type) → List (DataW H) → Bool := fun _ ds => decide (uptoBulkAll ds ≤ 1048576)
def OpenSpec.upto (s : _root_.Go.ChangeSpec) : _root_.Go.OpenSpec := { _root_.Go.OpenSpec.ofChange s with cond := some uptoSmall }

/-- 'choraguslaw10.MsgEncodes', WHERE WHAT IT READS IS OF BULK AT MOST 1048576: true; the input reads as it did. -/
def msgEncodesUptoRow : OpenClaim := { program := "ytjmkecaljkcoiaadoor", sum := "fde24bb5c71997001510ccd4439e343901988484247b36ad4fe5a753a9c0c75d", func := "choragus/choraguslaw10.MsgEncodes", spec := "msgEncodes", unfollowed := true, recurses := true, named := ["choragus/msg.kinds"], plainKeys := false, apart := false, laid := [("choragus/msg.kinds", laid_choragus_msg_kinds)], narrowed := true }
def MsgEncodesUptoSaid : Prop := msgEncodesUptoRow.holds Tryd.pinned (OpenSpec.upto msgEncodesSpec)

/-- 'choraguslaw10.MsgBack', WHERE WHAT IT READS IS OF BULK AT MOST 1048576: true; the input reads as it did. -/
def msgBackUptoRow : OpenClaim := { program := "ytjmkecaljkcoiaadoor", sum := "fde24bb5c71997001510ccd4439e343901988484247b36ad4fe5a753a9c0c75d", func := "choragus/choraguslaw10.MsgBack", spec := "msgBack", unfollowed := true, recurses := true, named := ["choragus/msg.kinds"], plainKeys := false, apart := false, laid := [("choragus/msg.kinds", laid_choragus_msg_kinds)], narrowed := true }
def MsgBackUptoSaid : Prop := msgBackUptoRow.holds Tryd.pinned (OpenSpec.upto msgBackSpec)

/-- 'choraguslaw10.MsgWhole', WHERE WHAT IT READS IS OF BULK AT MOST 1048576: true; the input reads as it did. -/
def msgWholeUptoRow : OpenClaim := { program := "ytjmkecaljkcoiaadoor", sum := "fde24bb5c71997001510ccd4439e343901988484247b36ad4fe5a753a9c0c75d", func := "choragus/choraguslaw10.MsgWhole", spec := "msgWhole", unfollowed := true, recurses := true, named := ["choragus/msg.kinds"], plainKeys := false, apart := false, laid := [("choragus/msg.kinds", laid_choragus_msg_kinds)], narrowed := true }
def MsgWholeUptoSaid : Prop := msgWholeUptoRow.holds Tryd.pinned (OpenSpec.upto msgWholeSpec)

/-- 'choraguslaw10.MsgBeats', WHERE WHAT IT READS IS OF BULK AT MOST 1048576: true; the input reads as it did. -/
def msgBeatsUptoRow : OpenClaim := { program := "ytjmkecaljkcoiaadoor", sum := "fde24bb5c71997001510ccd4439e343901988484247b36ad4fe5a753a9c0c75d", func := "choragus/choraguslaw10.MsgBeats", spec := "msgBeats", unfollowed := true, recurses := true, named := ["choragus/msg.kinds"], plainKeys := false, apart := false, laid := [("choragus/msg.kinds", laid_choragus_msg_kinds)], narrowed := true }
def MsgBeatsUptoSaid : Prop := msgBeatsUptoRow.holds Tryd.pinned (OpenSpec.upto msgBeatsSpec)

end Rows
end Go.Proofs.YtjmkecaljkcoiaaDoor
