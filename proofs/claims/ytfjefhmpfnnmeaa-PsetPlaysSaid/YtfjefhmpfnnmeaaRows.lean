/-
  No cell of these rows narrows 'for every input' (looked for: loops, veiled, ifaces, maps, wideKeys, modest, calm, conditions, laid).
  DERIVED. THE GIVEN ROWS OF THIS SEAT. 4 by the template 'for every input the law returns true; each argument reads behind the call as it read before'; 0 by the template 'total and deterministic' (their statements: YtfjefhmpfnnmeaaTotals.lean).
  GIVEN WITH THE SEED: the statements are not yours to turn. If you find one false, say at which input.
  Laid BY PROGRAM, IN A SANDBOX (cutbox-rows.mjs): the forced cells as the released guide's own fill.sh prints them over the translation 485d2ff25f15e664… (all of the seat's roots in one cut). By AI agents, Wed Nov 11 2026. No macro, syntax, notation, axiom, sorry.
-/
import Derived.Test.YtfjefhmpfnnmeaaChecked
import GoSem.Claim
import GoSem.ClaimJoined
import GoSem.ClaimMapViews
import Derived.JoinedTies
import Derived.KernelRfl
namespace Go.Proofs.Ytfjefhmpfnnmeaa
/- THE CELL 'sum', in the pinned program and in every row, IS THE sha256 OF THE DUMP (.gsa) THAT YtfjefhmpfnnmeaaProg.lean LOADS. Nothing in Lean hashes anything: it is a label: what it is worth is what the hold of that sum in a sandbox is worth. -/
noncomputable def Try.pinned : Pinned := { name := "ytfjefhmpfnnmeaa", sum := "485d2ff25f15e664edf569102f2de43426221e9e2dadada457f57fe15183b8a1", checked := Try.checked }
namespace Rows
def none {H : Type} : Left H := { results := [], args := [] }

/-- 'choraguslaw04.PsetPlays': WHATEVER THE INPUT: true; the input reads as it did. -/
def psetPlaysSpec : ChangeSpec := { name := "psetPlays", fn := fun _ => fun
  | [d1, d2] => { results := [.lit (.bool true)], args := [d1, d2] }
  | _ => none }
def psetPlaysRow : OpenClaim := { program := "ytfjefhmpfnnmeaa", sum := "485d2ff25f15e664edf569102f2de43426221e9e2dadada457f57fe15183b8a1", func := "choragus/choraguslaw04.PsetPlays", spec := "psetPlays", unfollowed := true, recurses := true, plainKeys := false, apart := false }
def PsetPlaysSaid : Prop := psetPlaysRow.holds Try.pinned (OpenSpec.ofChange psetPlaysSpec)

/-- ITS FALSE NEIGHBOUR: 'it returns false'. Refute it at one input. -/
def psetPlaysWrong : ChangeSpec := { name := "psetPlays", fn := fun _ => fun
  | [d1, d2] => { results := [.lit (.bool false)], args := [d1, d2] }
  | _ => none }
def PsetPlaysWrongFalsely : Prop := psetPlaysRow.holds Try.pinned (OpenSpec.ofChange psetPlaysWrong)

/-- 'choraguslaw04.PsetParts': WHATEVER THE INPUT: true; the input reads as it did. -/
def psetPartsSpec : ChangeSpec := { name := "psetParts", fn := fun _ => fun
  | [d1, d2] => { results := [.lit (.bool true)], args := [d1, d2] }
  | _ => none }
def psetPartsRow : OpenClaim := { program := "ytfjefhmpfnnmeaa", sum := "485d2ff25f15e664edf569102f2de43426221e9e2dadada457f57fe15183b8a1", func := "choragus/choraguslaw04.PsetParts", spec := "psetParts", unfollowed := true, recurses := true, plainKeys := false, apart := false }
def PsetPartsSaid : Prop := psetPartsRow.holds Try.pinned (OpenSpec.ofChange psetPartsSpec)

/-- ITS FALSE NEIGHBOUR: 'it returns false'. Refute it at one input. -/
def psetPartsWrong : ChangeSpec := { name := "psetParts", fn := fun _ => fun
  | [d1, d2] => { results := [.lit (.bool false)], args := [d1, d2] }
  | _ => none }
def PsetPartsWrongFalsely : Prop := psetPartsRow.holds Try.pinned (OpenSpec.ofChange psetPartsWrong)

/-- 'choraguslaw04.PsetOrder': WHATEVER THE INPUT: true; the input reads as it did. -/
def psetOrderSpec : ChangeSpec := { name := "psetOrder", fn := fun _ => fun
  | [d1, d2] => { results := [.lit (.bool true)], args := [d1, d2] }
  | _ => none }
def psetOrderRow : OpenClaim := { program := "ytfjefhmpfnnmeaa", sum := "485d2ff25f15e664edf569102f2de43426221e9e2dadada457f57fe15183b8a1", func := "choragus/choraguslaw04.PsetOrder", spec := "psetOrder", unfollowed := true, recurses := true, plainKeys := false, apart := false }
def PsetOrderSaid : Prop := psetOrderRow.holds Try.pinned (OpenSpec.ofChange psetOrderSpec)

/-- ITS FALSE NEIGHBOUR: 'it returns false'. Refute it at one input. -/
def psetOrderWrong : ChangeSpec := { name := "psetOrder", fn := fun _ => fun
  | [d1, d2] => { results := [.lit (.bool false)], args := [d1, d2] }
  | _ => none }
def PsetOrderWrongFalsely : Prop := psetOrderRow.holds Try.pinned (OpenSpec.ofChange psetOrderWrong)

/-- 'choraguslaw04.PsetNil': WHATEVER THE INPUT: true; the input reads as it did. -/
def psetNilSpec : ChangeSpec := { name := "psetNil", fn := fun _ => fun
  | [d1, d2] => { results := [.lit (.bool true)], args := [d1, d2] }
  | _ => none }
def psetNilRow : OpenClaim := { program := "ytfjefhmpfnnmeaa", sum := "485d2ff25f15e664edf569102f2de43426221e9e2dadada457f57fe15183b8a1", func := "choragus/choraguslaw04.PsetNil", spec := "psetNil", unfollowed := true, recurses := true, plainKeys := false, apart := false }
def PsetNilSaid : Prop := psetNilRow.holds Try.pinned (OpenSpec.ofChange psetNilSpec)

/-- ITS FALSE NEIGHBOUR: 'it returns false'. Refute it at one input. -/
def psetNilWrong : ChangeSpec := { name := "psetNil", fn := fun _ => fun
  | [d1, d2] => { results := [.lit (.bool false)], args := [d1, d2] }
  | _ => none }
def PsetNilWrongFalsely : Prop := psetNilRow.holds Try.pinned (OpenSpec.ofChange psetNilWrong)

/- THE SECOND FORM. 'bulk': how many values and letters a reading holds, each counted each time it is reached (what is shared counts as often as it is met; a slice's spare places count too). A statement '..UptoSaid' is the law's where the arguments, and the package variables that the reading takes, are together of bulk at most 1048576: NARROWER than '..Said'. Prove '..Said' where nothing that the law and all that it calls make is longer than what came in: it says more and counts as full. Else prove '..UptoSaid'. A law counts once. -/
mutual
def uptoBulk {H : Type} : DataW H → Nat
  | .lit (.string bytes) => bytes.length + 1
  | .lit _ => 1
  | .nil => 1
  | .ptr d => uptoBulk d + 1
  | .slice elems spare => uptoBulkAll elems + uptoBulkAll spare + 1
  | .agg parts => uptoBulkAll parts + 1
  | .iface _ d => uptoBulk d + 1
  | .map entries => uptoBulkEntries entries + 1
  | .held _ => 1
def uptoBulkAll {H : Type} : List (DataW H) → Nat
  | [] => 0
  | d :: r => uptoBulk d + uptoBulkAll r
def uptoBulkEntries {H : Type} : List (Lit × DataW H) → Nat
  | [] => 0
  | x :: r => uptoBulkEntry x + uptoBulkEntries r
def uptoBulkEntry {H : Type} : Lit × DataW H → Nat
  | (.string bytes, d) => bytes.length + uptoBulk d + 1
  | (_, d) => uptoBulk d + 1
 end
def uptoSmall : (H : Type) → List (DataW H) → Bool := fun _ ds => decide (uptoBulkAll ds ≤ 1048576)
def OpenSpec.upto (s : _root_.Go.ChangeSpec) : _root_.Go.OpenSpec := { _root_.Go.OpenSpec.ofChange s with cond := some uptoSmall }

/-- 'choraguslaw04.PsetPlays', WHERE WHAT IT READS IS OF BULK AT MOST 1048576: true; the input reads as it did. -/
def psetPlaysUptoRow : OpenClaim := { program := "ytfjefhmpfnnmeaa", sum := "485d2ff25f15e664edf569102f2de43426221e9e2dadada457f57fe15183b8a1", func := "choragus/choraguslaw04.PsetPlays", spec := "psetPlays", unfollowed := true, recurses := true, plainKeys := false, apart := false, narrowed := true }
def PsetPlaysUptoSaid : Prop := psetPlaysUptoRow.holds Try.pinned (OpenSpec.upto psetPlaysSpec)

/-- 'choraguslaw04.PsetParts', WHERE WHAT IT READS IS OF BULK AT MOST 1048576: true; the input reads as it did. -/
def psetPartsUptoRow : OpenClaim := { program := "ytfjefhmpfnnmeaa", sum := "485d2ff25f15e664edf569102f2de43426221e9e2dadada457f57fe15183b8a1", func := "choragus/choraguslaw04.PsetParts", spec := "psetParts", unfollowed := true, recurses := true, plainKeys := false, apart := false, narrowed := true }
def PsetPartsUptoSaid : Prop := psetPartsUptoRow.holds Try.pinned (OpenSpec.upto psetPartsSpec)

/-- 'choraguslaw04.PsetOrder', WHERE WHAT IT READS IS OF BULK AT MOST 1048576: true; the input reads as it did. -/
def psetOrderUptoRow : OpenClaim := { program := "ytfjefhmpfnnmeaa", sum := "485d2ff25f15e664edf569102f2de43426221e9e2dadada457f57fe15183b8a1", func := "choragus/choraguslaw04.PsetOrder", spec := "psetOrder", unfollowed := true, recurses := true, plainKeys := false, apart := false, narrowed := true }
def PsetOrderUptoSaid : Prop := psetOrderUptoRow.holds Try.pinned (OpenSpec.upto psetOrderSpec)

/-- 'choraguslaw04.PsetNil', WHERE WHAT IT READS IS OF BULK AT MOST 1048576: true; the input reads as it did. -/
def psetNilUptoRow : OpenClaim := { program := "ytfjefhmpfnnmeaa", sum := "485d2ff25f15e664edf569102f2de43426221e9e2dadada457f57fe15183b8a1", func := "choragus/choraguslaw04.PsetNil", spec := "psetNil", unfollowed := true, recurses := true, plainKeys := false, apart := false, narrowed := true }
def PsetNilUptoSaid : Prop := psetNilUptoRow.holds Try.pinned (OpenSpec.upto psetNilSpec)

end Rows
end Go.Proofs.Ytfjefhmpfnnmeaa
