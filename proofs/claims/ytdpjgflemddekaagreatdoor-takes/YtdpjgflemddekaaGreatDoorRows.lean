/-
  NARROWER THAN 'FOR EVERY INPUT', by the rows' own cells (each row's printed sentence says how): Makes: laid · Takes: laid · Plays: laid · All: laid.
  DERIVED. THE GIVEN ROWS OF THIS SEAT. 4 by the template 'for every input the law returns true; each argument reads behind the call as it read before'; 0 by the template 'total and deterministic' (their statements: YtdpjgflemddekaaGreatDoorTotals.lean).
  GIVEN WITH THE SEED: the statements are not yours to turn. If you find one false, say at which input.
  Laid BY PROGRAM, IN A SANDBOX (cutbox-rows.mjs): the forced cells as the released guide's own fill.sh prints them over the translation 90a78b499e782847… (all of the seat's roots in one cut). By AI agents, Wed Nov 11 2026. No macro, syntax, notation, axiom, sorry.
-/
import Derived.Test.YtdpjgflemddekaaGreatDoorChecked
import GoSem.Claim
import GoSem.ClaimJoined
import GoSem.ClaimMapViews
import Derived.JoinedTies
import Derived.KernelRfl
namespace Go.Proofs.YtdpjgflemddekaaGreatDoor
/- THE CELL 'sum', in the pinned program and in every row, IS THE sha256 OF THE DUMP (.gsa) THAT YtdpjgflemddekaaGreatDoorProg.lean LOADS. Nothing in Lean hashes anything: it is a label: what it is worth is what the hold of that sum in a sandbox is worth. -/
noncomputable def Tryz.pinned : Pinned := { name := "ytdpjgflemddekaagreatdoor", sum := "90a78b499e782847c39650276e33b392fc7f007d1b0392ed070b78ba2b6d3b0f", checked := Tryz.checked }
namespace Rows
def none {H : Type} : Left H := { results := [], args := [] }

/- WHAT THE LISTED PACKAGE-LEVEL VARIABLES READ AS WHEN THE CALL BEGINS. Each datum BY PROGRAM (the guide's laid-datum.mjs) off the statement by which the dump's own 'gosem.cut.vars' lays the variable. In a bare row this is a premise. The card (YtdpjgflemddekaaGreatDoorCards.lean) ties it to the program's text. -/
def laid_escheat_escheat_bitsOf {H : Type} : DataW H := .agg [.agg [.lit (.int .i64 1), .lit (.int .i64 0)], .agg [.lit (.int .i64 4), .lit (.int .i64 10)], .agg [.lit (.int .i64 3), .lit (.int .i64 6)], .agg [.lit (.int .i64 2), .lit (.int .i64 2)], .agg [.lit (.int .i64 4), .lit (.int .i64 4)], .agg [.lit (.int .i64 2), .lit (.int .i64 6)]]
def laid_escheat_escheat_nowhere {H : Type} : DataW H := .agg [.lit (.int .i64 (-1)), .lit (.int .i64 (-1))]

/-- 'escheatlaw.Makes': WHATEVER THE INPUT: true; the input reads as it did. -/
def makesSpec : ChangeSpec := { name := "makes", fn := fun _ => fun
  | [d] => { results := [.lit (.bool true)], args := [d] }
  | _ => none }
def makesRow : OpenClaim := { program := "ytdpjgflemddekaagreatdoor", sum := "90a78b499e782847c39650276e33b392fc7f007d1b0392ed070b78ba2b6d3b0f", func := "escheat/escheatlaw.Makes", spec := "makes", inPlace := ["slices.overlaps[escheat/escheat.slot]"], unfollowed := true, recurses := true, named := ["escheat/escheat.nowhere", "escheat/escheat.bitsOf"], plainKeys := false, apart := false, laid := [("escheat/escheat.bitsOf", laid_escheat_escheat_bitsOf), ("escheat/escheat.nowhere", laid_escheat_escheat_nowhere)] }
def MakesSaid : Prop := makesRow.holds Tryz.pinned (OpenSpec.ofChange makesSpec)

/-- ITS FALSE NEIGHBOUR: 'it returns false'. Refute it at one input. -/
def makesWrong : ChangeSpec := { name := "makes", fn := fun _ => fun
  | [d] => { results := [.lit (.bool false)], args := [d] }
  | _ => none }
def MakesWrongFalsely : Prop := makesRow.holds Tryz.pinned (OpenSpec.ofChange makesWrong)

/-- 'escheatlaw.Takes': WHATEVER THE INPUT: true; the input reads as it did. -/
def takesSpec : ChangeSpec := { name := "takes", fn := fun _ => fun
  | [d] => { results := [.lit (.bool true)], args := [d] }
  | _ => none }
def takesRow : OpenClaim := { program := "ytdpjgflemddekaagreatdoor", sum := "90a78b499e782847c39650276e33b392fc7f007d1b0392ed070b78ba2b6d3b0f", func := "escheat/escheatlaw.Takes", spec := "takes", inPlace := ["slices.overlaps[escheat/escheat.slot]"], unfollowed := true, recurses := true, named := ["escheat/escheat.nowhere", "escheat/escheat.bitsOf"], plainKeys := false, apart := false, laid := [("escheat/escheat.bitsOf", laid_escheat_escheat_bitsOf), ("escheat/escheat.nowhere", laid_escheat_escheat_nowhere)] }
def TakesSaid : Prop := takesRow.holds Tryz.pinned (OpenSpec.ofChange takesSpec)

/-- ITS FALSE NEIGHBOUR: 'it returns false'. Refute it at one input. -/
def takesWrong : ChangeSpec := { name := "takes", fn := fun _ => fun
  | [d] => { results := [.lit (.bool false)], args := [d] }
  | _ => none }
def TakesWrongFalsely : Prop := takesRow.holds Tryz.pinned (OpenSpec.ofChange takesWrong)

/-- 'escheatlaw.Plays': WHATEVER THE INPUT: true; the input reads as it did. -/
def playsSpec : ChangeSpec := { name := "plays", fn := fun _ => fun
  | [d] => { results := [.lit (.bool true)], args := [d] }
  | _ => none }
def playsRow : OpenClaim := { program := "ytdpjgflemddekaagreatdoor", sum := "90a78b499e782847c39650276e33b392fc7f007d1b0392ed070b78ba2b6d3b0f", func := "escheat/escheatlaw.Plays", spec := "plays", inPlace := ["slices.overlaps[escheat/escheat.slot]"], unfollowed := true, recurses := true, named := ["escheat/escheat.nowhere", "escheat/escheat.bitsOf"], plainKeys := false, apart := false, laid := [("escheat/escheat.bitsOf", laid_escheat_escheat_bitsOf), ("escheat/escheat.nowhere", laid_escheat_escheat_nowhere)] }
def PlaysSaid : Prop := playsRow.holds Tryz.pinned (OpenSpec.ofChange playsSpec)

/-- ITS FALSE NEIGHBOUR: 'it returns false'. Refute it at one input. -/
def playsWrong : ChangeSpec := { name := "plays", fn := fun _ => fun
  | [d] => { results := [.lit (.bool false)], args := [d] }
  | _ => none }
def PlaysWrongFalsely : Prop := playsRow.holds Tryz.pinned (OpenSpec.ofChange playsWrong)

/-- 'escheatlaw.All': WHATEVER THE INPUT: true; the input reads as it did. -/
def allSpec : ChangeSpec := { name := "all", fn := fun _ => fun
  | [d] => { results := [.lit (.bool true)], args := [d] }
  | _ => none }
def allRow : OpenClaim := { program := "ytdpjgflemddekaagreatdoor", sum := "90a78b499e782847c39650276e33b392fc7f007d1b0392ed070b78ba2b6d3b0f", func := "escheat/escheatlaw.All", spec := "all", inPlace := ["slices.overlaps[escheat/escheat.slot]"], unfollowed := true, recurses := true, named := ["escheat/escheat.nowhere", "escheat/escheat.bitsOf"], plainKeys := false, apart := false, laid := [("escheat/escheat.bitsOf", laid_escheat_escheat_bitsOf), ("escheat/escheat.nowhere", laid_escheat_escheat_nowhere)] }
def AllSaid : Prop := allRow.holds Tryz.pinned (OpenSpec.ofChange allSpec)

/-- ITS FALSE NEIGHBOUR: 'it returns false'. Refute it at one input. -/
def allWrong : ChangeSpec := { name := "all", fn := fun _ => fun
  | [d] => { results := [.lit (.bool false)], args := [d] }
  | _ => none }
def AllWrongFalsely : Prop := allRow.holds Tryz.pinned (OpenSpec.ofChange allWrong)

/- THE SECOND FORM. 'bulk': how many values and letters a reading holds, each counted each time it is reached (what is shared counts as often as it is met; a slice's spare places count too). A statement '..UptoSaid' is the law's where the arguments, and the package variables that the reading takes, are together of bulk at most 1048576: NARROWER than '..Said'. Prove '..Said' where nothing that the law and all that it calls make is longer than what came in: it says more and counts as full. Else prove '..UptoSaid'. A law counts once. -/
mutual
def uptoBulk {H : Type} : DataW H → Nat
  | .lit (.string bytes) => bytes.length + 1
  | .lit _ => 1
  | .nil => 1
  | .ptr d => uptoBulk d + 1
  | .slice elems spare => uptoBulkAll elems + uptoBulkAll spare + 1
  | .agg parts => uptoBulkAll parts + 1
  | .iface _ d => uptoBulk d + 1
  | .map entries => uptoBulkEntries entries + 1
  | .held _ => 1
def uptoBulkAll {H : Type} : List (DataW H) → Nat
  | [] => 0
  | d :: r => uptoBulk d + uptoBulkAll r
def uptoBulkEntries {H : Type} : List (Lit × DataW H) → Nat
  | [] => 0
  | x :: r => uptoBulkEntry x + uptoBulkEntries r
def uptoBulkEntry {H : Type} : Lit × DataW H → Nat
  | (.string bytes, d) => bytes.length + uptoBulk d + 1
  | (_, d) => uptoBulk d + 1
 end
def uptoSmall : (H : Type) → List (DataW H) → Bool := fun _ ds => decide (uptoBulkAll ds ≤ 1048576)
def OpenSpec.upto (s : _root_.Go.ChangeSpec) : _root_.Go.OpenSpec := { _root_.Go.OpenSpec.ofChange s with cond := some uptoSmall }

/-- 'escheatlaw.Makes', WHERE WHAT IT READS IS OF BULK AT MOST 1048576: true; the input reads as it did. -/
def makesUptoRow : OpenClaim := { program := "ytdpjgflemddekaagreatdoor", sum := "90a78b499e782847c39650276e33b392fc7f007d1b0392ed070b78ba2b6d3b0f", func := "escheat/escheatlaw.Makes", spec := "makes", inPlace := ["slices.overlaps[escheat/escheat.slot]"], unfollowed := true, recurses := true, named := ["escheat/escheat.nowhere", "escheat/escheat.bitsOf"], plainKeys := false, apart := false, laid := [("escheat/escheat.bitsOf", laid_escheat_escheat_bitsOf), ("escheat/escheat.nowhere", laid_escheat_escheat_nowhere)], narrowed := true }
def MakesUptoSaid : Prop := makesUptoRow.holds Tryz.pinned (OpenSpec.upto makesSpec)

/-- 'escheatlaw.Takes', WHERE WHAT IT READS IS OF BULK AT MOST 1048576: true; the input reads as it did. -/
def takesUptoRow : OpenClaim := { program := "ytdpjgflemddekaagreatdoor", sum := "90a78b499e782847c39650276e33b392fc7f007d1b0392ed070b78ba2b6d3b0f", func := "escheat/escheatlaw.Takes", spec := "takes", inPlace := ["slices.overlaps[escheat/escheat.slot]"], unfollowed := true, recurses := true, named := ["escheat/escheat.nowhere", "escheat/escheat.bitsOf"], plainKeys := false, apart := false, laid := [("escheat/escheat.bitsOf", laid_escheat_escheat_bitsOf), ("escheat/escheat.nowhere", laid_escheat_escheat_nowhere)], narrowed := true }
def TakesUptoSaid : Prop := takesUptoRow.holds Tryz.pinned (OpenSpec.upto takesSpec)

/-- 'escheatlaw.Plays', WHERE WHAT IT READS IS OF BULK AT MOST 1048576: true; the input reads as it did. -/
def playsUptoRow : OpenClaim := { program := "ytdpjgflemddekaagreatdoor", sum := "90a78b499e782847c39650276e33b392fc7f007d1b0392ed070b78ba2b6d3b0f", func := "escheat/escheatlaw.Plays", spec := "plays", inPlace := ["slices.overlaps[escheat/escheat.slot]"], unfollowed := true, recurses := true, named := ["escheat/escheat.nowhere", "escheat/escheat.bitsOf"], plainKeys := false, apart := false, laid := [("escheat/escheat.bitsOf", laid_escheat_escheat_bitsOf), ("escheat/escheat.nowhere", laid_escheat_escheat_nowhere)], narrowed := true }
def PlaysUptoSaid : Prop := playsUptoRow.holds Tryz.pinned (OpenSpec.upto playsSpec)

/-- 'escheatlaw.All', WHERE WHAT IT READS IS OF BULK AT MOST 1048576: true; the input reads as it did. -/
def allUptoRow : OpenClaim := { program := "ytdpjgflemddekaagreatdoor", sum := "90a78b499e782847c39650276e33b392fc7f007d1b0392ed070b78ba2b6d3b0f", func := "escheat/escheatlaw.All", spec := "all", inPlace := ["slices.overlaps[escheat/escheat.slot]"], unfollowed := true, recurses := true, named := ["escheat/escheat.nowhere", "escheat/escheat.bitsOf"], plainKeys := false, apart := false, laid := [("escheat/escheat.bitsOf", laid_escheat_escheat_bitsOf), ("escheat/escheat.nowhere", laid_escheat_escheat_nowhere)], narrowed := true }
def AllUptoSaid : Prop := allUptoRow.holds Tryz.pinned (OpenSpec.upto allSpec)

end Rows
end Go.Proofs.YtdpjgflemddekaaGreatDoor
