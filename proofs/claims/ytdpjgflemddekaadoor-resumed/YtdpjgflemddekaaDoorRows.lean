/-
  NARROWER THAN 'FOR EVERY INPUT', by the rows' own cells (each row's printed sentence says how): Talk: laid · Apart: laid · Clean: laid · Within: laid · NoMore: laid · Revoked: laid · Resumed: laid.
  DERIVED. THE GIVEN ROWS OF THIS SEAT. 7 by the template 'for every input the law returns true; each argument reads behind the call as it read before'; 0 by the template 'total and deterministic' (their statements: YtdpjgflemddekaaDoorTotals.lean).
  GIVEN WITH THE SEED: the statements are not yours to turn. If you find one false, say at which input.
  Laid BY PROGRAM, IN A SANDBOX (cutbox-rows.mjs): the forced cells as the released guide's own fill.sh prints them over the translation ffccb7e1f03b3087… (all of the seat's roots in one cut). By AI agents, Wed Nov 11 2026. No macro, syntax, notation, axiom, sorry.
-/
import Derived.Test.YtdpjgflemddekaaDoorChecked
import GoSem.Claim
import GoSem.ClaimJoined
import GoSem.ClaimMapViews
import Derived.JoinedTies
import Derived.KernelRfl
namespace Go.Proofs.YtdpjgflemddekaaDoor
/- THE CELL 'sum', in the pinned program and in every row, IS THE sha256 OF THE DUMP (.gsa) THAT YtdpjgflemddekaaDoorProg.lean LOADS. Nothing in Lean hashes anything: it is a label: what it is worth is what the hold of that sum in a sandbox is worth. -/
noncomputable def Tryd.pinned : Pinned := { name := "ytdpjgflemddekaadoor", sum := "ffccb7e1f03b3087ac28695342cfcb501fdec0706ebf25b835f5c80b70475211", checked := Tryd.checked }
namespace Rows
def none {H : Type} : Left H := { results := [], args := [] }

/- WHAT THE LISTED PACKAGE-LEVEL VARIABLES READ AS WHEN THE CALL BEGINS. Each datum BY PROGRAM (the guide's laid-datum.mjs) off the statement by which the dump's own 'gosem.cut.vars' lays the variable. In a bare row this is a premise. The card (YtdpjgflemddekaaDoorCards.lean) ties it to the program's text. -/
def laid_escheat_escheat_bitsOf {H : Type} : DataW H := .agg [.agg [.lit (.int .i64 1), .lit (.int .i64 0)], .agg [.lit (.int .i64 4), .lit (.int .i64 10)], .agg [.lit (.int .i64 3), .lit (.int .i64 6)], .agg [.lit (.int .i64 2), .lit (.int .i64 2)], .agg [.lit (.int .i64 4), .lit (.int .i64 4)], .agg [.lit (.int .i64 2), .lit (.int .i64 6)]]
def laid_escheat_escheat_nowhere {H : Type} : DataW H := .agg [.lit (.int .i64 (-1)), .lit (.int .i64 (-1))]

/-- 'escheatkeep.Talk': WHATEVER THE INPUT: true; the input reads as it did. -/
def talkSpec : ChangeSpec := { name := "talk", fn := fun _ => fun
  | [d1, d2, d3] => { results := [.lit (.bool true)], args := [d1, d2, d3] }
  | _ => none }
def talkRow : OpenClaim := { program := "ytdpjgflemddekaadoor", sum := "ffccb7e1f03b3087ac28695342cfcb501fdec0706ebf25b835f5c80b70475211", func := "escheat/escheatkeep.Talk", spec := "talk", inPlace := ["slices.overlaps[escheat/escheat.slot]"], unfollowed := true, recurses := true, named := ["escheat/escheat.nowhere", "escheat/escheat.bitsOf"], plainKeys := false, apart := false, laid := [("escheat/escheat.bitsOf", laid_escheat_escheat_bitsOf), ("escheat/escheat.nowhere", laid_escheat_escheat_nowhere)] }
def TalkSaid : Prop := talkRow.holds Tryd.pinned (OpenSpec.ofChange talkSpec)

/-- ITS FALSE NEIGHBOUR: 'it returns false'. Refute it at one input. -/
def talkWrong : ChangeSpec := { name := "talk", fn := fun _ => fun
  | [d1, d2, d3] => { results := [.lit (.bool false)], args := [d1, d2, d3] }
  | _ => none }
def TalkWrongFalsely : Prop := talkRow.holds Tryd.pinned (OpenSpec.ofChange talkWrong)

/-- 'escheatkeep.Apart': WHATEVER THE INPUT: true; the input reads as it did. -/
def apartSpec : ChangeSpec := { name := "apart", fn := fun _ => fun
  | [d] => { results := [.lit (.bool true)], args := [d] }
  | _ => none }
def apartRow : OpenClaim := { program := "ytdpjgflemddekaadoor", sum := "ffccb7e1f03b3087ac28695342cfcb501fdec0706ebf25b835f5c80b70475211", func := "escheat/escheatkeep.Apart", spec := "apart", inPlace := ["slices.overlaps[escheat/escheat.slot]"], unfollowed := true, recurses := true, named := ["escheat/escheat.nowhere", "escheat/escheat.bitsOf"], plainKeys := false, apart := false, laid := [("escheat/escheat.bitsOf", laid_escheat_escheat_bitsOf), ("escheat/escheat.nowhere", laid_escheat_escheat_nowhere)] }
def ApartSaid : Prop := apartRow.holds Tryd.pinned (OpenSpec.ofChange apartSpec)

/-- ITS FALSE NEIGHBOUR: 'it returns false'. Refute it at one input. -/
def apartWrong : ChangeSpec := { name := "apart", fn := fun _ => fun
  | [d] => { results := [.lit (.bool false)], args := [d] }
  | _ => none }
def ApartWrongFalsely : Prop := apartRow.holds Tryd.pinned (OpenSpec.ofChange apartWrong)

/-- 'escheatkeep.Clean': WHATEVER THE INPUT: true; the input reads as it did. -/
def cleanSpec : ChangeSpec := { name := "clean", fn := fun _ => fun
  | [d] => { results := [.lit (.bool true)], args := [d] }
  | _ => none }
def cleanRow : OpenClaim := { program := "ytdpjgflemddekaadoor", sum := "ffccb7e1f03b3087ac28695342cfcb501fdec0706ebf25b835f5c80b70475211", func := "escheat/escheatkeep.Clean", spec := "clean", inPlace := ["slices.overlaps[escheat/escheat.slot]"], unfollowed := true, recurses := true, named := ["escheat/escheat.nowhere", "escheat/escheat.bitsOf"], plainKeys := false, apart := false, laid := [("escheat/escheat.bitsOf", laid_escheat_escheat_bitsOf), ("escheat/escheat.nowhere", laid_escheat_escheat_nowhere)] }
def CleanSaid : Prop := cleanRow.holds Tryd.pinned (OpenSpec.ofChange cleanSpec)

/-- ITS FALSE NEIGHBOUR: 'it returns false'. Refute it at one input. -/
def cleanWrong : ChangeSpec := { name := "clean", fn := fun _ => fun
  | [d] => { results := [.lit (.bool false)], args := [d] }
  | _ => none }
def CleanWrongFalsely : Prop := cleanRow.holds Tryd.pinned (OpenSpec.ofChange cleanWrong)

/-- 'escheatkeep.Within': WHATEVER THE INPUT: true; the input reads as it did. -/
def withinSpec : ChangeSpec := { name := "within", fn := fun _ => fun
  | [d] => { results := [.lit (.bool true)], args := [d] }
  | _ => none }
def withinRow : OpenClaim := { program := "ytdpjgflemddekaadoor", sum := "ffccb7e1f03b3087ac28695342cfcb501fdec0706ebf25b835f5c80b70475211", func := "escheat/escheatkeep.Within", spec := "within", inPlace := ["slices.overlaps[escheat/escheat.slot]"], unfollowed := true, recurses := true, named := ["escheat/escheat.nowhere", "escheat/escheat.bitsOf"], plainKeys := false, apart := false, laid := [("escheat/escheat.bitsOf", laid_escheat_escheat_bitsOf), ("escheat/escheat.nowhere", laid_escheat_escheat_nowhere)] }
def WithinSaid : Prop := withinRow.holds Tryd.pinned (OpenSpec.ofChange withinSpec)

/-- ITS FALSE NEIGHBOUR: 'it returns false'. Refute it at one input. -/
def withinWrong : ChangeSpec := { name := "within", fn := fun _ => fun
  | [d] => { results := [.lit (.bool false)], args := [d] }
  | _ => none }
def WithinWrongFalsely : Prop := withinRow.holds Tryd.pinned (OpenSpec.ofChange withinWrong)

/-- 'escheatkeep.NoMore': WHATEVER THE INPUT: true; the input reads as it did. -/
def noMoreSpec : ChangeSpec := { name := "noMore", fn := fun _ => fun
  | [d] => { results := [.lit (.bool true)], args := [d] }
  | _ => none }
def noMoreRow : OpenClaim := { program := "ytdpjgflemddekaadoor", sum := "ffccb7e1f03b3087ac28695342cfcb501fdec0706ebf25b835f5c80b70475211", func := "escheat/escheatkeep.NoMore", spec := "noMore", inPlace := ["slices.overlaps[escheat/escheat.slot]"], unfollowed := true, recurses := true, named := ["escheat/escheat.nowhere", "escheat/escheat.bitsOf"], plainKeys := false, apart := false, laid := [("escheat/escheat.bitsOf", laid_escheat_escheat_bitsOf), ("escheat/escheat.nowhere", laid_escheat_escheat_nowhere)] }
def NoMoreSaid : Prop := noMoreRow.holds Tryd.pinned (OpenSpec.ofChange noMoreSpec)

/-- ITS FALSE NEIGHBOUR: 'it returns false'. Refute it at one input. -/
def noMoreWrong : ChangeSpec := { name := "noMore", fn := fun _ => fun
  | [d] => { results := [.lit (.bool false)], args := [d] }
  | _ => none }
def NoMoreWrongFalsely : Prop := noMoreRow.holds Tryd.pinned (OpenSpec.ofChange noMoreWrong)

/-- 'escheatkeep.Revoked': WHATEVER THE INPUT: true; the input reads as it did. -/
def revokedSpec : ChangeSpec := { name := "revoked", fn := fun _ => fun
  | [d1, d2] => { results := [.lit (.bool true)], args := [d1, d2] }
  | _ => none }
def revokedRow : OpenClaim := { program := "ytdpjgflemddekaadoor", sum := "ffccb7e1f03b3087ac28695342cfcb501fdec0706ebf25b835f5c80b70475211", func := "escheat/escheatkeep.Revoked", spec := "revoked", inPlace := ["slices.overlaps[escheat/escheat.slot]"], unfollowed := true, recurses := true, named := ["escheat/escheat.nowhere", "escheat/escheat.bitsOf"], plainKeys := false, apart := false, laid := [("escheat/escheat.bitsOf", laid_escheat_escheat_bitsOf), ("escheat/escheat.nowhere", laid_escheat_escheat_nowhere)] }
def RevokedSaid : Prop := revokedRow.holds Tryd.pinned (OpenSpec.ofChange revokedSpec)

/-- ITS FALSE NEIGHBOUR: 'it returns false'. Refute it at one input. -/
def revokedWrong : ChangeSpec := { name := "revoked", fn := fun _ => fun
  | [d1, d2] => { results := [.lit (.bool false)], args := [d1, d2] }
  | _ => none }
def RevokedWrongFalsely : Prop := revokedRow.holds Tryd.pinned (OpenSpec.ofChange revokedWrong)

/-- 'escheatkeep.Resumed': WHATEVER THE INPUT: true; the input reads as it did. -/
def resumedSpec : ChangeSpec := { name := "resumed", fn := fun _ => fun
  | [d1, d2, d3] => { results := [.lit (.bool true)], args := [d1, d2, d3] }
  | _ => none }
def resumedRow : OpenClaim := { program := "ytdpjgflemddekaadoor", sum := "ffccb7e1f03b3087ac28695342cfcb501fdec0706ebf25b835f5c80b70475211", func := "escheat/escheatkeep.Resumed", spec := "resumed", inPlace := ["slices.overlaps[escheat/escheat.slot]"], unfollowed := true, recurses := true, named := ["escheat/escheat.nowhere", "escheat/escheat.bitsOf"], plainKeys := false, apart := false, laid := [("escheat/escheat.bitsOf", laid_escheat_escheat_bitsOf), ("escheat/escheat.nowhere", laid_escheat_escheat_nowhere)] }
def ResumedSaid : Prop := resumedRow.holds Tryd.pinned (OpenSpec.ofChange resumedSpec)

/-- ITS FALSE NEIGHBOUR: 'it returns false'. Refute it at one input. -/
def resumedWrong : ChangeSpec := { name := "resumed", fn := fun _ => fun
  | [d1, d2, d3] => { results := [.lit (.bool false)], args := [d1, d2, d3] }
  | _ => none }
def ResumedWrongFalsely : Prop := resumedRow.holds Tryd.pinned (OpenSpec.ofChange resumedWrong)

/- THE SECOND FORM. 'bulk': how many values and letters a reading holds, each counted each time it is reached (what is shared counts as often as it is met; a slice's spare places count too). A statement '..UptoSaid' is the law's where the arguments, and the package variables that the reading takes, are together of bulk at most 1048576: NARROWER than '..Said'. Prove '..Said' where nothing that the law and all that it calls make is longer than what came in: it says more and counts as full. Else prove '..UptoSaid'. A law counts once. -/
mutual
def uptoBulk {H : Type} : DataW H → Nat
  | .lit (.string bytes) => bytes.length + 1
  | .lit _ => 1
  | .nil => 1
  | .ptr d => uptoBulk d + 1
  | .slice elems spare => uptoBulkAll elems + uptoBulkAll spare + 1
  | .agg parts => uptoBulkAll parts + 1
  | .iface _ d => uptoBulk d + 1
  | .map entries => uptoBulkEntries entries + 1
  | .held _ => 1
def uptoBulkAll {H : Type} : List (DataW H) → Nat
  | [] => 0
  | d :: r => uptoBulk d + uptoBulkAll r
def uptoBulkEntries {H : Type} : List (Lit × DataW H) → Nat
  | [] => 0
  | x :: r => uptoBulkEntry x + uptoBulkEntries r
def uptoBulkEntry {H : Type} : Lit × DataW H → Nat
  | (.string bytes, d) => bytes.length + uptoBulk d + 1
  | (_, d) => uptoBulk d + 1
 end
def uptoSmall : (H : Type) → List (DataW H) → Bool := fun _ ds => decide (uptoBulkAll ds ≤ 1048576)
def OpenSpec.upto (s : _root_.Go.ChangeSpec) : _root_.Go.OpenSpec := { _root_.Go.OpenSpec.ofChange s with cond := some uptoSmall }

/-- 'escheatkeep.Talk', WHERE WHAT IT READS IS OF BULK AT MOST 1048576: true; the input reads as it did. -/
def talkUptoRow : OpenClaim := { program := "ytdpjgflemddekaadoor", sum := "ffccb7e1f03b3087ac28695342cfcb501fdec0706ebf25b835f5c80b70475211", func := "escheat/escheatkeep.Talk", spec := "talk", inPlace := ["slices.overlaps[escheat/escheat.slot]"], unfollowed := true, recurses := true, named := ["escheat/escheat.nowhere", "escheat/escheat.bitsOf"], plainKeys := false, apart := false, laid := [("escheat/escheat.bitsOf", laid_escheat_escheat_bitsOf), ("escheat/escheat.nowhere", laid_escheat_escheat_nowhere)], narrowed := true }
def TalkUptoSaid : Prop := talkUptoRow.holds Tryd.pinned (OpenSpec.upto talkSpec)

/-- 'escheatkeep.Apart', WHERE WHAT IT READS IS OF BULK AT MOST 1048576: true; the input reads as it did. -/
def apartUptoRow : OpenClaim := { program := "ytdpjgflemddekaadoor", sum := "ffccb7e1f03b3087ac28695342cfcb501fdec0706ebf25b835f5c80b70475211", func := "escheat/escheatkeep.Apart", spec := "apart", inPlace := ["slices.overlaps[escheat/escheat.slot]"], unfollowed := true, recurses := true, named := ["escheat/escheat.nowhere", "escheat/escheat.bitsOf"], plainKeys := false, apart := false, laid := [("escheat/escheat.bitsOf", laid_escheat_escheat_bitsOf), ("escheat/escheat.nowhere", laid_escheat_escheat_nowhere)], narrowed := true }
def ApartUptoSaid : Prop := apartUptoRow.holds Tryd.pinned (OpenSpec.upto apartSpec)

/-- 'escheatkeep.Clean', WHERE WHAT IT READS IS OF BULK AT MOST 1048576: true; the input reads as it did. -/
def cleanUptoRow : OpenClaim := { program := "ytdpjgflemddekaadoor", sum := "ffccb7e1f03b3087ac28695342cfcb501fdec0706ebf25b835f5c80b70475211", func := "escheat/escheatkeep.Clean", spec := "clean", inPlace := ["slices.overlaps[escheat/escheat.slot]"], unfollowed := true, recurses := true, named := ["escheat/escheat.nowhere", "escheat/escheat.bitsOf"], plainKeys := false, apart := false, laid := [("escheat/escheat.bitsOf", laid_escheat_escheat_bitsOf), ("escheat/escheat.nowhere", laid_escheat_escheat_nowhere)], narrowed := true }
def CleanUptoSaid : Prop := cleanUptoRow.holds Tryd.pinned (OpenSpec.upto cleanSpec)

/-- 'escheatkeep.Within', WHERE WHAT IT READS IS OF BULK AT MOST 1048576: true; the input reads as it did. -/
def withinUptoRow : OpenClaim := { program := "ytdpjgflemddekaadoor", sum := "ffccb7e1f03b3087ac28695342cfcb501fdec0706ebf25b835f5c80b70475211", func := "escheat/escheatkeep.Within", spec := "within", inPlace := ["slices.overlaps[escheat/escheat.slot]"], unfollowed := true, recurses := true, named := ["escheat/escheat.nowhere", "escheat/escheat.bitsOf"], plainKeys := false, apart := false, laid := [("escheat/escheat.bitsOf", laid_escheat_escheat_bitsOf), ("escheat/escheat.nowhere", laid_escheat_escheat_nowhere)], narrowed := true }
def WithinUptoSaid : Prop := withinUptoRow.holds Tryd.pinned (OpenSpec.upto withinSpec)

/-- 'escheatkeep.NoMore', WHERE WHAT IT READS IS OF BULK AT MOST 1048576: true; the input reads as it did. -/
def noMoreUptoRow : OpenClaim := { program := "ytdpjgflemddekaadoor", sum := "ffccb7e1f03b3087ac28695342cfcb501fdec0706ebf25b835f5c80b70475211", func := "escheat/escheatkeep.NoMore", spec := "noMore", inPlace := ["slices.overlaps[escheat/escheat.slot]"], unfollowed := true, recurses := true, named := ["escheat/escheat.nowhere", "escheat/escheat.bitsOf"], plainKeys := false, apart := false, laid := [("escheat/escheat.bitsOf", laid_escheat_escheat_bitsOf), ("escheat/escheat.nowhere", laid_escheat_escheat_nowhere)], narrowed := true }
def NoMoreUptoSaid : Prop := noMoreUptoRow.holds Tryd.pinned (OpenSpec.upto noMoreSpec)

/-- 'escheatkeep.Revoked', WHERE WHAT IT READS IS OF BULK AT MOST 1048576: true; the input reads as it did. -/
def revokedUptoRow : OpenClaim := { program := "ytdpjgflemddekaadoor", sum := "ffccb7e1f03b3087ac28695342cfcb501fdec0706ebf25b835f5c80b70475211", func := "escheat/escheatkeep.Revoked", spec := "revoked", inPlace := ["slices.overlaps[escheat/escheat.slot]"], unfollowed := true, recurses := true, named := ["escheat/escheat.nowhere", "escheat/escheat.bitsOf"], plainKeys := false, apart := false, laid := [("escheat/escheat.bitsOf", laid_escheat_escheat_bitsOf), ("escheat/escheat.nowhere", laid_escheat_escheat_nowhere)], narrowed := true }
def RevokedUptoSaid : Prop := revokedUptoRow.holds Tryd.pinned (OpenSpec.upto revokedSpec)

/-- 'escheatkeep.Resumed', WHERE WHAT IT READS IS OF BULK AT MOST 1048576: true; the input reads as it did. -/
def resumedUptoRow : OpenClaim := { program := "ytdpjgflemddekaadoor", sum := "ffccb7e1f03b3087ac28695342cfcb501fdec0706ebf25b835f5c80b70475211", func := "escheat/escheatkeep.Resumed", spec := "resumed", inPlace := ["slices.overlaps[escheat/escheat.slot]"], unfollowed := true, recurses := true, named := ["escheat/escheat.nowhere", "escheat/escheat.bitsOf"], plainKeys := false, apart := false, laid := [("escheat/escheat.bitsOf", laid_escheat_escheat_bitsOf), ("escheat/escheat.nowhere", laid_escheat_escheat_nowhere)], narrowed := true }
def ResumedUptoSaid : Prop := resumedUptoRow.holds Tryd.pinned (OpenSpec.upto resumedSpec)

end Rows
end Go.Proofs.YtdpjgflemddekaaDoor
