/-
  DERIVED. GIVEN WITH THE SEED: THE CARDS: each row of YtdpjgflemddekaaDoorRows.lean that lists a variable, with what it lists TIED to the program's text (the seventh form; the later family's looks); each row that meets fmt, with fmt's text TOLD by the authors' own Lean function (tested against real Go, not proved from fmt's source: count such statements apart). THE CARD IS WHAT COUNTS. Prove the row's statement (the work); the ties are given (YtdpjgflemddekaaDoorTie.lean); close each card by the builder's one call (the guide's Derived/Test/ToyasCard.lean, 'card_holds'). Laid BY PROGRAM, IN A SANDBOX (cutbox-door.mjs). By AI agents, Wed Nov 11 2026. No macro, syntax, notation, axiom, sorry.
-/
import Derived.Test.YtdpjgflemddekaaDoorRows
import GoSem.ClaimSeven
namespace Go.Proofs.YtdpjgflemddekaaDoor
namespace Rows

/-- THE TIED CARD OF 'escheatkeep.Talk'. -/
def talkCard : Claim7 := { stood := { row := talkRow, standIns := [], harness := (true, "3df0c6e7c4bcbb8c14423df560214aae9e517d87be64a7b6eb7cf67e7f55f06f"), looks := true }, kinds := [], alts := [], laidByText := true, laidKinds := [.data, .data], laidTests := true, laidLooks := .later }
def TalkCardSaid : Prop := Claim7.holds Tryd.pinned (.plain (OpenSpec.ofChange talkSpec)) talkCard

/-- THE TIED CARD OF 'escheatkeep.Apart'. -/
def apartCard : Claim7 := { stood := { row := apartRow, standIns := [], harness := (true, "3df0c6e7c4bcbb8c14423df560214aae9e517d87be64a7b6eb7cf67e7f55f06f"), looks := true }, kinds := [], alts := [], laidByText := true, laidKinds := [.data, .data], laidTests := true, laidLooks := .later }
def ApartCardSaid : Prop := Claim7.holds Tryd.pinned (.plain (OpenSpec.ofChange apartSpec)) apartCard

/-- THE TIED CARD OF 'escheatkeep.Clean'. -/
def cleanCard : Claim7 := { stood := { row := cleanRow, standIns := [], harness := (true, "3df0c6e7c4bcbb8c14423df560214aae9e517d87be64a7b6eb7cf67e7f55f06f"), looks := true }, kinds := [], alts := [], laidByText := true, laidKinds := [.data, .data], laidTests := true, laidLooks := .later }
def CleanCardSaid : Prop := Claim7.holds Tryd.pinned (.plain (OpenSpec.ofChange cleanSpec)) cleanCard

/-- THE TIED CARD OF 'escheatkeep.Within'. -/
def withinCard : Claim7 := { stood := { row := withinRow, standIns := [], harness := (true, "3df0c6e7c4bcbb8c14423df560214aae9e517d87be64a7b6eb7cf67e7f55f06f"), looks := true }, kinds := [], alts := [], laidByText := true, laidKinds := [.data, .data], laidTests := true, laidLooks := .later }
def WithinCardSaid : Prop := Claim7.holds Tryd.pinned (.plain (OpenSpec.ofChange withinSpec)) withinCard

/-- THE TIED CARD OF 'escheatkeep.NoMore'. -/
def noMoreCard : Claim7 := { stood := { row := noMoreRow, standIns := [], harness := (true, "3df0c6e7c4bcbb8c14423df560214aae9e517d87be64a7b6eb7cf67e7f55f06f"), looks := true }, kinds := [], alts := [], laidByText := true, laidKinds := [.data, .data], laidTests := true, laidLooks := .later }
def NoMoreCardSaid : Prop := Claim7.holds Tryd.pinned (.plain (OpenSpec.ofChange noMoreSpec)) noMoreCard

/-- THE TIED CARD OF 'escheatkeep.Revoked'. -/
def revokedCard : Claim7 := { stood := { row := revokedRow, standIns := [], harness := (true, "3df0c6e7c4bcbb8c14423df560214aae9e517d87be64a7b6eb7cf67e7f55f06f"), looks := true }, kinds := [], alts := [], laidByText := true, laidKinds := [.data, .data], laidTests := true, laidLooks := .later }
def RevokedCardSaid : Prop := Claim7.holds Tryd.pinned (.plain (OpenSpec.ofChange revokedSpec)) revokedCard

/-- THE TIED CARD OF 'escheatkeep.Resumed'. -/
def resumedCard : Claim7 := { stood := { row := resumedRow, standIns := [], harness := (true, "3df0c6e7c4bcbb8c14423df560214aae9e517d87be64a7b6eb7cf67e7f55f06f"), looks := true }, kinds := [], alts := [], laidByText := true, laidKinds := [.data, .data], laidTests := true, laidLooks := .later }
def ResumedCardSaid : Prop := Claim7.holds Tryd.pinned (.plain (OpenSpec.ofChange resumedSpec)) resumedCard

/-- THE SECOND FORM's CARD OF 'escheatkeep.Talk'. -/
def talkUptoCard : Claim7 := { stood := { row := talkUptoRow, standIns := [], harness := (true, "3df0c6e7c4bcbb8c14423df560214aae9e517d87be64a7b6eb7cf67e7f55f06f"), looks := true }, kinds := [], alts := [], laidByText := true, laidKinds := [.data, .data], laidTests := true, laidLooks := .later }
def TalkUptoCardSaid : Prop := Claim7.holds Tryd.pinned (.plain (OpenSpec.upto talkSpec)) talkUptoCard

/-- THE SECOND FORM's CARD OF 'escheatkeep.Apart'. -/
def apartUptoCard : Claim7 := { stood := { row := apartUptoRow, standIns := [], harness := (true, "3df0c6e7c4bcbb8c14423df560214aae9e517d87be64a7b6eb7cf67e7f55f06f"), looks := true }, kinds := [], alts := [], laidByText := true, laidKinds := [.data, .data], laidTests := true, laidLooks := .later }
def ApartUptoCardSaid : Prop := Claim7.holds Tryd.pinned (.plain (OpenSpec.upto apartSpec)) apartUptoCard

/-- THE SECOND FORM's CARD OF 'escheatkeep.Clean'. -/
def cleanUptoCard : Claim7 := { stood := { row := cleanUptoRow, standIns := [], harness := (true, "3df0c6e7c4bcbb8c14423df560214aae9e517d87be64a7b6eb7cf67e7f55f06f"), looks := true }, kinds := [], alts := [], laidByText := true, laidKinds := [.data, .data], laidTests := true, laidLooks := .later }
def CleanUptoCardSaid : Prop := Claim7.holds Tryd.pinned (.plain (OpenSpec.upto cleanSpec)) cleanUptoCard

/-- THE SECOND FORM's CARD OF 'escheatkeep.Within'. -/
def withinUptoCard : Claim7 := { stood := { row := withinUptoRow, standIns := [], harness := (true, "3df0c6e7c4bcbb8c14423df560214aae9e517d87be64a7b6eb7cf67e7f55f06f"), looks := true }, kinds := [], alts := [], laidByText := true, laidKinds := [.data, .data], laidTests := true, laidLooks := .later }
def WithinUptoCardSaid : Prop := Claim7.holds Tryd.pinned (.plain (OpenSpec.upto withinSpec)) withinUptoCard

/-- THE SECOND FORM's CARD OF 'escheatkeep.NoMore'. -/
def noMoreUptoCard : Claim7 := { stood := { row := noMoreUptoRow, standIns := [], harness := (true, "3df0c6e7c4bcbb8c14423df560214aae9e517d87be64a7b6eb7cf67e7f55f06f"), looks := true }, kinds := [], alts := [], laidByText := true, laidKinds := [.data, .data], laidTests := true, laidLooks := .later }
def NoMoreUptoCardSaid : Prop := Claim7.holds Tryd.pinned (.plain (OpenSpec.upto noMoreSpec)) noMoreUptoCard

/-- THE SECOND FORM's CARD OF 'escheatkeep.Revoked'. -/
def revokedUptoCard : Claim7 := { stood := { row := revokedUptoRow, standIns := [], harness := (true, "3df0c6e7c4bcbb8c14423df560214aae9e517d87be64a7b6eb7cf67e7f55f06f"), looks := true }, kinds := [], alts := [], laidByText := true, laidKinds := [.data, .data], laidTests := true, laidLooks := .later }
def RevokedUptoCardSaid : Prop := Claim7.holds Tryd.pinned (.plain (OpenSpec.upto revokedSpec)) revokedUptoCard

/-- THE SECOND FORM's CARD OF 'escheatkeep.Resumed'. -/
def resumedUptoCard : Claim7 := { stood := { row := resumedUptoRow, standIns := [], harness := (true, "3df0c6e7c4bcbb8c14423df560214aae9e517d87be64a7b6eb7cf67e7f55f06f"), looks := true }, kinds := [], alts := [], laidByText := true, laidKinds := [.data, .data], laidTests := true, laidLooks := .later }
def ResumedUptoCardSaid : Prop := Claim7.holds Tryd.pinned (.plain (OpenSpec.upto resumedSpec)) resumedUptoCard
end Rows
end Go.Proofs.YtdpjgflemddekaaDoor
