/-
  DERIVED. GIVEN WITH THE SEED: THE CARDS: each row of YtdpjgflemddekaaGreatDoorRows.lean that lists a variable, with what it lists TIED to the program's text (the seventh form; the later family's looks); each row that meets fmt, with fmt's text TOLD by the authors' own Lean function (tested against real Go, not proved from fmt's source: count such statements apart). THE CARD IS WHAT COUNTS. Prove the row's statement (the work); the ties are given (YtdpjgflemddekaaGreatDoorTie.lean); close each card by the builder's one call (the guide's Derived/Test/ToyasCard.lean, 'card_holds'). Laid BY PROGRAM, IN A SANDBOX (cutbox-door.mjs). By AI agents, Wed Nov 11 2026. No macro, syntax, notation, axiom, sorry.
-/
import Derived.Test.YtdpjgflemddekaaGreatDoorRows
import GoSem.ClaimSeven
namespace Go.Proofs.YtdpjgflemddekaaGreatDoor
namespace Rows

/-- THE TIED CARD OF 'escheatlaw.Makes'. -/
def makesCard : Claim7 := { stood := { row := makesRow, standIns := [], harness := (true, "7ab0bb8c9e7d2a491f29ed377a1344a23797bf1552a9d4b914b43331520fd055"), looks := true }, kinds := [], alts := [], laidByText := true, laidKinds := [.data, .data], laidTests := true, laidLooks := .later }
def MakesCardSaid : Prop := Claim7.holds Tryz.pinned (.plain (OpenSpec.ofChange makesSpec)) makesCard

/-- THE TIED CARD OF 'escheatlaw.Takes'. -/
def takesCard : Claim7 := { stood := { row := takesRow, standIns := [], harness := (true, "7ab0bb8c9e7d2a491f29ed377a1344a23797bf1552a9d4b914b43331520fd055"), looks := true }, kinds := [], alts := [], laidByText := true, laidKinds := [.data, .data], laidTests := true, laidLooks := .later }
def TakesCardSaid : Prop := Claim7.holds Tryz.pinned (.plain (OpenSpec.ofChange takesSpec)) takesCard

/-- THE TIED CARD OF 'escheatlaw.Plays'. -/
def playsCard : Claim7 := { stood := { row := playsRow, standIns := [], harness := (true, "7ab0bb8c9e7d2a491f29ed377a1344a23797bf1552a9d4b914b43331520fd055"), looks := true }, kinds := [], alts := [], laidByText := true, laidKinds := [.data, .data], laidTests := true, laidLooks := .later }
def PlaysCardSaid : Prop := Claim7.holds Tryz.pinned (.plain (OpenSpec.ofChange playsSpec)) playsCard

/-- THE TIED CARD OF 'escheatlaw.All'. -/
def allCard : Claim7 := { stood := { row := allRow, standIns := [], harness := (true, "7ab0bb8c9e7d2a491f29ed377a1344a23797bf1552a9d4b914b43331520fd055"), looks := true }, kinds := [], alts := [], laidByText := true, laidKinds := [.data, .data], laidTests := true, laidLooks := .later }
def AllCardSaid : Prop := Claim7.holds Tryz.pinned (.plain (OpenSpec.ofChange allSpec)) allCard

/-- THE SECOND FORM's CARD OF 'escheatlaw.Makes'. -/
def makesUptoCard : Claim7 := { stood := { row := makesUptoRow, standIns := [], harness := (true, "7ab0bb8c9e7d2a491f29ed377a1344a23797bf1552a9d4b914b43331520fd055"), looks := true }, kinds := [], alts := [], laidByText := true, laidKinds := [.data, .data], laidTests := true, laidLooks := .later }
def MakesUptoCardSaid : Prop := Claim7.holds Tryz.pinned (.plain (OpenSpec.upto makesSpec)) makesUptoCard

/-- THE SECOND FORM's CARD OF 'escheatlaw.Takes'. -/
def takesUptoCard : Claim7 := { stood := { row := takesUptoRow, standIns := [], harness := (true, "7ab0bb8c9e7d2a491f29ed377a1344a23797bf1552a9d4b914b43331520fd055"), looks := true }, kinds := [], alts := [], laidByText := true, laidKinds := [.data, .data], laidTests := true, laidLooks := .later }
def TakesUptoCardSaid : Prop := Claim7.holds Tryz.pinned (.plain (OpenSpec.upto takesSpec)) takesUptoCard

/-- THE SECOND FORM's CARD OF 'escheatlaw.Plays'. -/
def playsUptoCard : Claim7 := { stood := { row := playsUptoRow, standIns := [], harness := (true, "7ab0bb8c9e7d2a491f29ed377a1344a23797bf1552a9d4b914b43331520fd055"), looks := true }, kinds := [], alts := [], laidByText := true, laidKinds := [.data, .data], laidTests := true, laidLooks := .later }
def PlaysUptoCardSaid : Prop := Claim7.holds Tryz.pinned (.plain (OpenSpec.upto playsSpec)) playsUptoCard

/-- THE SECOND FORM's CARD OF 'escheatlaw.All'. -/
def allUptoCard : Claim7 := { stood := { row := allUptoRow, standIns := [], harness := (true, "7ab0bb8c9e7d2a491f29ed377a1344a23797bf1552a9d4b914b43331520fd055"), looks := true }, kinds := [], alts := [], laidByText := true, laidKinds := [.data, .data], laidTests := true, laidLooks := .later }
def AllUptoCardSaid : Prop := Claim7.holds Tryz.pinned (.plain (OpenSpec.upto allSpec)) allUptoCard
end Rows
end Go.Proofs.YtdpjgflemddekaaGreatDoor
