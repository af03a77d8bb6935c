/-
  DERIVED. GIVEN WITH THE SEED: THE CARDS: each row of YtbkdecgfiiajnaaGreatDoorRows.lean that lists a variable, with what it lists TIED to the program's text (the seventh form; the later family's looks); each row that meets fmt, with fmt's text TOLD by the authors' own Lean function (tested against real Go, not proved from fmt's source: count such statements apart). THE CARD IS WHAT COUNTS. Prove the row's statement (the work); the ties are given (YtbkdecgfiiajnaaGreatDoorTie.lean); close each card by the builder's one call (the guide's Derived/Test/ToyasCard.lean, 'card_holds'). Laid BY PROGRAM, IN A SANDBOX (cutbox-door.mjs). By AI agents, Wed Nov 11 2026. No macro, syntax, notation, axiom, sorry.
-/
import Derived.Test.YtbkdecgfiiajnaaGreatDoorRows
import GoSem.ClaimSeven
namespace Go.Proofs.YtbkdecgfiiajnaaGreatDoor
namespace Rows

/-- THE TIED CARD OF 'scholiumlaw04.TermArrows'. -/
def termArrowsCard : Claim7 := { stood := { row := termArrowsRow, standIns := [], harness := (true, "fbe1a44882ca944214b20e34979676d74d72adb511f9f716b4a0dd4b3e38b292"), looks := false }, kinds := [], alts := [], laidByText := true, laidKinds := [.data, .pinned], laidTests := true, laidLooks := .later }
def TermArrowsCardSaid : Prop := Claim7.holds Tryz.pinned (.plain (OpenSpec.ofChange termArrowsSpec)) termArrowsCard

/-- THE TIED CARD OF 'scholiumlaw04.TermMakes'. -/
def termMakesCard : Claim7 := { stood := { row := termMakesRow, standIns := [], harness := (true, "fbe1a44882ca944214b20e34979676d74d72adb511f9f716b4a0dd4b3e38b292"), looks := false }, kinds := [], alts := [], laidByText := true, laidKinds := [.data, .pinned], laidTests := true, laidLooks := .later }
def TermMakesCardSaid : Prop := Claim7.holds Tryz.pinned (.plain (OpenSpec.ofChange termMakesSpec)) termMakesCard

/-- THE TIED CARD OF 'scholiumlaw04.TermRights'. -/
def termRightsCard : Claim7 := { stood := { row := termRightsRow, standIns := [], harness := (true, "fbe1a44882ca944214b20e34979676d74d72adb511f9f716b4a0dd4b3e38b292"), looks := false }, kinds := [], alts := [], laidByText := true, laidKinds := [.data, .pinned], laidTests := true, laidLooks := .later }
def TermRightsCardSaid : Prop := Claim7.holds Tryz.pinned (.plain (OpenSpec.ofChange termRightsSpec)) termRightsCard

/-- THE SECOND FORM's CARD OF 'scholiumlaw04.TermArrows'. -/
def termArrowsUptoCard : Claim7 := { stood := { row := termArrowsUptoRow, standIns := [], harness := (true, "fbe1a44882ca944214b20e34979676d74d72adb511f9f716b4a0dd4b3e38b292"), looks := false }, kinds := [], alts := [], laidByText := true, laidKinds := [.data, .pinned], laidTests := true, laidLooks := .later }
def TermArrowsUptoCardSaid : Prop := Claim7.holds Tryz.pinned (.plain (OpenSpec.upto termArrowsSpec)) termArrowsUptoCard

/-- THE SECOND FORM's CARD OF 'scholiumlaw04.TermMakes'. -/
def termMakesUptoCard : Claim7 := { stood := { row := termMakesUptoRow, standIns := [], harness := (true, "fbe1a44882ca944214b20e34979676d74d72adb511f9f716b4a0dd4b3e38b292"), looks := false }, kinds := [], alts := [], laidByText := true, laidKinds := [.data, .pinned], laidTests := true, laidLooks := .later }
def TermMakesUptoCardSaid : Prop := Claim7.holds Tryz.pinned (.plain (OpenSpec.upto termMakesSpec)) termMakesUptoCard

/-- THE SECOND FORM's CARD OF 'scholiumlaw04.TermRights'. -/
def termRightsUptoCard : Claim7 := { stood := { row := termRightsUptoRow, standIns := [], harness := (true, "fbe1a44882ca944214b20e34979676d74d72adb511f9f716b4a0dd4b3e38b292"), looks := false }, kinds := [], alts := [], laidByText := true, laidKinds := [.data, .pinned], laidTests := true, laidLooks := .later }
def TermRightsUptoCardSaid : Prop := Claim7.holds Tryz.pinned (.plain (OpenSpec.upto termRightsSpec)) termRightsUptoCard
end Rows
end Go.Proofs.YtbkdecgfiiajnaaGreatDoor
