/-
  DERIVED. GIVEN WITH THE SEED: THE CARDS: each row of YtnknaecfjkiibaaGreatDoorRows.lean that lists a variable, with what it lists TIED to the program's text (the seventh form; the later family's looks); each row that meets fmt, with fmt's text TOLD by the authors' own Lean function (tested against real Go, not proved from fmt's source: count such statements apart). THE CARD IS WHAT COUNTS. Prove the row's statement (the work); the ties are given (YtnknaecfjkiibaaGreatDoorTie.lean); close each card by the builder's one call (the guide's Derived/Test/ToyasCard.lean, 'card_holds'). Laid BY PROGRAM, IN A SANDBOX (cutbox-door.mjs). By AI agents, Wed Nov 11 2026. No macro, syntax, notation, axiom, sorry.
-/
import Derived.Test.YtnknaecfjkiibaaGreatDoorRows
import GoSem.ClaimSeven
namespace Go.Proofs.YtnknaecfjkiibaaGreatDoor
namespace Rows

/-- THE TIED CARD OF 'scholiumlaw01.NameAnswers'. -/
def nameAnswersCard : Claim7 := { stood := { row := nameAnswersRow, standIns := [], harness := (true, "966af2fb6e1c0ff594b9e1a08e12c556cf32a7b25837d17f2d8cb0b75f8ace2c"), looks := false }, kinds := [], alts := [], laidByText := true, laidKinds := [.data, .data, .data, .data, .pinned], laidTests := true, laidLooks := .later }
def NameAnswersCardSaid : Prop := Claim7.holds Tryz.pinned (.plain (OpenSpec.ofChange nameAnswersSpec)) nameAnswersCard

/-- THE SECOND FORM's CARD OF 'scholiumlaw01.NameAnswers'. -/
def nameAnswersUptoCard : Claim7 := { stood := { row := nameAnswersUptoRow, standIns := [], harness := (true, "966af2fb6e1c0ff594b9e1a08e12c556cf32a7b25837d17f2d8cb0b75f8ace2c"), looks := false }, kinds := [], alts := [], laidByText := true, laidKinds := [.data, .data, .data, .data, .pinned], laidTests := true, laidLooks := .later }
def NameAnswersUptoCardSaid : Prop := Claim7.holds Tryz.pinned (.plain (OpenSpec.upto nameAnswersSpec)) nameAnswersUptoCard
end Rows
end Go.Proofs.YtnknaecfjkiibaaGreatDoor
