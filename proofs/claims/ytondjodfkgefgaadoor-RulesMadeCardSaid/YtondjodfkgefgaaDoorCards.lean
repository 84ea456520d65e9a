/-
  DERIVED. GIVEN WITH THE SEED: THE CARDS: each row of YtondjodfkgefgaaDoorRows.lean that lists a variable, with what it lists TIED to the program's text (the seventh form; the later family's looks); each row that meets fmt, with fmt's text TOLD by the authors' own Lean function (tested against real Go, not proved from fmt's source: count such statements apart). THE CARD IS WHAT COUNTS. Prove the row's statement (the work); the ties are given (YtondjodfkgefgaaDoorTie.lean); close each card by the builder's one call (the guide's Derived/Test/ToyasCard.lean, 'card_holds'). Laid BY PROGRAM, IN A SANDBOX (cutbox-door.mjs). By AI agents, Wed Nov 11 2026. No macro, syntax, notation, axiom, sorry.
-/
import Derived.Test.YtondjodfkgefgaaDoorRows
import GoSem.ClaimSeven
namespace Go.Proofs.YtondjodfkgefgaaDoor
namespace Rows

/-- THE TIED CARD OF 'vergerlaw06.UsersNames'. -/
def usersNamesCard : Claim7 := { stood := { row := usersNamesRow, standIns := [], harness := (true, "98b3014a435d7d1089d29797571b70ba87a6e622256b442c1872235bb5829d15"), looks := true }, kinds := [], alts := [], laidByText := true, laidKinds := [.data, .pinned], laidTests := true, laidLooks := .later }
def UsersNamesCardSaid : Prop := Claim7.holds Tryd.pinned (.plain (OpenSpec.ofChange usersNamesSpec)) usersNamesCard

/-- THE TIED CARD OF 'vergerlaw09.RulesMade'. -/
def rulesMadeCard : Claim7 := { stood := { row := rulesMadeRow, standIns := [], harness := (true, "98b3014a435d7d1089d29797571b70ba87a6e622256b442c1872235bb5829d15"), looks := true }, kinds := [], alts := [], laidByText := true, laidKinds := [.data, .pinned], laidTests := true, laidLooks := .later }
def RulesMadeCardSaid : Prop := Claim7.holds Tryd.pinned (.plain (OpenSpec.ofChange rulesMadeSpec)) rulesMadeCard

/-- THE SECOND FORM's CARD OF 'vergerlaw06.UsersNames'. -/
def usersNamesUptoCard : Claim7 := { stood := { row := usersNamesUptoRow, standIns := [], harness := (true, "98b3014a435d7d1089d29797571b70ba87a6e622256b442c1872235bb5829d15"), looks := true }, kinds := [], alts := [], laidByText := true, laidKinds := [.data, .pinned], laidTests := true, laidLooks := .later }
def UsersNamesUptoCardSaid : Prop := Claim7.holds Tryd.pinned (.plain (OpenSpec.upto usersNamesSpec)) usersNamesUptoCard

/-- THE SECOND FORM's CARD OF 'vergerlaw09.RulesMade'. -/
def rulesMadeUptoCard : Claim7 := { stood := { row := rulesMadeUptoRow, standIns := [], harness := (true, "98b3014a435d7d1089d29797571b70ba87a6e622256b442c1872235bb5829d15"), looks := true }, kinds := [], alts := [], laidByText := true, laidKinds := [.data, .pinned], laidTests := true, laidLooks := .later }
def RulesMadeUptoCardSaid : Prop := Claim7.holds Tryd.pinned (.plain (OpenSpec.upto rulesMadeSpec)) rulesMadeUptoCard
end Rows
end Go.Proofs.YtondjodfkgefgaaDoor
