/-
  DERIVED. GIVEN WITH THE SEED: THE CARDS: each row of YtedkeomaldhojaaDoorRows.lean that lists a variable, with what it lists TIED to the program's text (the seventh form; the later family's looks); each row that meets fmt, with fmt's text TOLD by the authors' own Lean function (tested against real Go, not proved from fmt's source: count such statements apart). THE CARD IS WHAT COUNTS. Prove the row's statement (the work); the ties are given (YtedkeomaldhojaaDoorTie.lean); close each card by the builder's one call (the guide's Derived/Test/ToyasCard.lean, 'card_holds'). Laid BY PROGRAM, IN A SANDBOX (cutbox-door.mjs). By AI agents, Wed Nov 11 2026. No macro, syntax, notation, axiom, sorry.
-/
import Derived.Test.YtedkeomaldhojaaDoorRows
import GoSem.ClaimSeven
namespace Go.Proofs.YtedkeomaldhojaaDoor
namespace Rows

/-- THE TIED CARD OF 'vergerlaw06.UsersNames'. -/
def usersNamesCard : Claim7 := { stood := { row := usersNamesRow, standIns := [], harness := (true, "fd4698036614cea5d7c029564d3923d30b57858f47d3124fd95f8d7bafeb73a4"), looks := true }, kinds := [], alts := [], laidByText := true, laidKinds := [.data, .pinned], laidTests := true, laidLooks := .later }
def UsersNamesCardSaid : Prop := Claim7.holds Tryd.pinned (.plain (OpenSpec.ofChange usersNamesSpec)) usersNamesCard

/-- THE TIED CARD OF 'vergerlaw09.RulesNames'. -/
def rulesNamesCard : Claim7 := { stood := { row := rulesNamesRow, standIns := [], harness := (true, "fd4698036614cea5d7c029564d3923d30b57858f47d3124fd95f8d7bafeb73a4"), looks := true }, kinds := [], alts := [], laidByText := true, laidKinds := [.data, .pinned], laidTests := true, laidLooks := .later }
def RulesNamesCardSaid : Prop := Claim7.holds Tryd.pinned (.plain (OpenSpec.ofChange rulesNamesSpec)) rulesNamesCard

/-- THE TIED CARD OF 'vergerlaw09.RulesModes'. -/
def rulesModesCard : Claim7 := { stood := { row := rulesModesRow, standIns := [], harness := (true, "fd4698036614cea5d7c029564d3923d30b57858f47d3124fd95f8d7bafeb73a4"), looks := true }, kinds := [], alts := [], laidByText := true, laidKinds := [.data, .pinned], laidTests := true, laidLooks := .later }
def RulesModesCardSaid : Prop := Claim7.holds Tryd.pinned (.plain (OpenSpec.ofChange rulesModesSpec)) rulesModesCard

/-- THE TIED CARD OF 'vergerlaw09.RulesClasses'. -/
def rulesClassesCard : Claim7 := { stood := { row := rulesClassesRow, standIns := [], harness := (true, "fd4698036614cea5d7c029564d3923d30b57858f47d3124fd95f8d7bafeb73a4"), looks := true }, kinds := [], alts := [], laidByText := true, laidKinds := [.data, .pinned], laidTests := true, laidLooks := .later }
def RulesClassesCardSaid : Prop := Claim7.holds Tryd.pinned (.plain (OpenSpec.ofChange rulesClassesSpec)) rulesClassesCard

/-- THE TIED CARD OF 'vergerlaw09.RulesMore'. -/
def rulesMoreCard : Claim7 := { stood := { row := rulesMoreRow, standIns := [], harness := (true, "fd4698036614cea5d7c029564d3923d30b57858f47d3124fd95f8d7bafeb73a4"), looks := true }, kinds := [], alts := [], laidByText := true, laidKinds := [.data, .pinned], laidTests := true, laidLooks := .later }
def RulesMoreCardSaid : Prop := Claim7.holds Tryd.pinned (.plain (OpenSpec.ofChange rulesMoreSpec)) rulesMoreCard

/-- THE TIED CARD OF 'vergerlaw09.RulesMade'. -/
def rulesMadeCard : Claim7 := { stood := { row := rulesMadeRow, standIns := [], harness := (true, "fd4698036614cea5d7c029564d3923d30b57858f47d3124fd95f8d7bafeb73a4"), looks := true }, kinds := [], alts := [], laidByText := true, laidKinds := [.data, .pinned], laidTests := true, laidLooks := .later }
def RulesMadeCardSaid : Prop := Claim7.holds Tryd.pinned (.plain (OpenSpec.ofChange rulesMadeSpec)) rulesMadeCard

/-- THE SECOND FORM's CARD OF 'vergerlaw06.UsersNames'. -/
def usersNamesUptoCard : Claim7 := { stood := { row := usersNamesUptoRow, standIns := [], harness := (true, "fd4698036614cea5d7c029564d3923d30b57858f47d3124fd95f8d7bafeb73a4"), looks := true }, kinds := [], alts := [], laidByText := true, laidKinds := [.data, .pinned], laidTests := true, laidLooks := .later }
def UsersNamesUptoCardSaid : Prop := Claim7.holds Tryd.pinned (.plain (OpenSpec.upto usersNamesSpec)) usersNamesUptoCard

/-- THE SECOND FORM's CARD OF 'vergerlaw09.RulesNames'. -/
def rulesNamesUptoCard : Claim7 := { stood := { row := rulesNamesUptoRow, standIns := [], harness := (true, "fd4698036614cea5d7c029564d3923d30b57858f47d3124fd95f8d7bafeb73a4"), looks := true }, kinds := [], alts := [], laidByText := true, laidKinds := [.data, .pinned], laidTests := true, laidLooks := .later }
def RulesNamesUptoCardSaid : Prop := Claim7.holds Tryd.pinned (.plain (OpenSpec.upto rulesNamesSpec)) rulesNamesUptoCard

/-- THE SECOND FORM's CARD OF 'vergerlaw09.RulesModes'. -/
def rulesModesUptoCard : Claim7 := { stood := { row := rulesModesUptoRow, standIns := [], harness := (true, "fd4698036614cea5d7c029564d3923d30b57858f47d3124fd95f8d7bafeb73a4"), looks := true }, kinds := [], alts := [], laidByText := true, laidKinds := [.data, .pinned], laidTests := true, laidLooks := .later }
def RulesModesUptoCardSaid : Prop := Claim7.holds Tryd.pinned (.plain (OpenSpec.upto rulesModesSpec)) rulesModesUptoCard

/-- THE SECOND FORM's CARD OF 'vergerlaw09.RulesClasses'. -/
def rulesClassesUptoCard : Claim7 := { stood := { row := rulesClassesUptoRow, standIns := [], harness := (true, "fd4698036614cea5d7c029564d3923d30b57858f47d3124fd95f8d7bafeb73a4"), looks := true }, kinds := [], alts := [], laidByText := true, laidKinds := [.data, .pinned], laidTests := true, laidLooks := .later }
def RulesClassesUptoCardSaid : Prop := Claim7.holds Tryd.pinned (.plain (OpenSpec.upto rulesClassesSpec)) rulesClassesUptoCard

/-- THE SECOND FORM's CARD OF 'vergerlaw09.RulesMore'. -/
def rulesMoreUptoCard : Claim7 := { stood := { row := rulesMoreUptoRow, standIns := [], harness := (true, "fd4698036614cea5d7c029564d3923d30b57858f47d3124fd95f8d7bafeb73a4"), looks := true }, kinds := [], alts := [], laidByText := true, laidKinds := [.data, .pinned], laidTests := true, laidLooks := .later }
def RulesMoreUptoCardSaid : Prop := Claim7.holds Tryd.pinned (.plain (OpenSpec.upto rulesMoreSpec)) rulesMoreUptoCard

/-- THE SECOND FORM's CARD OF 'vergerlaw09.RulesMade'. -/
def rulesMadeUptoCard : Claim7 := { stood := { row := rulesMadeUptoRow, standIns := [], harness := (true, "fd4698036614cea5d7c029564d3923d30b57858f47d3124fd95f8d7bafeb73a4"), looks := true }, kinds := [], alts := [], laidByText := true, laidKinds := [.data, .pinned], laidTests := true, laidLooks := .later }
def RulesMadeUptoCardSaid : Prop := Claim7.holds Tryd.pinned (.plain (OpenSpec.upto rulesMadeSpec)) rulesMadeUptoCard
end Rows
end Go.Proofs.YtedkeomaldhojaaDoor
