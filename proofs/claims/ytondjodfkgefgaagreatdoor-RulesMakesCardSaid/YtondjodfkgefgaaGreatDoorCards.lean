/-
  DERIVED. GIVEN WITH THE SEED: THE CARDS: each row of YtondjodfkgefgaaGreatDoorRows.lean that lists a variable, with what it lists TIED to the program's text (the seventh form; the later family's looks); each row that meets fmt, with fmt's text TOLD by the authors' own Lean function (tested against real Go, not proved from fmt's source: count such statements apart). THE CARD IS WHAT COUNTS. Prove the row's statement (the work); the ties are given (YtondjodfkgefgaaGreatDoorTie.lean); close each card by the builder's one call (the guide's Derived/Test/ToyasCard.lean, 'card_holds'). Laid BY PROGRAM, IN A SANDBOX (cutbox-door.mjs). By AI agents, Wed Nov 11 2026. No macro, syntax, notation, axiom, sorry.
-/
import Derived.Test.YtondjodfkgefgaaGreatDoorRows
import GoSem.ClaimSeven
namespace Go.Proofs.YtondjodfkgefgaaGreatDoor
namespace Rows

/-- THE TIED CARD OF 'vergerlaw09.RulesRights'. -/
def rulesRightsCard : Claim7 := { stood := { row := rulesRightsRow, standIns := [], harness := (true, "2c8d9bbb1093542f37ba0be78f378d638feb49ebbdb19fe1c50f9e086917052c"), looks := true }, kinds := [], alts := [], laidByText := true, laidKinds := [.data, .pinned], laidTests := true, laidLooks := .later }
def RulesRightsCardSaid : Prop := Claim7.holds Tryz.pinned (.plain (OpenSpec.ofChange rulesRightsSpec)) rulesRightsCard

/-- THE TIED CARD OF 'vergerlaw09.RulesOpens'. -/
def rulesOpensCard : Claim7 := { stood := { row := rulesOpensRow, standIns := [], harness := (true, "2c8d9bbb1093542f37ba0be78f378d638feb49ebbdb19fe1c50f9e086917052c"), looks := true }, kinds := [], alts := [], laidByText := true, laidKinds := [.data, .pinned], laidTests := true, laidLooks := .later }
def RulesOpensCardSaid : Prop := Claim7.holds Tryz.pinned (.plain (OpenSpec.ofChange rulesOpensSpec)) rulesOpensCard

/-- THE TIED CARD OF 'vergerlaw09.RulesMakes'. -/
def rulesMakesCard : Claim7 := { stood := { row := rulesMakesRow, standIns := [], harness := (true, "2c8d9bbb1093542f37ba0be78f378d638feb49ebbdb19fe1c50f9e086917052c"), looks := true }, kinds := [], alts := [], laidByText := true, laidKinds := [.data, .pinned], laidTests := true, laidLooks := .later }
def RulesMakesCardSaid : Prop := Claim7.holds Tryz.pinned (.plain (OpenSpec.ofChange rulesMakesSpec)) rulesMakesCard

/-- THE TIED CARD OF 'vergerlaw09.RulesWstats'. -/
def rulesWstatsCard : Claim7 := { stood := { row := rulesWstatsRow, standIns := [], harness := (true, "2c8d9bbb1093542f37ba0be78f378d638feb49ebbdb19fe1c50f9e086917052c"), looks := true }, kinds := [], alts := [], laidByText := true, laidKinds := [.data, .pinned], laidTests := true, laidLooks := .later }
def RulesWstatsCardSaid : Prop := Claim7.holds Tryz.pinned (.plain (OpenSpec.ofChange rulesWstatsSpec)) rulesWstatsCard

/-- THE TIED CARD OF 'vergerlaw09.RulesEmpty'. -/
def rulesEmptyCard : Claim7 := { stood := { row := rulesEmptyRow, standIns := [], harness := (true, "2c8d9bbb1093542f37ba0be78f378d638feb49ebbdb19fe1c50f9e086917052c"), looks := true }, kinds := [], alts := [], laidByText := true, laidKinds := [.data, .pinned], laidTests := true, laidLooks := .later }
def RulesEmptyCardSaid : Prop := Claim7.holds Tryz.pinned (.plain (OpenSpec.ofChange rulesEmptySpec)) rulesEmptyCard

/-- THE TIED CARD OF 'vergerlaw09.RulesKeeps'. -/
def rulesKeepsCard : Claim7 := { stood := { row := rulesKeepsRow, standIns := [], harness := (true, "2c8d9bbb1093542f37ba0be78f378d638feb49ebbdb19fe1c50f9e086917052c"), looks := true }, kinds := [], alts := [], laidByText := true, laidKinds := [.data, .pinned], laidTests := true, laidLooks := .later }
def RulesKeepsCardSaid : Prop := Claim7.holds Tryz.pinned (.plain (OpenSpec.ofChange rulesKeepsSpec)) rulesKeepsCard

/-- THE SECOND FORM's CARD OF 'vergerlaw09.RulesRights'. -/
def rulesRightsUptoCard : Claim7 := { stood := { row := rulesRightsUptoRow, standIns := [], harness := (true, "2c8d9bbb1093542f37ba0be78f378d638feb49ebbdb19fe1c50f9e086917052c"), looks := true }, kinds := [], alts := [], laidByText := true, laidKinds := [.data, .pinned], laidTests := true, laidLooks := .later }
def RulesRightsUptoCardSaid : Prop := Claim7.holds Tryz.pinned (.plain (OpenSpec.upto rulesRightsSpec)) rulesRightsUptoCard

/-- THE SECOND FORM's CARD OF 'vergerlaw09.RulesOpens'. -/
def rulesOpensUptoCard : Claim7 := { stood := { row := rulesOpensUptoRow, standIns := [], harness := (true, "2c8d9bbb1093542f37ba0be78f378d638feb49ebbdb19fe1c50f9e086917052c"), looks := true }, kinds := [], alts := [], laidByText := true, laidKinds := [.data, .pinned], laidTests := true, laidLooks := .later }
def RulesOpensUptoCardSaid : Prop := Claim7.holds Tryz.pinned (.plain (OpenSpec.upto rulesOpensSpec)) rulesOpensUptoCard

/-- THE SECOND FORM's CARD OF 'vergerlaw09.RulesMakes'. -/
def rulesMakesUptoCard : Claim7 := { stood := { row := rulesMakesUptoRow, standIns := [], harness := (true, "2c8d9bbb1093542f37ba0be78f378d638feb49ebbdb19fe1c50f9e086917052c"), looks := true }, kinds := [], alts := [], laidByText := true, laidKinds := [.data, .pinned], laidTests := true, laidLooks := .later }
def RulesMakesUptoCardSaid : Prop := Claim7.holds Tryz.pinned (.plain (OpenSpec.upto rulesMakesSpec)) rulesMakesUptoCard

/-- THE SECOND FORM's CARD OF 'vergerlaw09.RulesWstats'. -/
def rulesWstatsUptoCard : Claim7 := { stood := { row := rulesWstatsUptoRow, standIns := [], harness := (true, "2c8d9bbb1093542f37ba0be78f378d638feb49ebbdb19fe1c50f9e086917052c"), looks := true }, kinds := [], alts := [], laidByText := true, laidKinds := [.data, .pinned], laidTests := true, laidLooks := .later }
def RulesWstatsUptoCardSaid : Prop := Claim7.holds Tryz.pinned (.plain (OpenSpec.upto rulesWstatsSpec)) rulesWstatsUptoCard

/-- THE SECOND FORM's CARD OF 'vergerlaw09.RulesEmpty'. -/
def rulesEmptyUptoCard : Claim7 := { stood := { row := rulesEmptyUptoRow, standIns := [], harness := (true, "2c8d9bbb1093542f37ba0be78f378d638feb49ebbdb19fe1c50f9e086917052c"), looks := true }, kinds := [], alts := [], laidByText := true, laidKinds := [.data, .pinned], laidTests := true, laidLooks := .later }
def RulesEmptyUptoCardSaid : Prop := Claim7.holds Tryz.pinned (.plain (OpenSpec.upto rulesEmptySpec)) rulesEmptyUptoCard

/-- THE SECOND FORM's CARD OF 'vergerlaw09.RulesKeeps'. -/
def rulesKeepsUptoCard : Claim7 := { stood := { row := rulesKeepsUptoRow, standIns := [], harness := (true, "2c8d9bbb1093542f37ba0be78f378d638feb49ebbdb19fe1c50f9e086917052c"), looks := true }, kinds := [], alts := [], laidByText := true, laidKinds := [.data, .pinned], laidTests := true, laidLooks := .later }
def RulesKeepsUptoCardSaid : Prop := Claim7.holds Tryz.pinned (.plain (OpenSpec.upto rulesKeepsSpec)) rulesKeepsUptoCard
end Rows
end Go.Proofs.YtondjodfkgefgaaGreatDoor
