/-
  DERIVED. GIVEN WITH THE SEED: THE CARDS: each row of YtahjmpfjidijaaaGreatDoorRows.lean that lists a variable, with what it lists TIED to the program's text (the seventh form; the later family's looks); each row that meets fmt, with fmt's text TOLD by the authors' own Lean function (tested against real Go, not proved from fmt's source: count such statements apart). THE CARD IS WHAT COUNTS. Prove the row's statement (the work); the ties are given (YtahjmpfjidijaaaGreatDoorTie.lean); close each card by the builder's one call (the guide's Derived/Test/ToyasCard.lean, 'card_holds'). Laid BY PROGRAM, IN A SANDBOX (cutbox-door.mjs). By AI agents, Wed Nov 11 2026. No macro, syntax, notation, axiom, sorry.
-/
import Derived.Test.YtahjmpfjidijaaaGreatDoorRows
import GoSem.ClaimSeven
namespace Go.Proofs.YtahjmpfjidijaaaGreatDoor
namespace Rows

/-- THE TIED CARD OF 'vergerlaw06.UsersPrints'. -/
def usersPrintsCard : Claim7 := { stood := { row := usersPrintsRow, standIns := [], harness := (true, "7ea61eee1fe3e61368b4f7b8660f8066c88096d0dfcf2b7d0467b50cab5eda54"), looks := true }, kinds := [], alts := [], laidByText := true, laidKinds := [.data, .pinned], laidTests := true, laidLooks := .later }
def UsersPrintsCardSaid : Prop := Claim7.holds Tryz.pinned (.plain (OpenSpec.ofChange usersPrintsSpec)) usersPrintsCard

/-- THE TIED CARD OF 'vergerlaw06.UsersReads'. -/
def usersReadsCard : Claim7 := { stood := { row := usersReadsRow, standIns := [], harness := (true, "7ea61eee1fe3e61368b4f7b8660f8066c88096d0dfcf2b7d0467b50cab5eda54"), looks := true }, kinds := [], alts := [], laidByText := true, laidKinds := [.data, .pinned], laidTests := true, laidLooks := .later }
def UsersReadsCardSaid : Prop := Claim7.holds Tryz.pinned (.plain (OpenSpec.ofChange usersReadsSpec)) usersReadsCard

/-- THE TIED CARD OF 'vergerlaw09.RulesWstats'. -/
def rulesWstatsCard : Claim7 := { stood := { row := rulesWstatsRow, standIns := [], harness := (true, "7ea61eee1fe3e61368b4f7b8660f8066c88096d0dfcf2b7d0467b50cab5eda54"), looks := true }, kinds := [], alts := [], laidByText := true, laidKinds := [.data, .pinned], laidTests := true, laidLooks := .later }
def RulesWstatsCardSaid : Prop := Claim7.holds Tryz.pinned (.plain (OpenSpec.ofChange rulesWstatsSpec)) rulesWstatsCard

/-- THE TIED CARD OF 'vergerlaw09.RulesEmpty'. -/
def rulesEmptyCard : Claim7 := { stood := { row := rulesEmptyRow, standIns := [], harness := (true, "7ea61eee1fe3e61368b4f7b8660f8066c88096d0dfcf2b7d0467b50cab5eda54"), looks := true }, kinds := [], alts := [], laidByText := true, laidKinds := [.data, .pinned], laidTests := true, laidLooks := .later }
def RulesEmptyCardSaid : Prop := Claim7.holds Tryz.pinned (.plain (OpenSpec.ofChange rulesEmptySpec)) rulesEmptyCard

/-- THE TIED CARD OF 'vergerlaw09.RulesKeeps'. -/
def rulesKeepsCard : Claim7 := { stood := { row := rulesKeepsRow, standIns := [], harness := (true, "7ea61eee1fe3e61368b4f7b8660f8066c88096d0dfcf2b7d0467b50cab5eda54"), looks := true }, kinds := [], alts := [], laidByText := true, laidKinds := [.data, .pinned], laidTests := true, laidLooks := .later }
def RulesKeepsCardSaid : Prop := Claim7.holds Tryz.pinned (.plain (OpenSpec.ofChange rulesKeepsSpec)) rulesKeepsCard

/-- THE SECOND FORM's CARD OF 'vergerlaw06.UsersPrints'. -/
def usersPrintsUptoCard : Claim7 := { stood := { row := usersPrintsUptoRow, standIns := [], harness := (true, "7ea61eee1fe3e61368b4f7b8660f8066c88096d0dfcf2b7d0467b50cab5eda54"), looks := true }, kinds := [], alts := [], laidByText := true, laidKinds := [.data, .pinned], laidTests := true, laidLooks := .later }
def UsersPrintsUptoCardSaid : Prop := Claim7.holds Tryz.pinned (.plain (OpenSpec.upto usersPrintsSpec)) usersPrintsUptoCard

/-- THE SECOND FORM's CARD OF 'vergerlaw06.UsersReads'. -/
def usersReadsUptoCard : Claim7 := { stood := { row := usersReadsUptoRow, standIns := [], harness := (true, "7ea61eee1fe3e61368b4f7b8660f8066c88096d0dfcf2b7d0467b50cab5eda54"), looks := true }, kinds := [], alts := [], laidByText := true, laidKinds := [.data, .pinned], laidTests := true, laidLooks := .later }
def UsersReadsUptoCardSaid : Prop := Claim7.holds Tryz.pinned (.plain (OpenSpec.upto usersReadsSpec)) usersReadsUptoCard

/-- THE SECOND FORM's CARD OF 'vergerlaw09.RulesWstats'. -/
def rulesWstatsUptoCard : Claim7 := { stood := { row := rulesWstatsUptoRow, standIns := [], harness := (true, "7ea61eee1fe3e61368b4f7b8660f8066c88096d0dfcf2b7d0467b50cab5eda54"), looks := true }, kinds := [], alts := [], laidByText := true, laidKinds := [.data, .pinned], laidTests := true, laidLooks := .later }
def RulesWstatsUptoCardSaid : Prop := Claim7.holds Tryz.pinned (.plain (OpenSpec.upto rulesWstatsSpec)) rulesWstatsUptoCard

/-- THE SECOND FORM's CARD OF 'vergerlaw09.RulesEmpty'. -/
def rulesEmptyUptoCard : Claim7 := { stood := { row := rulesEmptyUptoRow, standIns := [], harness := (true, "7ea61eee1fe3e61368b4f7b8660f8066c88096d0dfcf2b7d0467b50cab5eda54"), looks := true }, kinds := [], alts := [], laidByText := true, laidKinds := [.data, .pinned], laidTests := true, laidLooks := .later }
def RulesEmptyUptoCardSaid : Prop := Claim7.holds Tryz.pinned (.plain (OpenSpec.upto rulesEmptySpec)) rulesEmptyUptoCard

/-- THE SECOND FORM's CARD OF 'vergerlaw09.RulesKeeps'. -/
def rulesKeepsUptoCard : Claim7 := { stood := { row := rulesKeepsUptoRow, standIns := [], harness := (true, "7ea61eee1fe3e61368b4f7b8660f8066c88096d0dfcf2b7d0467b50cab5eda54"), looks := true }, kinds := [], alts := [], laidByText := true, laidKinds := [.data, .pinned], laidTests := true, laidLooks := .later }
def RulesKeepsUptoCardSaid : Prop := Claim7.holds Tryz.pinned (.plain (OpenSpec.upto rulesKeepsSpec)) rulesKeepsUptoCard
end Rows
end Go.Proofs.YtahjmpfjidijaaaGreatDoor
