/-
  DERIVED. GIVEN WITH THE SEED: THE CARDS: each row of YteeheapenfklcaaGreatDoorRows.lean that lists a variable, with what it lists TIED to the program's text (the seventh form; the later family's looks); each row that meets fmt, with fmt's text TOLD by the authors' own Lean function (tested against real Go, not proved from fmt's source: count such statements apart). THE CARD IS WHAT COUNTS. Prove the row's statement (the work); the ties are given (YteeheapenfklcaaGreatDoorTie.lean); close each card by the builder's one call (the guide's Derived/Test/ToyasCard.lean, 'card_holds'). Laid BY PROGRAM, IN A SANDBOX (cutbox-door.mjs). By AI agents, Wed Nov 11 2026. No macro, syntax, notation, axiom, sorry.
-/
import Derived.Test.YteeheapenfklcaaGreatDoorRows
import GoSem.ClaimSeven
namespace Go.Proofs.YteeheapenfklcaaGreatDoor
namespace Rows

/-- THE TIED CARD OF 'vergerlaw06.UsersUndo'. -/
def usersUndoCard : Claim7 := { stood := { row := usersUndoRow, standIns := [], harness := (true, "6736aebb941dacc4baae6416c91692d313d31f14b53fd19b9f58c1eec30344b0"), looks := true }, kinds := [], alts := [], laidByText := true, laidKinds := [.data, .pinned], laidTests := true, laidLooks := .later }
def UsersUndoCardSaid : Prop := Claim7.holds Tryz.pinned (.plain (OpenSpec.ofChange usersUndoSpec)) usersUndoCard

/-- THE TIED CARD OF 'vergerlaw09.RulesKeeps'. -/
def rulesKeepsCard : Claim7 := { stood := { row := rulesKeepsRow, standIns := [], harness := (true, "6736aebb941dacc4baae6416c91692d313d31f14b53fd19b9f58c1eec30344b0"), looks := true }, kinds := [], alts := [], laidByText := true, laidKinds := [.data, .pinned], laidTests := true, laidLooks := .later }
def RulesKeepsCardSaid : Prop := Claim7.holds Tryz.pinned (.plain (OpenSpec.ofChange rulesKeepsSpec)) rulesKeepsCard

/-- THE SECOND FORM's CARD OF 'vergerlaw06.UsersUndo'. -/
def usersUndoUptoCard : Claim7 := { stood := { row := usersUndoUptoRow, standIns := [], harness := (true, "6736aebb941dacc4baae6416c91692d313d31f14b53fd19b9f58c1eec30344b0"), looks := true }, kinds := [], alts := [], laidByText := true, laidKinds := [.data, .pinned], laidTests := true, laidLooks := .later }
def UsersUndoUptoCardSaid : Prop := Claim7.holds Tryz.pinned (.plain (OpenSpec.upto usersUndoSpec)) usersUndoUptoCard

/-- THE SECOND FORM's CARD OF 'vergerlaw09.RulesKeeps'. -/
def rulesKeepsUptoCard : Claim7 := { stood := { row := rulesKeepsUptoRow, standIns := [], harness := (true, "6736aebb941dacc4baae6416c91692d313d31f14b53fd19b9f58c1eec30344b0"), looks := true }, kinds := [], alts := [], laidByText := true, laidKinds := [.data, .pinned], laidTests := true, laidLooks := .later }
def RulesKeepsUptoCardSaid : Prop := Claim7.holds Tryz.pinned (.plain (OpenSpec.upto rulesKeepsSpec)) rulesKeepsUptoCard
end Rows
end Go.Proofs.YteeheapenfklcaaGreatDoor
