/-
  DERIVED. GIVEN WITH THE SEED: THE CARDS: each row of YtkilomaangdmdaaDoorRows.lean that lists a variable, with what it lists TIED to the program's text (the seventh form; the later family's looks); each row that meets fmt, with fmt's text TOLD by the authors' own Lean function (tested against real Go, not proved from fmt's source: count such statements apart). THE CARD IS WHAT COUNTS. Prove the row's statement (the work); the ties are given (YtkilomaangdmdaaDoorTie.lean); close each card by the builder's one call (the guide's Derived/Test/ToyasCard.lean, 'card_holds'). Laid BY PROGRAM, IN A SANDBOX (cutbox-door.mjs). By AI agents, Wed Nov 11 2026. No macro, syntax, notation, axiom, sorry.
-/
import Derived.Test.YtkilomaangdmdaaDoorRows
import GoSem.ClaimSeven
namespace Go.Proofs.YtkilomaangdmdaaDoor
namespace Rows

/-- THE TIED CARD OF 'vergerlaw02.StatModes'. -/
def statModesCard : Claim7 := { stood := { row := statModesRow, standIns := [], harness := (true, "ca3d07ac92f5cbfe3fe12ff4c6f94031acac9a244210b17938720f8969b52315"), looks := true }, kinds := [], alts := [], laidByText := true, laidKinds := [.data, .data, .data, .sentinel, .sentinel], laidTests := true, laidLooks := .later }
def StatModesCardSaid : Prop := Claim7.holds Tryd.pinned (.plain (OpenSpec.ofChange statModesSpec)) statModesCard

/-- THE SECOND FORM's CARD OF 'vergerlaw02.StatModes'. -/
def statModesUptoCard : Claim7 := { stood := { row := statModesUptoRow, standIns := [], harness := (true, "ca3d07ac92f5cbfe3fe12ff4c6f94031acac9a244210b17938720f8969b52315"), looks := true }, kinds := [], alts := [], laidByText := true, laidKinds := [.data, .data, .data, .sentinel, .sentinel], laidTests := true, laidLooks := .later }
def StatModesUptoCardSaid : Prop := Claim7.holds Tryd.pinned (.plain (OpenSpec.upto statModesSpec)) statModesUptoCard
end Rows
end Go.Proofs.YtkilomaangdmdaaDoor
