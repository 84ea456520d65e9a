/-
  DERIVED. GIVEN WITH THE SEED: THE CARDS: each row of YteebiemfhicgbaaGreatDoorRows.lean that lists a variable, with what it lists TIED to the program's text (the seventh form; the later family's looks); each row that meets fmt, with fmt's text TOLD by the authors' own Lean function (tested against real Go, not proved from fmt's source: count such statements apart). THE CARD IS WHAT COUNTS. Prove the row's statement (the work); the ties are given (YteebiemfhicgbaaGreatDoorTie.lean); close each card by the builder's one call (the guide's Derived/Test/ToyasCard.lean, 'card_holds'). Laid BY PROGRAM, IN A SANDBOX (cutbox-door.mjs). By AI agents, Wed Nov 11 2026. No macro, syntax, notation, axiom, sorry.
-/
import Derived.Test.YteebiemfhicgbaaGreatDoorRows
import GoSem.ClaimSeven
namespace Go.Proofs.YteebiemfhicgbaaGreatDoor
namespace Rows

/-- THE TIED CARD OF 'vergerlaw03.MsgNames'. -/
def msgNamesCard : Claim7 := { stood := { row := msgNamesRow, standIns := [], harness := (true, "0407f236e79f0f52dd79245c0bb89d9ef1e196379d881396a22d8fdc959cb308"), looks := true }, kinds := [], alts := [], laidByText := true, laidKinds := [.data, .data, .data, .sentinel, .sentinel], laidTests := true, laidLooks := .later }
def MsgNamesCardSaid : Prop := Claim7.holds Tryz.pinned (.plain (OpenSpec.ofChange msgNamesSpec)) msgNamesCard

/-- THE TIED CARD OF 'vergerlaw03.MsgKinds'. -/
def msgKindsCard : Claim7 := { stood := { row := msgKindsRow, standIns := [], harness := (true, "0407f236e79f0f52dd79245c0bb89d9ef1e196379d881396a22d8fdc959cb308"), looks := true }, kinds := [], alts := [], laidByText := true, laidKinds := [.data, .data, .data, .sentinel, .sentinel], laidTests := true, laidLooks := .later }
def MsgKindsCardSaid : Prop := Claim7.holds Tryz.pinned (.plain (OpenSpec.ofChange msgKindsSpec)) msgKindsCard

/-- THE TIED CARD OF 'vergerlaw03.MsgBack'. -/
def msgBackCard : Claim7 := { stood := { row := msgBackRow, standIns := [], harness := (true, "0407f236e79f0f52dd79245c0bb89d9ef1e196379d881396a22d8fdc959cb308"), looks := true }, kinds := [], alts := [], laidByText := true, laidKinds := [.data, .data, .data, .sentinel, .sentinel], laidTests := true, laidLooks := .later }
def MsgBackCardSaid : Prop := Claim7.holds Tryz.pinned (.plain (OpenSpec.ofChange msgBackSpec)) msgBackCard

/-- THE TIED CARD OF 'vergerlaw03.MsgOne'. -/
def msgOneCard : Claim7 := { stood := { row := msgOneRow, standIns := [], harness := (true, "0407f236e79f0f52dd79245c0bb89d9ef1e196379d881396a22d8fdc959cb308"), looks := true }, kinds := [], alts := [], laidByText := true, laidKinds := [.data, .data, .data, .sentinel, .sentinel], laidTests := true, laidLooks := .later }
def MsgOneCardSaid : Prop := Claim7.holds Tryz.pinned (.plain (OpenSpec.ofChange msgOneSpec)) msgOneCard

/-- THE TIED CARD OF 'vergerlaw03.MsgLine'. -/
def msgLineCard : Claim7 := { stood := { row := msgLineRow, standIns := [], harness := (true, "0407f236e79f0f52dd79245c0bb89d9ef1e196379d881396a22d8fdc959cb308"), looks := true }, kinds := [], alts := [], laidByText := true, laidKinds := [.data, .data, .data, .sentinel, .sentinel], laidTests := true, laidLooks := .later }
def MsgLineCardSaid : Prop := Claim7.holds Tryz.pinned (.plain (OpenSpec.ofChange msgLineSpec)) msgLineCard

/-- THE TIED CARD OF 'vergerlaw03.MsgApart'. -/
def msgApartCard : Claim7 := { stood := { row := msgApartRow, standIns := [], harness := (true, "0407f236e79f0f52dd79245c0bb89d9ef1e196379d881396a22d8fdc959cb308"), looks := true }, kinds := [], alts := [], laidByText := true, laidKinds := [.data, .data, .data, .sentinel, .sentinel], laidTests := true, laidLooks := .later }
def MsgApartCardSaid : Prop := Claim7.holds Tryz.pinned (.plain (OpenSpec.ofChange msgApartSpec)) msgApartCard

/-- THE SECOND FORM's CARD OF 'vergerlaw03.MsgNames'. -/
def msgNamesUptoCard : Claim7 := { stood := { row := msgNamesUptoRow, standIns := [], harness := (true, "0407f236e79f0f52dd79245c0bb89d9ef1e196379d881396a22d8fdc959cb308"), looks := true }, kinds := [], alts := [], laidByText := true, laidKinds := [.data, .data, .data, .sentinel, .sentinel], laidTests := true, laidLooks := .later }
def MsgNamesUptoCardSaid : Prop := Claim7.holds Tryz.pinned (.plain (OpenSpec.upto msgNamesSpec)) msgNamesUptoCard

/-- THE SECOND FORM's CARD OF 'vergerlaw03.MsgKinds'. -/
def msgKindsUptoCard : Claim7 := { stood := { row := msgKindsUptoRow, standIns := [], harness := (true, "0407f236e79f0f52dd79245c0bb89d9ef1e196379d881396a22d8fdc959cb308"), looks := true }, kinds := [], alts := [], laidByText := true, laidKinds := [.data, .data, .data, .sentinel, .sentinel], laidTests := true, laidLooks := .later }
def MsgKindsUptoCardSaid : Prop := Claim7.holds Tryz.pinned (.plain (OpenSpec.upto msgKindsSpec)) msgKindsUptoCard

/-- THE SECOND FORM's CARD OF 'vergerlaw03.MsgBack'. -/
def msgBackUptoCard : Claim7 := { stood := { row := msgBackUptoRow, standIns := [], harness := (true, "0407f236e79f0f52dd79245c0bb89d9ef1e196379d881396a22d8fdc959cb308"), looks := true }, kinds := [], alts := [], laidByText := true, laidKinds := [.data, .data, .data, .sentinel, .sentinel], laidTests := true, laidLooks := .later }
def MsgBackUptoCardSaid : Prop := Claim7.holds Tryz.pinned (.plain (OpenSpec.upto msgBackSpec)) msgBackUptoCard

/-- THE SECOND FORM's CARD OF 'vergerlaw03.MsgOne'. -/
def msgOneUptoCard : Claim7 := { stood := { row := msgOneUptoRow, standIns := [], harness := (true, "0407f236e79f0f52dd79245c0bb89d9ef1e196379d881396a22d8fdc959cb308"), looks := true }, kinds := [], alts := [], laidByText := true, laidKinds := [.data, .data, .data, .sentinel, .sentinel], laidTests := true, laidLooks := .later }
def MsgOneUptoCardSaid : Prop := Claim7.holds Tryz.pinned (.plain (OpenSpec.upto msgOneSpec)) msgOneUptoCard

/-- THE SECOND FORM's CARD OF 'vergerlaw03.MsgLine'. -/
def msgLineUptoCard : Claim7 := { stood := { row := msgLineUptoRow, standIns := [], harness := (true, "0407f236e79f0f52dd79245c0bb89d9ef1e196379d881396a22d8fdc959cb308"), looks := true }, kinds := [], alts := [], laidByText := true, laidKinds := [.data, .data, .data, .sentinel, .sentinel], laidTests := true, laidLooks := .later }
def MsgLineUptoCardSaid : Prop := Claim7.holds Tryz.pinned (.plain (OpenSpec.upto msgLineSpec)) msgLineUptoCard

/-- THE SECOND FORM's CARD OF 'vergerlaw03.MsgApart'. -/
def msgApartUptoCard : Claim7 := { stood := { row := msgApartUptoRow, standIns := [], harness := (true, "0407f236e79f0f52dd79245c0bb89d9ef1e196379d881396a22d8fdc959cb308"), looks := true }, kinds := [], alts := [], laidByText := true, laidKinds := [.data, .data, .data, .sentinel, .sentinel], laidTests := true, laidLooks := .later }
def MsgApartUptoCardSaid : Prop := Claim7.holds Tryz.pinned (.plain (OpenSpec.upto msgApartSpec)) msgApartUptoCard
end Rows
end Go.Proofs.YteebiemfhicgbaaGreatDoor
