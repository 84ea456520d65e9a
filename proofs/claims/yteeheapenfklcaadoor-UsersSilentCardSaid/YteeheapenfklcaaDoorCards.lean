/-
  DERIVED. GIVEN WITH THE SEED: THE CARDS: each row of YteeheapenfklcaaDoorRows.lean that lists a variable, with what it lists TIED to the program's text (the seventh form; the later family's looks); each row that meets fmt, with fmt's text TOLD by the authors' own Lean function (tested against real Go, not proved from fmt's source: count such statements apart). THE CARD IS WHAT COUNTS. Prove the row's statement (the work); the ties are given (YteeheapenfklcaaDoorTie.lean); close each card by the builder's one call (the guide's Derived/Test/ToyasCard.lean, 'card_holds'). Laid BY PROGRAM, IN A SANDBOX (cutbox-door.mjs). By AI agents, Wed Nov 11 2026. No macro, syntax, notation, axiom, sorry.
-/
import Derived.Test.YteeheapenfklcaaDoorRows
import GoSem.ClaimSeven
namespace Go.Proofs.YteeheapenfklcaaDoor
namespace Rows

/-- THE TIED CARD OF 'vergerlaw06.UsersBack'. -/
def usersBackCard : Claim7 := { stood := { row := usersBackRow, standIns := [], harness := (true, "d500a2bb7cbb477c95aecde2a6579f2b7f09567bbc3cdf832e28c20804690ee2"), looks := true }, kinds := [], alts := [], laidByText := true, laidKinds := [.data, .pinned], laidTests := true, laidLooks := .later }
def UsersBackCardSaid : Prop := Claim7.holds Tryd.pinned (.plain (OpenSpec.ofChange usersBackSpec)) usersBackCard

/-- THE TIED CARD OF 'vergerlaw06.UsersGroups'. -/
def usersGroupsCard : Claim7 := { stood := { row := usersGroupsRow, standIns := [], harness := (true, "d500a2bb7cbb477c95aecde2a6579f2b7f09567bbc3cdf832e28c20804690ee2"), looks := true }, kinds := [], alts := [], laidByText := true, laidKinds := [.data, .pinned], laidTests := true, laidLooks := .later }
def UsersGroupsCardSaid : Prop := Claim7.holds Tryd.pinned (.plain (OpenSpec.ofChange usersGroupsSpec)) usersGroupsCard

/-- THE TIED CARD OF 'vergerlaw06.UsersOrder'. -/
def usersOrderCard : Claim7 := { stood := { row := usersOrderRow, standIns := [], harness := (true, "d500a2bb7cbb477c95aecde2a6579f2b7f09567bbc3cdf832e28c20804690ee2"), looks := true }, kinds := [], alts := [], laidByText := true, laidKinds := [.data, .pinned], laidTests := true, laidLooks := .later }
def UsersOrderCardSaid : Prop := Claim7.holds Tryd.pinned (.plain (OpenSpec.ofChange usersOrderSpec)) usersOrderCard

/-- THE TIED CARD OF 'vergerlaw06.UsersSilent'. -/
def usersSilentCard : Claim7 := { stood := { row := usersSilentRow, standIns := [], harness := (true, "d500a2bb7cbb477c95aecde2a6579f2b7f09567bbc3cdf832e28c20804690ee2"), looks := true }, kinds := [], alts := [], laidByText := true, laidKinds := [.data, .pinned], laidTests := true, laidLooks := .later }
def UsersSilentCardSaid : Prop := Claim7.holds Tryd.pinned (.plain (OpenSpec.ofChange usersSilentSpec)) usersSilentCard

/-- THE SECOND FORM's CARD OF 'vergerlaw06.UsersBack'. -/
def usersBackUptoCard : Claim7 := { stood := { row := usersBackUptoRow, standIns := [], harness := (true, "d500a2bb7cbb477c95aecde2a6579f2b7f09567bbc3cdf832e28c20804690ee2"), looks := true }, kinds := [], alts := [], laidByText := true, laidKinds := [.data, .pinned], laidTests := true, laidLooks := .later }
def UsersBackUptoCardSaid : Prop := Claim7.holds Tryd.pinned (.plain (OpenSpec.upto usersBackSpec)) usersBackUptoCard

/-- THE SECOND FORM's CARD OF 'vergerlaw06.UsersGroups'. -/
def usersGroupsUptoCard : Claim7 := { stood := { row := usersGroupsUptoRow, standIns := [], harness := (true, "d500a2bb7cbb477c95aecde2a6579f2b7f09567bbc3cdf832e28c20804690ee2"), looks := true }, kinds := [], alts := [], laidByText := true, laidKinds := [.data, .pinned], laidTests := true, laidLooks := .later }
def UsersGroupsUptoCardSaid : Prop := Claim7.holds Tryd.pinned (.plain (OpenSpec.upto usersGroupsSpec)) usersGroupsUptoCard

/-- THE SECOND FORM's CARD OF 'vergerlaw06.UsersOrder'. -/
def usersOrderUptoCard : Claim7 := { stood := { row := usersOrderUptoRow, standIns := [], harness := (true, "d500a2bb7cbb477c95aecde2a6579f2b7f09567bbc3cdf832e28c20804690ee2"), looks := true }, kinds := [], alts := [], laidByText := true, laidKinds := [.data, .pinned], laidTests := true, laidLooks := .later }
def UsersOrderUptoCardSaid : Prop := Claim7.holds Tryd.pinned (.plain (OpenSpec.upto usersOrderSpec)) usersOrderUptoCard

/-- THE SECOND FORM's CARD OF 'vergerlaw06.UsersSilent'. -/
def usersSilentUptoCard : Claim7 := { stood := { row := usersSilentUptoRow, standIns := [], harness := (true, "d500a2bb7cbb477c95aecde2a6579f2b7f09567bbc3cdf832e28c20804690ee2"), looks := true }, kinds := [], alts := [], laidByText := true, laidKinds := [.data, .pinned], laidTests := true, laidLooks := .later }
def UsersSilentUptoCardSaid : Prop := Claim7.holds Tryd.pinned (.plain (OpenSpec.upto usersSilentSpec)) usersSilentUptoCard
end Rows
end Go.Proofs.YteeheapenfklcaaDoor
