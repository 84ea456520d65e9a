/- The table of the document's examples. No program's run. -/
import Derived.Test.YteeheapenfklcaaGreatDoorUsp
import Derived.WalkKit
namespace Go.Proofs.YteeheapenfklcaaGreatDoor.Us
set_option linter.unusedVariables false
def people : ByteArray := ⟨#[103, 108, 101, 110, 100, 97, 58, 58, 58, 10, 115, 121, 115, 58, 103, 108, 101, 110, 100, 97, 58, 98, 111, 98, 58, 10, 98, 111, 98, 58, 58, 58, 10, 101, 118, 101, 58, 58, 58, 10]⟩
def peopleT : List Acc := [⟨⟨#[103, 108, 101, 110, 100, 97]⟩, ⟨#[]⟩, [], ⟨#[]⟩⟩, ⟨⟨#[115, 121, 115]⟩, ⟨#[103, 108, 101, 110, 100, 97]⟩, [⟨#[98, 111, 98]⟩], ⟨#[]⟩⟩, ⟨⟨#[98, 111, 98]⟩, ⟨#[]⟩, [], ⟨#[]⟩⟩, ⟨⟨#[101, 118, 101]⟩, ⟨#[]⟩, [], ⟨#[]⟩⟩]
set_option maxRecDepth 100000 in
theorem parse_people : parse people = (some peopleT, 0, 0) := by kernel_rfl
theorem bob_sys : member peopleT ⟨#[98, 111, 98]⟩ ⟨#[115, 121, 115]⟩ = true := by kernel_rfl
theorem glenda_sys : member peopleT ⟨#[103, 108, 101, 110, 100, 97]⟩ ⟨#[115, 121, 115]⟩ = false := by kernel_rfl
theorem eve_sys : member peopleT ⟨#[101, 118, 101]⟩ ⟨#[115, 121, 115]⟩ = false := by kernel_rfl
end Go.Proofs.YteeheapenfklcaaGreatDoor.Us
