/- The reference's within and Character: what they answer at every place of a text; they turn nothing. -/
import Derived.Test.YteeheapenfklcaaGreatDoorProg
import Derived.Test.YteeheapenfklcaaGreatDoorUtf
import Derived.WalkKit
import Derived.Deep.QuietTactic
import Derived.BigQuiet
import Derived.WalkSpells
import Derived.WalkLawsBesides
import Derived.PlainAid
import Derived.Outline
import Derived.Handy
namespace Go.Proofs.YteeheapenfklcaaGreatDoor.Txt
set_option linter.unusedVariables false
open Go.RowKit Go.PlainAid Go.Proofs.YteeheapenfklcaaGreatDoor.Utf

theorem ret_eq {m n : Nat} {w : World} (h : m = n) : (fun (e : Ending) (w' : World) => e = .returned (.int .i64 (m : Int)) ∧ w = w') = (fun e w' => e = .returned (.int .i64 (n : Int)) ∧ w = w') := by rw [h]

end Go.Proofs.YteeheapenfklcaaGreatDoor.Txt
