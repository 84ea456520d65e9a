/- The list of steps at which a slice leads. -/
import Derived.Test.YtfdbpbhihccgbaaMch
namespace Go.Proofs.Ytfdbpbhihccgbaa
set_option linter.unusedVariables false
open Go.RowKit
namespace Sta
structure In (w : World) (a : Option Addr) (cap b off : Nat) (os : List Stp) (bs : Nat → List UInt8) (T : List Nat) : Prop where
  n : os.length ≤ 1048576
  a : 0 < os.length → a = some ⟨b, off, none⟩ ∧ os.length ≤ cap
  ops : Ops w b off os bs T
  who : ∀ i (hi : i < os.length), -9223372036854775808 ≤ os[i].who ∧ os[i].who ≤ 9223372036854775807
end Sta
end Go.Proofs.Ytfdbpbhihccgbaa
