/- StatPieces walked. -/
import Derived.Test.YteebiemfhicgbaaPis
import Derived.Test.YteebiemfhicgbaaPib
namespace Go.Proofs.Yteebiemfhicgbaa.Stt
open Go.RowKit
theorem pieces_any (w : World) (v1 v2 : Value) (l : List Rec) (xs : List Int) (T1 T2 : List Nat) (hl : l.length ≤ 140737488355328) (hx : xs.length ≤ 140737488355328) (ho : ∀ s ∈ l, s.Ok) (h1 : Hid (InRow w v1 l T1)) (h2 : Hid (InInts w v2 xs T2)) :
    Calls Try.prog 4 #[v1, v2] w fun e w' => e = .returned (.bool true) ∧ Kept [] w w' := by
  by_cases hL : l.length ≤ 1000
  · exact pieces_s w v1 v2 l xs T1 T2 hL hl hx ho h1 h2
  · exact pieces_b w v1 v2 l xs T1 T2 (by omega) hl hx ho h1 h2
end Go.Proofs.Yteebiemfhicgbaa.Stt
