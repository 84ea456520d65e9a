/- tags: TagsNumbers walked. -/
import Derived.Test.YtjogpafbiackbaaTlh
namespace Go.Proofs.Ytjogpafbiackbaa
set_option linter.unusedVariables false
open Go.RowKit Go.Shelf
namespace Tg
open Go.Proofs.Ytjogpafbiackbaa.Mpf Go.PlainAid
set_option maxRecDepth 100000 in
theorem numbers_any (w : World) : Calls Try.prog 3 #[] w fun e w' => e = .returned (.bool true) ∧ Below w.heap.size w w' := by
  have BG := Lib.hid (begun_any w)
  go_enter Try.func3, Try.ntmps3
  go_wp2_with (go_at_call 6; refine BG.out.mono ?_; rintro e w1 ⟨R, p, rfl, r1, k1⟩; have K1 := Lib.hid (k1.below (fun i hi => by cases hi) (Nat.le_refl _)); clear r1 k1)
  go_ret
  exact ⟨rfl, K1.out⟩
end Tg
end Go.Proofs.Ytjogpafbiackbaa
