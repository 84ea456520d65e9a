/- How many bytes a number has: widthOf at each width (math/bits.Len64 at the four greatest numbers). -/
import Derived.Test.YteebiemfhicgbaaTxt
namespace Go.Proofs.Yteebiemfhicgbaa
set_option linter.unusedVariables false
namespace Wid
open Go.RowKit
set_option maxRecDepth 100000 in
theorem len_8 (w : World) : Calls Try.prog 133 #[.int .u64 255] w fun e w' => e = .returned (.int .i64 8) ∧ w = w' := by
  go_enter Try.func133, Try.ntmps133
  go_wp2_with fail
  go_ret
  exact ⟨by kernel_rfl, rfl⟩
theorem width_8 (w : World) : Calls Try.prog 126 #[] w fun e w' => e = .returned (.int .i64 1) ∧ w = w' := by
  go_enter Try.func126, Try.ntmps126
  go_wp2_with (go_at_call 133; refine (len_8 _).mono ?_; rintro e w' ⟨rfl, rfl⟩)
  go_ret
  exact ⟨rfl, rfl⟩
set_option maxRecDepth 100000 in
theorem len_16 (w : World) : Calls Try.prog 133 #[.int .u64 65535] w fun e w' => e = .returned (.int .i64 16) ∧ w = w' := by
  go_enter Try.func133, Try.ntmps133
  go_wp2_with fail
  go_ret
  exact ⟨by kernel_rfl, rfl⟩
theorem width_16 (w : World) : Calls Try.prog 122 #[] w fun e w' => e = .returned (.int .i64 2) ∧ w = w' := by
  go_enter Try.func122, Try.ntmps122
  go_wp2_with (go_at_call 133; refine (len_16 _).mono ?_; rintro e w' ⟨rfl, rfl⟩)
  go_ret
  exact ⟨rfl, rfl⟩
set_option maxRecDepth 100000 in
theorem len_32 (w : World) : Calls Try.prog 133 #[.int .u64 4294967295] w fun e w' => e = .returned (.int .i64 32) ∧ w = w' := by
  go_enter Try.func133, Try.ntmps133
  go_wp2_with fail
  go_ret
  exact ⟨by kernel_rfl, rfl⟩
theorem width_32 (w : World) : Calls Try.prog 131 #[] w fun e w' => e = .returned (.int .i64 4) ∧ w = w' := by
  go_enter Try.func131, Try.ntmps131
  go_wp2_with (go_at_call 133; refine (len_32 _).mono ?_; rintro e w' ⟨rfl, rfl⟩)
  go_ret
  exact ⟨rfl, rfl⟩
set_option maxRecDepth 100000 in
theorem len_64 (w : World) : Calls Try.prog 133 #[.int .u64 18446744073709551615] w fun e w' => e = .returned (.int .i64 64) ∧ w = w' := by
  go_enter Try.func133, Try.ntmps133
  go_wp2_with fail
  go_ret
  exact ⟨by kernel_rfl, rfl⟩
theorem width_64 (w : World) : Calls Try.prog 132 #[] w fun e w' => e = .returned (.int .i64 8) ∧ w = w' := by
  go_enter Try.func132, Try.ntmps132
  go_wp2_with (go_at_call 133; refine (len_64 _).mono ?_; rintro e w' ⟨rfl, rfl⟩)
  go_ret
  exact ⟨rfl, rfl⟩
end Wid
end Go.Proofs.Yteebiemfhicgbaa
