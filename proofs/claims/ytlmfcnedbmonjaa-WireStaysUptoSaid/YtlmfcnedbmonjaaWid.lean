/- How many bytes a number has: widthOf at each width (math/bits.Len64 at the four greatest numbers). -/
import Derived.Test.YtlmfcnedbmonjaaTxt
namespace Go.Proofs.Ytlmfcnedbmonjaa
set_option linter.unusedVariables false
namespace Wid
open Go.RowKit
set_option maxRecDepth 100000 in
theorem len_8 (w : World) : Calls Try.prog 120 #[.int .u64 255] w fun e w' => e = .returned (.int .i64 8) ∧ w = w' := by
  go_enter Try.func120, Try.ntmps120
  go_wp2_with fail
  go_ret
  exact ⟨by kernel_rfl, rfl⟩
theorem width_8 (w : World) : Calls Try.prog 114 #[] w fun e w' => e = .returned (.int .i64 1) ∧ w = w' := by
  go_enter Try.func114, Try.ntmps114
  go_wp2_with (go_at_call 120; refine (len_8 _).mono ?_; rintro e w' ⟨rfl, rfl⟩)
  go_ret
  exact ⟨rfl, rfl⟩
set_option maxRecDepth 100000 in
theorem len_16 (w : World) : Calls Try.prog 120 #[.int .u64 65535] w fun e w' => e = .returned (.int .i64 16) ∧ w = w' := by
  go_enter Try.func120, Try.ntmps120
  go_wp2_with fail
  go_ret
  exact ⟨by kernel_rfl, rfl⟩
theorem width_16 (w : World) : Calls Try.prog 111 #[] w fun e w' => e = .returned (.int .i64 2) ∧ w = w' := by
  go_enter Try.func111, Try.ntmps111
  go_wp2_with (go_at_call 120; refine (len_16 _).mono ?_; rintro e w' ⟨rfl, rfl⟩)
  go_ret
  exact ⟨rfl, rfl⟩
set_option maxRecDepth 100000 in
theorem len_32 (w : World) : Calls Try.prog 120 #[.int .u64 4294967295] w fun e w' => e = .returned (.int .i64 32) ∧ w = w' := by
  go_enter Try.func120, Try.ntmps120
  go_wp2_with fail
  go_ret
  exact ⟨by kernel_rfl, rfl⟩
theorem width_32 (w : World) : Calls Try.prog 118 #[] w fun e w' => e = .returned (.int .i64 4) ∧ w = w' := by
  go_enter Try.func118, Try.ntmps118
  go_wp2_with (go_at_call 120; refine (len_32 _).mono ?_; rintro e w' ⟨rfl, rfl⟩)
  go_ret
  exact ⟨rfl, rfl⟩
set_option maxRecDepth 100000 in
theorem len_64 (w : World) : Calls Try.prog 120 #[.int .u64 18446744073709551615] w fun e w' => e = .returned (.int .i64 64) ∧ w = w' := by
  go_enter Try.func120, Try.ntmps120
  go_wp2_with fail
  go_ret
  exact ⟨by kernel_rfl, rfl⟩
theorem width_64 (w : World) : Calls Try.prog 119 #[] w fun e w' => e = .returned (.int .i64 8) ∧ w = w' := by
  go_enter Try.func119, Try.ntmps119
  go_wp2_with (go_at_call 120; refine (len_64 _).mono ?_; rintro e w' ⟨rfl, rfl⟩)
  go_ret
  exact ⟨rfl, rfl⟩
end Wid
end Go.Proofs.Ytlmfcnedbmonjaa
