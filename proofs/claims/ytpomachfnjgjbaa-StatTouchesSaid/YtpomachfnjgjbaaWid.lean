/- How many bytes a number has: widthOf at each width (math/bits.Len64 at the four greatest numbers). -/
import Derived.Test.YtpomachfnjgjbaaTxt
namespace Go.Proofs.Ytpomachfnjgjbaa
set_option linter.unusedVariables false
namespace Wid
open Go.RowKit
set_option maxRecDepth 100000 in
theorem len_8 (w : World) : Calls Try.prog 111 #[.int .u64 255] w fun e w' => e = .returned (.int .i64 8) ∧ w = w' := by
  go_enter Try.func111, Try.ntmps111
  go_wp2_with fail
  go_ret
  exact ⟨by kernel_rfl, rfl⟩
theorem width_8 (w : World) : Calls Try.prog 112 #[] w fun e w' => e = .returned (.int .i64 1) ∧ w = w' := by
  go_enter Try.func112, Try.ntmps112
  go_wp2_with (go_at_call 111; refine (len_8 _).mono ?_; rintro e w' ⟨rfl, rfl⟩)
  go_ret
  exact ⟨rfl, rfl⟩
set_option maxRecDepth 100000 in
theorem len_16 (w : World) : Calls Try.prog 111 #[.int .u64 65535] w fun e w' => e = .returned (.int .i64 16) ∧ w = w' := by
  go_enter Try.func111, Try.ntmps111
  go_wp2_with fail
  go_ret
  exact ⟨by kernel_rfl, rfl⟩
theorem width_16 (w : World) : Calls Try.prog 104 #[] w fun e w' => e = .returned (.int .i64 2) ∧ w = w' := by
  go_enter Try.func104, Try.ntmps104
  go_wp2_with (go_at_call 111; refine (len_16 _).mono ?_; rintro e w' ⟨rfl, rfl⟩)
  go_ret
  exact ⟨rfl, rfl⟩
set_option maxRecDepth 100000 in
theorem len_32 (w : World) : Calls Try.prog 111 #[.int .u64 4294967295] w fun e w' => e = .returned (.int .i64 32) ∧ w = w' := by
  go_enter Try.func111, Try.ntmps111
  go_wp2_with fail
  go_ret
  exact ⟨by kernel_rfl, rfl⟩
theorem width_32 (w : World) : Calls Try.prog 105 #[] w fun e w' => e = .returned (.int .i64 4) ∧ w = w' := by
  go_enter Try.func105, Try.ntmps105
  go_wp2_with (go_at_call 111; refine (len_32 _).mono ?_; rintro e w' ⟨rfl, rfl⟩)
  go_ret
  exact ⟨rfl, rfl⟩
set_option maxRecDepth 100000 in
theorem len_64 (w : World) : Calls Try.prog 111 #[.int .u64 18446744073709551615] w fun e w' => e = .returned (.int .i64 64) ∧ w = w' := by
  go_enter Try.func111, Try.ntmps111
  go_wp2_with fail
  go_ret
  exact ⟨by kernel_rfl, rfl⟩
theorem width_64 (w : World) : Calls Try.prog 107 #[] w fun e w' => e = .returned (.int .i64 8) ∧ w = w' := by
  go_enter Try.func107, Try.ntmps107
  go_wp2_with (go_at_call 111; refine (len_64 _).mono ?_; rintro e w' ⟨rfl, rfl⟩)
  go_ret
  exact ⟨rfl, rfl⟩
end Wid
end Go.Proofs.Ytpomachfnjgjbaa
