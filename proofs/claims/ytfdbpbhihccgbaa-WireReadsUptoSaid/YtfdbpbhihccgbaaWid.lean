/- How many bytes a number has: widthOf at each width (math/bits.Len64 at the four greatest numbers). -/
import Derived.Test.YtfdbpbhihccgbaaTxt
namespace Go.Proofs.Ytfdbpbhihccgbaa
set_option linter.unusedVariables false
namespace Wid
open Go.RowKit
set_option maxRecDepth 100000 in
theorem len_8 (w : World) : Calls Try.prog 100 #[.int .u64 255] w fun e w' => e = .returned (.int .i64 8) ∧ w = w' := by
  go_enter Try.func100, Try.ntmps100
  go_wp2_with fail
  go_ret
  exact ⟨by kernel_rfl, rfl⟩
theorem width_8 (w : World) : Calls Try.prog 91 #[] w fun e w' => e = .returned (.int .i64 1) ∧ w = w' := by
  go_enter Try.func91, Try.ntmps91
  go_wp2_with (go_at_call 100; refine (len_8 _).mono ?_; rintro e w' ⟨rfl, rfl⟩)
  go_ret
  exact ⟨rfl, rfl⟩
set_option maxRecDepth 100000 in
theorem len_16 (w : World) : Calls Try.prog 100 #[.int .u64 65535] w fun e w' => e = .returned (.int .i64 16) ∧ w = w' := by
  go_enter Try.func100, Try.ntmps100
  go_wp2_with fail
  go_ret
  exact ⟨by kernel_rfl, rfl⟩
theorem width_16 (w : World) : Calls Try.prog 90 #[] w fun e w' => e = .returned (.int .i64 2) ∧ w = w' := by
  go_enter Try.func90, Try.ntmps90
  go_wp2_with (go_at_call 100; refine (len_16 _).mono ?_; rintro e w' ⟨rfl, rfl⟩)
  go_ret
  exact ⟨rfl, rfl⟩
set_option maxRecDepth 100000 in
theorem len_32 (w : World) : Calls Try.prog 100 #[.int .u64 4294967295] w fun e w' => e = .returned (.int .i64 32) ∧ w = w' := by
  go_enter Try.func100, Try.ntmps100
  go_wp2_with fail
  go_ret
  exact ⟨by kernel_rfl, rfl⟩
theorem width_32 (w : World) : Calls Try.prog 102 #[] w fun e w' => e = .returned (.int .i64 4) ∧ w = w' := by
  go_enter Try.func102, Try.ntmps102
  go_wp2_with (go_at_call 100; refine (len_32 _).mono ?_; rintro e w' ⟨rfl, rfl⟩)
  go_ret
  exact ⟨rfl, rfl⟩
set_option maxRecDepth 100000 in
theorem len_64 (w : World) : Calls Try.prog 100 #[.int .u64 18446744073709551615] w fun e w' => e = .returned (.int .i64 64) ∧ w = w' := by
  go_enter Try.func100, Try.ntmps100
  go_wp2_with fail
  go_ret
  exact ⟨by kernel_rfl, rfl⟩
theorem width_64 (w : World) : Calls Try.prog 103 #[] w fun e w' => e = .returned (.int .i64 8) ∧ w = w' := by
  go_enter Try.func103, Try.ntmps103
  go_wp2_with (go_at_call 100; refine (len_64 _).mono ?_; rintro e w' ⟨rfl, rfl⟩)
  go_ret
  exact ⟨rfl, rfl⟩
end Wid
end Go.Proofs.Ytfdbpbhihccgbaa
