/- What U32 and U64 of a writer do. -/
import Derived.Test.YtdbhdajedgkpbaaWcl
import Derived.Test.YtdbhdajedgkpbaaPut4
import Derived.Test.YtdbhdajedgkpbaaPut8
namespace Go.Proofs.Ytdbhdajedgkpbaa
set_option linter.unusedVariables false
open Go.RowKit
namespace Wrt
open Go.Proofs.Ytdbhdajedgkpbaa.Txt

theorem u32_any (w : World) (p : Nat) (S : List Nat) (st : WS) (x : Int) (n : Nat) (hx : x = n) (hn : n ≤ 4294967295) (ok : Hid st.Ok) (h : Hid (Wr 81 w p S st)) :
    Calls Try.prog 63 #[.pointer (some ⟨p, 0, none⟩), .int .u32 x] w fun e w' => e = .returned (.tuple #[]) ∧ Out 81 w p S (st.raw (le 4 n)) w' := by
  subst hx
  go_enter Try.func63, Try.ntmps63
  go_wp2_with fail
  refine (put32 _ p S st _ n rfl hn ok h).mono ?_
  rintro e w1 ⟨rfl, hw⟩
  go_wp2_with fail
  go_end0
  exact ⟨rfl, hw⟩
theorem u64_any (w : World) (p : Nat) (S : List Nat) (st : WS) (x : Int) (n : Nat) (hx : x = n) (hn : n ≤ 18446744073709551615) (ok : Hid st.Ok) (h : Hid (Wr 81 w p S st)) :
    Calls Try.prog 64 #[.pointer (some ⟨p, 0, none⟩), .int .u64 x] w fun e w' => e = .returned (.tuple #[]) ∧ Out 81 w p S (st.raw (le 8 n)) w' := by
  subst hx
  go_enter Try.func64, Try.ntmps64
  go_wp2_with fail
  refine (put64 _ p S st _ n rfl hn ok h).mono ?_
  rintro e w1 ⟨rfl, hw⟩
  go_wp2_with fail
  go_end0
  exact ⟨rfl, hw⟩
end Wrt
end Go.Proofs.Ytdbhdajedgkpbaa
