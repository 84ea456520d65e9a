/- A reader that is wrong stays so; U32 and U64. -/
import Derived.Test.YtdbhdajedgkpbaaRop
import Derived.Test.YtdbhdajedgkpbaaTak4
import Derived.Test.YtdbhdajedgkpbaaTak8
namespace Go.Proofs.Ytdbhdajedgkpbaa
set_option linter.unusedVariables false
open Go.RowKit

theorem RS.failAt_bad {st : RS} (h : st.err ≠ 0) (e : Int) (p : Nat) : st.failAt e p = st := by unfold RS.failAt; rw [if_neg (fun k => h k.1)]
theorem RS.fail_bad {st : RS} (h : st.err ≠ 0) (e : Int) : st.fail e = st := RS.failAt_bad h e _
theorem RS.next_bad {st : RS} (h : st.err ≠ 0) (n : Nat) : st.next n = st := by
  unfold RS.next
  split
  · exact RS.fail_bad h 10
  · rfl
theorem RS.counted_bad {st : RS} (h : st.err ≠ 0) : st.counted = st := by
  unfold RS.counted
  split
  · rfl
  · exact RS.fail_bad h _
theorem RS.text_bad {st : RS} (h : st.err ≠ 0) : st.text = st := by unfold RS.text; rw [RS.counted_bad h, if_pos h]
theorem RS.past_bad {st : RS} (h : st.err ≠ 0) : st.past = st := by unfold RS.past; rw [RS.counted_bad h, if_pos h]
theorem RS.end_bad {st : RS} (h : st.err ≠ 0) : Rdr.RS.end st = st := by
  unfold Rdr.RS.end
  split
  · exact RS.fail_bad h _
  · rfl

namespace Rdr
open Go.Proofs.Ytdbhdajedgkpbaa.Txt
theorem u32_any (w : World) (r : Nat) (T : List Nat) (st : RS) (ok : Hid st.Ok) (h : Hid (Rd w r T st)) :
    Calls Try.prog 92 #[.pointer (some ⟨r, 0, none⟩)] w fun e w' => e = .returned (.int .u32 (leval (st.got 4))) ∧ Hid (Rd w' r T (st.next 4)) ∧ Kept [r] w w' := by
  go_enter Try.func92, Try.ntmps92
  go_wp2_with fail
  refine (take32 _ r T st ok h).mono ?_
  rintro e w1 ⟨rfl, h1, h2⟩
  go_wp2_with fail
  go_ret
  exact ⟨rfl, h1, h2⟩
theorem u64_any (w : World) (r : Nat) (T : List Nat) (st : RS) (ok : Hid st.Ok) (h : Hid (Rd w r T st)) :
    Calls Try.prog 94 #[.pointer (some ⟨r, 0, none⟩)] w fun e w' => e = .returned (.int .u64 (leval (st.got 8))) ∧ Hid (Rd w' r T (st.next 8)) ∧ Kept [r] w w' := by
  go_enter Try.func94, Try.ntmps94
  go_wp2_with fail
  refine (take64 _ r T st ok h).mono ?_
  rintro e w1 ⟨rfl, h1, h2⟩
  go_wp2_with fail
  go_ret
  exact ⟨rfl, h1, h2⟩

end Rdr
end Go.Proofs.Ytdbhdajedgkpbaa
