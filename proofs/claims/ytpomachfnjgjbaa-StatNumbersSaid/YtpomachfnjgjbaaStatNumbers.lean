/- StatNumbers returns true. It has no input and no condition. -/
import Derived.Test.YtpomachfnjgjbaaRows
import Derived.Test.YtpomachfnjgjbaaAwk
import Derived.WalkKit
import Derived.ProofKit
import Derived.OpenShut
import Derived.ShutString
namespace Go.Proofs.Ytpomachfnjgjbaa.statNumbers
open Go.ChangeShapes Go.WideShapes Go.ChangeAt Go.RowKit
open Go.ChangeMaps (open_string shut_string)
set_option linter.unusedVariables false      -- a walk need not use every 'w<i>' (that an integer argument fits its kind)

theorem own : ownKnob Try.prog.godebug = none := by kernel_rfl

/-! ### The walk -/
set_option maxHeartbeats 1000000 in
set_option maxRecDepth 100000 in
theorem walk (w : World) : Calls Try.prog 3 #[] w fun e w' => e = .returned (.bool true) ∧ Below w.heap.size w w' := by
  go_enter Try.func3, Try.ntmps3
  go_wp2_with fail
  go_loopw [2, 3] (fun nv iv' wr => ∃ i : Nat, i ≤ 13 ∧ nv = .int .u16 ((2 ^ i : Nat) : Int) ∧ iv' = .int .i64 i ∧ wr = w.alloc (.cells #[.int .u16 1, .int .u16 2, .int .u16 4, .int .u16 8, .int .u16 16, .int .u16 32, .int .u16 64, .int .u16 128, .int .u16 256, .int .u16 512, .int .u16 1024, .int .u16 2048, .int .u16 4096] 23 (0, 0))) (fun _ iv' _ => 13 - (intOf iv').toNat)
  case atStart => exact ⟨0, by omega, rfl, rfl, rfl⟩
  case round =>
    obtain ⟨i, hi, rfl, rfl, rfl⟩ := hrel
    obtain rfl | rfl | rfl | rfl | rfl | rfl | rfl | rfl | rfl | rfl | rfl | rfl | rfl | rfl : i = 0 ∨ i = 1 ∨ i = 2 ∨ i = 3 ∨ i = 4 ∨ i = 5 ∨ i = 6 ∨ i = 7 ∨ i = 8 ∨ i = 9 ∨ i = 10 ∨ i = 11 ∨ i = 12 ∨ i = 13 := by omega
    all_goals simp only [Nat.reducePow]
    all_goals go_wp2_with fail
    · exact ⟨⟨1, by omega, rfl, rfl, trivial⟩, by decide⟩
    · exact ⟨⟨2, by omega, rfl, rfl, trivial⟩, by decide⟩
    · exact ⟨⟨3, by omega, rfl, rfl, trivial⟩, by decide⟩
    · exact ⟨⟨4, by omega, rfl, rfl, trivial⟩, by decide⟩
    · exact ⟨⟨5, by omega, rfl, rfl, trivial⟩, by decide⟩
    · exact ⟨⟨6, by omega, rfl, rfl, trivial⟩, by decide⟩
    · exact ⟨⟨7, by omega, rfl, rfl, trivial⟩, by decide⟩
    · exact ⟨⟨8, by omega, rfl, rfl, trivial⟩, by decide⟩
    · exact ⟨⟨9, by omega, rfl, rfl, trivial⟩, by decide⟩
    · exact ⟨⟨10, by omega, rfl, rfl, trivial⟩, by decide⟩
    · exact ⟨⟨11, by omega, rfl, rfl, trivial⟩, by decide⟩
    · exact ⟨⟨12, by omega, rfl, rfl, trivial⟩, by decide⟩
    · exact ⟨⟨13, by omega, rfl, rfl, trivial⟩, by decide⟩
    · refine (Stt.awake_any _).mono ?_
      rintro e w1 ⟨rfl, k1⟩
      go_wp2_with fail
      go_ret
      exact ⟨rfl, (((Kept.refl [] w).alloc _).trans k1 (fun i hi => by simp at hi)).below (fun i hi => by simp at hi) (Nat.le_refl _)⟩

/-! ### THE ROW's STEP: WRITTEN OUT: LEAVE IT -/
set_option maxRecDepth 100000 in
theorem lifted (os : Os) (started : os.Started) (H : Type) (enc : TypeId × Value → H) :
    ReturnsInHanded {} Try.checked os 3 .any (Rows.statNumbersSpec.pre6 enc Try.prog Try.f3 Rows.statNumbersRow.domain false) (Rows.statNumbersSpec.post enc Try.prog Try.f3 false true false false) := by
  refine returnsInHanded_of_change (C := Try.checked) own started (by kernel_rfl) Try.func3
    (ChangeSpec.witness6 (enc := enc) (C := Try.checked) false ⟨#[], #[], []⟩ 8 (by kernel_rfl) (by kernel_rfl) (by kernel_rfl) (by kernel_rfl)) ?_
  intro W base args ds gs before hval0 hW hcnd _
  have hval : ∀ (j : Nat) t v, Try.f3.params[j]? = some t → args[j]? = some v → Value.okWide Try.prog W .any base t v := hval0
  have hW' := hW
  obtain ⟨p, q, hA0, hV, rfl, hfz, hnd⟩ := hW
  have hA : DataW.TrodAll enc Try.prog W 0 (fun _ => true) true Try.f3.params.toList args.toList ds p := hA0
  rw [Try.params3] at hA hval
  obtain ⟨rfl, rfl, rfl⟩ := trodAll_none hA
  obtain ⟨rfl, rfl⟩ := trodVars_none hV
  clear hA0 hval0
  simp only [List.append_nil] at hW'
  refine (walk  W).mono fun e W' ⟨he, hg⟩ => ?_
  subst he
  exact ⟨_, rfl, _, _, _, [], [], [], hW', trodAll_mk1 (shut_bool Try.underlying4 _), trodAll_mk0, rfl, hg.frame _, fun h => by cases h⟩

theorem over : Rows.statNumbersRow.holds Try.pinned (OpenSpec.ofChange Rows.statNumbersSpec) :=
  OpenClaim.holds_of_wide 3 Try.f3 rfl rfl rfl rfl rfl rfl rfl ⟨rfl, rfl, rfl, rfl, rfl⟩ rfl rfl rfl rfl rfl (by kernel_rfl) Try.func3 (by kernel_rfl)
    (of_decide_eq_true (by kernel_rfl)) (by unfold Func.isWrapper; first | (rw [if_pos (by decide +kernel)]; kernel_rfl) | (rw [if_neg (by decide +kernel)]; exact ⟨rfl, rfl⟩))
    (fun os started H enc _ => lifted os started H enc)

/-- ████ THE STATEMENT ████ -/
theorem proved : Rows.StatNumbersSaid :=
  over
#print axioms proved
end Go.Proofs.Ytpomachfnjgjbaa.statNumbers
