/- AuthNumbers returns true. It has no input and no condition. -/
import Derived.Test.YtadnagjffdiklaaRows
import Derived.Test.YtadnagjffdiklaaAst
import Derived.WalkKit
import Derived.ProofKit
import Derived.OpenShut
import Derived.ShutString
namespace Go.Proofs.Ytadnagjffdiklaa.authNumbers
open Go.ChangeShapes Go.WideShapes Go.ChangeAt Go.RowKit
open Go.ChangeMaps (open_string shut_string)
set_option linter.unusedVariables false      -- a walk need not use every 'w<i>' (that an integer argument fits its kind)

theorem own : ownKnob Try.prog.godebug = none := by kernel_rfl

/-! ### The walk -/
open Go.Proofs.Ytadnagjffdiklaa.Ast Go.Proofs.Ytadnagjffdiklaa.Asm
theorem s1 : Hid (11722038120726599400 = Asm.sum (⟨#[107, 101, 121, 49]⟩ : ByteArray).data.toList [1, 2]) := by unfold Hid; decide +kernel
theorem s2 : Hid (14620588263945413318 = Asm.sum [] [7, u64 1, u64 2]) := by unfold Hid; decide +kernel
set_option maxRecDepth 100000 in
theorem walk (w : World) : Calls Try.prog 3 #[] w fun e w' => e = .returned (.bool true) ∧ Below w.heap.size w w' := by
  have HN : Hid (Nums (w.alloc (.cells #[.int .u64 1, .int .u64 2] 22)) (.slice (some ⟨w.heap.size, 0, none⟩) 2 2) [1, 2]) := by
    refine ⟨_, _, rfl, fun i n hi => ⟨_, rfl, ?_⟩⟩
    rw [Addr.add_lit, cell_of_row _ w.heap.size (0 + i) _ 22 (0, 0) (heap_alloc_new w _), Nat.zero_add]
    match i, hi with
    | 0, hi => cases hi; rfl
    | 1, hi => cases hi; rfl
    | i + 2, hi => simp at hi
  go_enter Try.func3, Try.ntmps3
  go_wp2_with fail
  refine (sum_any _ ⟨#[107, 101, 121, 49]⟩ _ [1, 2] 11722038120726599400 (by decide) (by decide) (by intro q hq; simp at hq; rcases hq with rfl | rfl <;> decide) HN s1).mono ?_
  rintro e w1 ⟨rfl, rfl⟩
  go_wp2_with fail
  refine (ours_any _ 7 1 2 (by decide) 14620588263945413318 s2).mono ?_
  rintro e w2 ⟨rfl, k2⟩
  go_wp2_with fail
  go_ret
  exact ⟨rfl, (((Kept.refl [] w).alloc _).trans k2 (fun i hi => by simp at hi)).below (fun i hi => by simp at hi) (Nat.le_refl _)⟩

/-! ### THE ROW's STEP: WRITTEN OUT: LEAVE IT -/
set_option maxRecDepth 100000 in
theorem lifted (os : Os) (started : os.Started) (H : Type) (enc : TypeId × Value → H) :
    ReturnsInHanded {} Try.checked os 3 .any (Rows.authNumbersSpec.pre6 enc Try.prog Try.f3 Rows.authNumbersRow.domain false) (Rows.authNumbersSpec.post enc Try.prog Try.f3 false true false false) := by
  refine returnsInHanded_of_change (C := Try.checked) own started (by kernel_rfl) Try.func3
    (ChangeSpec.witness6 (enc := enc) (C := Try.checked) false ⟨#[], #[], []⟩ 8 (by kernel_rfl) (by kernel_rfl) (by kernel_rfl) (by kernel_rfl)) ?_
  intro W base args ds gs before hval0 hW hcnd _
  have hval : ∀ (j : Nat) t v, Try.f3.params[j]? = some t → args[j]? = some v → Value.okWide Try.prog W .any base t v := hval0
  have hW' := hW
  obtain ⟨p, q, hA0, hV, rfl, hfz, hnd⟩ := hW
  have hA : DataW.TrodAll enc Try.prog W 0 (fun _ => true) true Try.f3.params.toList args.toList ds p := hA0
  rw [Try.params3] at hA hval
  obtain ⟨rfl, rfl, rfl⟩ := trodAll_none hA
  obtain ⟨rfl, rfl⟩ := trodVars_none hV
  clear hA0 hval0
  simp only [List.append_nil] at hW'
  refine (walk  W).mono fun e W' ⟨he, hg⟩ => ?_
  subst he
  exact ⟨_, rfl, _, _, _, [], [], [], hW', trodAll_mk1 (shut_bool Try.underlying4 _), trodAll_mk0, rfl, hg.frame _, fun h => by cases h⟩

theorem over : Rows.authNumbersRow.holds Try.pinned (OpenSpec.ofChange Rows.authNumbersSpec) :=
  OpenClaim.holds_of_wide 3 Try.f3 rfl rfl rfl rfl rfl rfl rfl ⟨rfl, rfl, rfl, rfl, rfl⟩ rfl rfl rfl rfl rfl (by kernel_rfl) Try.func3 (by kernel_rfl)
    (of_decide_eq_true (by kernel_rfl)) (by unfold Func.isWrapper; first | (rw [if_pos (by decide +kernel)]; kernel_rfl) | (rw [if_neg (by decide +kernel)]; exact ⟨rfl, rfl⟩))
    (fun os started H enc _ => lifted os started H enc)

/-- ████ THE STATEMENT ████ -/
theorem proved : Rows.AuthNumbersSaid :=
  over
#print axioms proved
end Go.Proofs.Ytadnagjffdiklaa.authNumbers
