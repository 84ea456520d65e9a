/- NodesNames returns true. It has no input and no condition. -/
import Derived.Test.YtihkldcdikbinaaRows
import Derived.Test.YtihkldcdikbinaaWkv
import Derived.WalkKit
import Derived.ProofKit
import Derived.OpenShut
import Derived.ShutString
import Derived.LoopTactic
import Derived.Deep.RegionHeld3
namespace Go.Proofs.Ytihkldcdikbinaa.nodesNames
open Go.ChangeShapes Go.WideShapes Go.ChangeAt Go.RowKit
open Go.ChangeMaps (open_string shut_string)
set_option linter.unusedVariables false

theorem own : ownKnob Try.prog.godebug = none := by kernel_rfl

/-! ### The walk -/
open Go.Proofs.Ytihkldcdikbinaa Go.Proofs.Ytihkldcdikbinaa.Nd
def kL : Array Value := #[.int .u8 1, .int .u8 2, .int .u8 3, .int .u8 4, .int .u8 5, .int .u8 6, .int .u8 7]
def mL : Array Value := #[.int .u8 1, .int .u8 2, .int .u8 4, .int .u8 8, .int .u8 16, .int .u8 32, .int .u8 64]
def eL : Array Value := #[.int .i64 80, .int .i64 81, .int .i64 82, .int .i64 83, .int .i64 84, .int .i64 85, .int .i64 86, .int .i64 87]
/-- The three rows. -/
structure Lw (w wr : World) : Prop where
  k : Bx wr w.heap.size 22 kL
  m : Bx wr (w.heap.size + 1) 24 mL
  e : Bx wr (w.heap.size + 1 + 1) 26 eL
  f : Kept [] w wr
theorem Lw.drew {w wr : World} (h : Lw w wr) : Lw w wr.drew := ⟨h.k, h.m, h.e, h.f.drew⟩
set_option maxRecDepth 100000 in
set_option maxHeartbeats 16000000 in
theorem walk (w : World) : Calls Try.prog 3 #[] w fun e w' => e = .returned (.bool true) ∧ Below w.heap.size w w' := by
  have WORKS := Lib.hid (fun W => works_any W)
  go_enter Try.func3, Try.ntmps3
  go_wp2_with fail
  obtain ⟨w1, hw1⟩ : ∃ w1, w1 = ((w.alloc (.cells kL 22)).alloc (.cells mL 24)).alloc (.cells eL 26) := ⟨_, rfl⟩
  have L1 : Hid (Lw w w1) := by
    rw [hw1]
    exact ⟨Bx.alloc (Bx.alloc (Bx.made _ _ _) _) _, Bx.alloc (alloc_new _ _ _ (by simp)) _, alloc_new _ _ _ (by simp), (((Kept.refl [] w).alloc _).alloc _).alloc _⟩
  simp only [kL, mL, eL] at hw1
  rw [← hw1]
  clear hw1
  go_loopw [4] (fun iv wr => ∃ (k : Nat), iv = .int .i64 k ∧ k ≤ 7 ∧ Hid (Lw w wr)) (fun iv _ => 7 - (intOf iv).toNat)
  case atStart => exact ⟨0, rfl, by omega, L1.out⟩
  case round =>
    obtain ⟨k, rfl, hk, hL⟩ := hrel
    by_cases hlt : k < 7
    · rcases (by omega : k = 0 ∨ k = 1 ∨ k = 2 ∨ k = 3 ∨ k = 4 ∨ k = 5 ∨ k = 6) with rfl | rfl | rfl | rfl | rfl | rfl | rfl
      · have c1 : wr.cell? ⟨w.heap.size, 0, none⟩ = some (Value.int .u8 1) ∧ wr.cell? ⟨w.heap.size + 1, 0, none⟩ = some (Value.int .u8 1) := ⟨hL.out.k.cell 0 rfl, hL.out.m.cell 0 rfl⟩
        go_wp2_with fail
        go_region_held3 (fun w' => w'.cell? ⟨w.heap.size, 0, none⟩ = some (Value.int .u8 1) ∧ w'.cell? ⟨w.heap.size + 1, 0, none⟩ = some (Value.int .u8 1)) (first | exact c1) (first | fail)
        rename_i hh
        clear hh
        go_wp2_with fail
        go_roundw
        case rel => exact ⟨1, by go_num, by omega, hL.out.drew⟩
        case measure => simp [intOf]
      · have c1 : wr.cell? ⟨w.heap.size, 1, none⟩ = some (Value.int .u8 2) ∧ wr.cell? ⟨w.heap.size + 1, 1, none⟩ = some (Value.int .u8 2) := ⟨hL.out.k.cell 1 rfl, hL.out.m.cell 1 rfl⟩
        go_wp2_with fail
        go_region_held3 (fun w' => w'.cell? ⟨w.heap.size, 1, none⟩ = some (Value.int .u8 2) ∧ w'.cell? ⟨w.heap.size + 1, 1, none⟩ = some (Value.int .u8 2)) (first | exact c1) (first | fail)
        rename_i hh
        clear hh
        go_wp2_with fail
        go_roundw
        case rel => exact ⟨2, by go_num, by omega, hL.out.drew⟩
        case measure => simp [intOf]
      · have c1 : wr.cell? ⟨w.heap.size, 2, none⟩ = some (Value.int .u8 3) ∧ wr.cell? ⟨w.heap.size + 1, 2, none⟩ = some (Value.int .u8 4) := ⟨hL.out.k.cell 2 rfl, hL.out.m.cell 2 rfl⟩
        go_wp2_with fail
        go_region_held3 (fun w' => w'.cell? ⟨w.heap.size, 2, none⟩ = some (Value.int .u8 3) ∧ w'.cell? ⟨w.heap.size + 1, 2, none⟩ = some (Value.int .u8 4)) (first | exact c1) (first | fail)
        rename_i hh
        clear hh
        go_wp2_with fail
        go_roundw
        case rel => exact ⟨3, by go_num, by omega, hL.out.drew⟩
        case measure => simp [intOf]
      · have c1 : wr.cell? ⟨w.heap.size, 3, none⟩ = some (Value.int .u8 4) ∧ wr.cell? ⟨w.heap.size + 1, 3, none⟩ = some (Value.int .u8 8) := ⟨hL.out.k.cell 3 rfl, hL.out.m.cell 3 rfl⟩
        go_wp2_with fail
        go_region_held3 (fun w' => w'.cell? ⟨w.heap.size, 3, none⟩ = some (Value.int .u8 4) ∧ w'.cell? ⟨w.heap.size + 1, 3, none⟩ = some (Value.int .u8 8)) (first | exact c1) (first | fail)
        rename_i hh
        clear hh
        go_wp2_with fail
        go_roundw
        case rel => exact ⟨4, by go_num, by omega, hL.out.drew⟩
        case measure => simp [intOf]
      · have c1 : wr.cell? ⟨w.heap.size, 4, none⟩ = some (Value.int .u8 5) ∧ wr.cell? ⟨w.heap.size + 1, 4, none⟩ = some (Value.int .u8 16) := ⟨hL.out.k.cell 4 rfl, hL.out.m.cell 4 rfl⟩
        go_wp2_with fail
        go_region_held3 (fun w' => w'.cell? ⟨w.heap.size, 4, none⟩ = some (Value.int .u8 5) ∧ w'.cell? ⟨w.heap.size + 1, 4, none⟩ = some (Value.int .u8 16)) (first | exact c1) (first | fail)
        rename_i hh
        clear hh
        go_wp2_with fail
        go_roundw
        case rel => exact ⟨5, by go_num, by omega, hL.out.drew⟩
        case measure => simp [intOf]
      · have c1 : wr.cell? ⟨w.heap.size, 5, none⟩ = some (Value.int .u8 6) ∧ wr.cell? ⟨w.heap.size + 1, 5, none⟩ = some (Value.int .u8 32) := ⟨hL.out.k.cell 5 rfl, hL.out.m.cell 5 rfl⟩
        go_wp2_with fail
        go_region_held3 (fun w' => w'.cell? ⟨w.heap.size, 5, none⟩ = some (Value.int .u8 6) ∧ w'.cell? ⟨w.heap.size + 1, 5, none⟩ = some (Value.int .u8 32)) (first | exact c1) (first | fail)
        rename_i hh
        clear hh
        go_wp2_with fail
        go_roundw
        case rel => exact ⟨6, by go_num, by omega, hL.out.drew⟩
        case measure => simp [intOf]
      · have c1 : wr.cell? ⟨w.heap.size, 6, none⟩ = some (Value.int .u8 7) ∧ wr.cell? ⟨w.heap.size + 1, 6, none⟩ = some (Value.int .u8 64) := ⟨hL.out.k.cell 6 rfl, hL.out.m.cell 6 rfl⟩
        go_wp2_with fail
        go_region_held3 (fun w' => w'.cell? ⟨w.heap.size, 6, none⟩ = some (Value.int .u8 7) ∧ w'.cell? ⟨w.heap.size + 1, 6, none⟩ = some (Value.int .u8 64)) (first | exact c1) (first | fail)
        rename_i hh
        clear hh
        go_wp2_with fail
        go_roundw
        case rel => exact ⟨7, by go_num, by omega, hL.out.drew⟩
        case measure => simp [intOf]
    · obtain rfl : k = 7 := by omega
      go_wp2_with fail
      go_loopw [5] (fun iv wr => ∃ (k : Nat), iv = .int .i64 k ∧ k ≤ 8 ∧ Hid (Lw w wr)) (fun iv _ => 8 - (intOf iv).toNat)
      case atStart => exact ⟨0, rfl, by omega, hL.out⟩
      case round =>
        obtain ⟨j, rfl, hj, hM⟩ := hrel
        by_cases hlt2 : j < 8
        · rcases (by omega : j = 0 ∨ j = 1 ∨ j = 2 ∨ j = 3 ∨ j = 4 ∨ j = 5 ∨ j = 6 ∨ j = 7) with rfl | rfl | rfl | rfl | rfl | rfl | rfl | rfl
          · have c1 := hM.out.e.cell 0 (v := .int .i64 80) rfl
            go_wp2_with fail
            go_roundw
            case rel => exact ⟨1, by go_num, by omega, hM.out⟩
            case measure => simp [intOf]
          · have c1 := hM.out.e.cell 1 (v := .int .i64 81) rfl
            go_wp2_with fail
            go_roundw
            case rel => exact ⟨2, by go_num, by omega, hM.out⟩
            case measure => simp [intOf]
          · have c1 := hM.out.e.cell 2 (v := .int .i64 82) rfl
            go_wp2_with fail
            go_roundw
            case rel => exact ⟨3, by go_num, by omega, hM.out⟩
            case measure => simp [intOf]
          · have c1 := hM.out.e.cell 3 (v := .int .i64 83) rfl
            go_wp2_with fail
            go_roundw
            case rel => exact ⟨4, by go_num, by omega, hM.out⟩
            case measure => simp [intOf]
          · have c1 := hM.out.e.cell 4 (v := .int .i64 84) rfl
            go_wp2_with fail
            go_roundw
            case rel => exact ⟨5, by go_num, by omega, hM.out⟩
            case measure => simp [intOf]
          · have c1 := hM.out.e.cell 5 (v := .int .i64 85) rfl
            go_wp2_with fail
            go_roundw
            case rel => exact ⟨6, by go_num, by omega, hM.out⟩
            case measure => simp [intOf]
          · have c1 := hM.out.e.cell 6 (v := .int .i64 86) rfl
            go_wp2_with fail
            go_roundw
            case rel => exact ⟨7, by go_num, by omega, hM.out⟩
            case measure => simp [intOf]
          · have c1 := hM.out.e.cell 7 (v := .int .i64 87) rfl
            go_wp2_with fail
            go_roundw
            case rel => exact ⟨8, by go_num, by omega, hM.out⟩
            case measure => simp [intOf]
        · obtain rfl : j = 8 := by omega
          go_wp2_with (go_at_call 11; refine (WORKS.out _).mono ?_; rintro e w9 ⟨rfl, k9⟩; have K9 := Lib.hid (hM.out.f.trans k9 (fun i hi => by cases hi)); clear k9)
          go_ret
          exact ⟨rfl, K9.out.below (fun i hi => by cases hi) (Nat.le_refl _)⟩

/-! ### THE ROW's STEP: WRITTEN OUT: LEAVE IT -/
set_option maxRecDepth 100000 in
theorem lifted (os : Os) (started : os.Started) (H : Type) (enc : TypeId × Value → H) :
    ReturnsInHanded {} Try.checked os 3 .any (Rows.nodesNamesSpec.pre6 enc Try.prog Try.f3 Rows.nodesNamesRow.domain false) (Rows.nodesNamesSpec.post enc Try.prog Try.f3 false true false false) := by
  refine returnsInHanded_of_change (C := Try.checked) own started (by kernel_rfl) Try.func3
    (ChangeSpec.witness6 (enc := enc) (C := Try.checked) false ⟨#[], #[], []⟩ 8 (by kernel_rfl) (by kernel_rfl) (by kernel_rfl) (by kernel_rfl)) ?_
  intro W base args ds gs before hval0 hW hcnd _
  have hval : ∀ (j : Nat) t v, Try.f3.params[j]? = some t → args[j]? = some v → Value.okWide Try.prog W .any base t v := hval0
  have hW' := hW
  obtain ⟨p, q, hA0, hV, rfl, hfz, hnd⟩ := hW
  have hA : DataW.TrodAll enc Try.prog W 0 (fun _ => true) true Try.f3.params.toList args.toList ds p := hA0
  rw [Try.params3] at hA hval
  obtain ⟨rfl, rfl, rfl⟩ := trodAll_none hA
  obtain ⟨rfl, rfl⟩ := trodVars_none hV
  clear hA0 hval0
  simp only [List.append_nil] at hW'
  refine (walk  W).mono fun e W' ⟨he, hg⟩ => ?_
  subst he
  exact ⟨_, rfl, _, _, _, [], [], [], hW', trodAll_mk1 (shut_bool Try.underlying4 _), trodAll_mk0, rfl, hg.frame _, fun h => by cases h⟩

theorem over : Rows.nodesNamesRow.holds Try.pinned (OpenSpec.ofChange Rows.nodesNamesSpec) :=
  OpenClaim.holds_of_wide 3 Try.f3 rfl rfl rfl rfl rfl rfl rfl ⟨rfl, rfl, rfl, rfl, rfl⟩ rfl rfl rfl rfl rfl (by kernel_rfl) Try.func3 (by kernel_rfl)
    (of_decide_eq_true (by kernel_rfl)) (by unfold Func.isWrapper; first | (rw [if_pos (by decide +kernel)]; kernel_rfl) | (rw [if_neg (by decide +kernel)]; exact ⟨rfl, rfl⟩))
    (fun os started H enc _ => lifted os started H enc)

/-- ████ THE STATEMENT ████ -/
theorem proved : Rows.NodesNamesSaid :=
  over
#print axioms proved
end Go.Proofs.Ytihkldcdikbinaa.nodesNames
