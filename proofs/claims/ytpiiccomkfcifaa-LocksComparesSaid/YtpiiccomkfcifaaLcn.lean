/- locks: cmp.Or; Compare. -/
import Derived.Test.YtpiiccomkfcifaaLcm
namespace Go.Proofs.Ytpiiccomkfcifaa
set_option linter.unusedVariables false
open Go.RowKit
namespace Lk
open Go.Proofs.Ytpiiccomkfcifaa.Mpf Go.PlainAid
/-- The first of three that is not nought. -/
def or3 (x y z : Int) : Int := if x ≠ 0 then x else if y ≠ 0 then y else z
theorem or_any {w : World} {g : Nat} {x y z : Int} (hg : w.heap[g]? = some (.cells #[.int .i64 x, .int .i64 y, .int .i64 z] 3 (0, 0))) :
    Calls Try.prog 29 #[.slice (some ⟨g, 0, none⟩) 3 3] w fun e w' => e = .returned (.int .i64 (or3 x y z)) ∧ w' = w := by
  have c0 : w.cell? ⟨g, 0, none⟩ = some (.int .i64 x) := by rw [cell_of_row w g 0 _ _ (0, 0) hg]; rfl
  have c1 : w.cell? ⟨g, 1, none⟩ = some (.int .i64 y) := by rw [cell_of_row w g 1 _ _ (0, 0) hg]; rfl
  have c2 : w.cell? ⟨g, 2, none⟩ = some (.int .i64 z) := by rw [cell_of_row w g 2 _ _ (0, 0) hg]; rfl
  obtain ⟨r, hr⟩ : ∃ r, r = or3 x y z := ⟨_, rfl⟩
  rw [← hr]
  have HR : Hid (r = or3 x y z) := hr
  clear hg hr
  go_enter Try.func29, Try.ntmps29
  go_wp2_with fail
  go_loopw [8] (fun iv wr => ∃ j : Nat, iv = .int .i64 j ∧ j ≤ 3 ∧ w = wr ∧ Hid ((0 < j → x = 0) ∧ (1 < j → y = 0) ∧ (2 < j → z = 0))) (fun iv _ => 3 - (intOf iv).toNat)
  case atStart => exact ⟨0, rfl, by omega, rfl, by omega, by omega, by omega⟩
  case round =>
    obtain ⟨j, rfl, hj, rfl, HZ⟩ := hrel
    rcases (by omega : j = 0 ∨ j = 1 ∨ j = 2 ∨ j = 3) with rfl | rfl | rfl | rfl
    · by_cases h : x = 0
      · have h2 : (x == 0) = true := by simpa using h
        have Z2 : Hid ((0 < 1 → x = 0) ∧ (1 < 1 → y = 0) ∧ (2 < 1 → z = 0)) := ⟨fun _ => h, by omega, by omega⟩
        clear h
        go_wp2_with fail
        go_roundw
        case rel => exact ⟨1, by go_num, by omega, trivial, Z2⟩
        case measure => simp [intOf]
      · have h2 : (x == 0) = false := by simpa using h
        have F : Hid (x = r) := by show _ = _; rw [HR.out]; unfold or3; rw [if_pos h]
        clear h
        go_wp2_with fail
        go_ret
        exact ⟨by rw [← F.out]; rfl, rfl⟩
    · have hx := HZ.out.1 (by omega)
      by_cases h : y = 0
      · have h2 : (y == 0) = true := by simpa using h
        have Z2 : Hid ((0 < 2 → x = 0) ∧ (1 < 2 → y = 0) ∧ (2 < 2 → z = 0)) := ⟨fun _ => hx, fun _ => h, by omega⟩
        clear h hx
        go_wp2_with fail
        go_roundw
        case rel => exact ⟨2, by go_num, by omega, trivial, Z2⟩
        case measure => simp [intOf]
      · have h2 : (y == 0) = false := by simpa using h
        have F : Hid (y = r) := by show _ = _; rw [HR.out]; unfold or3; rw [if_neg (by simp [hx]), if_pos h]
        clear h hx
        go_wp2_with fail
        go_ret
        exact ⟨by rw [← F.out]; rfl, rfl⟩
    · have hx := HZ.out.1 (by omega)
      have hy := HZ.out.2.1 (by omega)
      by_cases h : z = 0
      · have h2 : (z == 0) = true := by simpa using h
        have Z2 : Hid ((0 < 3 → x = 0) ∧ (1 < 3 → y = 0) ∧ (2 < 3 → z = 0)) := ⟨fun _ => hx, fun _ => hy, fun _ => h⟩
        clear h hx hy
        go_wp2_with fail
        go_roundw
        case rel => exact ⟨3, by go_num, by omega, trivial, Z2⟩
        case measure => simp [intOf]
      · have h2 : (z == 0) = false := by simpa using h
        have F : Hid (z = r) := by show _ = _; rw [HR.out]; unfold or3; rw [if_neg (by simp [hx]), if_neg (by simp [hy])]
        clear h hx hy
        go_wp2_with fail
        go_ret
        exact ⟨by rw [← F.out]; rfl, rfl⟩
    · have F : Hid (0 = r) := by
        show _ = _
        rw [HR.out]; unfold or3
        rw [if_neg (by simp [HZ.out.1 (by omega)]), if_neg (by simp [HZ.out.2.1 (by omega)]), HZ.out.2.2 (by omega)]
      go_wp2_with fail
      go_ret
      exact ⟨by rw [← F.out]; rfl, rfl⟩
end Lk
end Go.Proofs.Ytpiiccomkfcifaa
