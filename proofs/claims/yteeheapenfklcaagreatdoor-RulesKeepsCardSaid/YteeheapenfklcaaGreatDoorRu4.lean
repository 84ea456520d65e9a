/- rules: the document's example of a creation. -/
import Derived.Test.YteeheapenfklcaaGreatDoorRu3
namespace Go.Proofs.YteeheapenfklcaaGreatDoor
set_option linter.unusedVariables false
open Go.RowKit Go.Shelf
attribute [local go_sem] Oper.semAt_some
namespace Ru
open Go.Proofs.YteeheapenfklcaaGreatDoor.Utf Go.Proofs.YteeheapenfklcaaGreatDoor.Txt Go.PlainAid Go.Proofs.YteeheapenfklcaaGreatDoor.Mpf Go.Proofs.YteeheapenfklcaaGreatDoor.Us
section
variable {w : World} {B p : Nat}
set_option maxHeartbeats 4000000 in
set_option maxRecDepth 100000 in
theorem mayCreate_bob (h : Tb w B p peopleT) : Calls Tryz.prog 64 #[.agg #[.pointer (some ⟨p, 0, none⟩), .string ⟨#[98, 111, 98]⟩], .agg #[.int .u64 3, .int .u64 0, .string ⟨#[]⟩, .int .u32 2147484141, .string ⟨#[98, 111, 98]⟩, .string ⟨#[98, 111, 98]⟩, .string ⟨#[]⟩, .int .u32 0, .int .u32 0, .int .u32 0, .int .u64 0, .int .i64 0, .int .i64 0, .int .u64 3, .int .u64 0, .string ⟨#[]⟩, .int .u32 2147484141, .string ⟨#[98, 111, 98]⟩, .string ⟨#[98, 111, 98]⟩, .string ⟨#[]⟩, .int .u32 0, .int .u32 0, .int .u32 0, .int .u64 0, .int .i64 0, .int .i64 0, .bool false, .bool false], .string ⟨#[120]⟩, .int .u32 511, .int .u8 0] w fun e w' => e = .returned (.int .i64 0) ∧ Kept [] w w' := by
  have MY : Hid (∀ w', Kept [] w w' → Calls Tryz.prog 68 #[.agg #[.pointer (some ⟨p, 0, none⟩), .string ⟨#[98, 111, 98]⟩], .agg #[.int .u64 3, .int .u64 0, .string ⟨#[]⟩, .int .u32 2147484141, .string ⟨#[98, 111, 98]⟩, .string ⟨#[98, 111, 98]⟩, .string ⟨#[]⟩, .int .u32 0, .int .u32 0, .int .u32 0, .int .u64 0, .int .i64 0, .int .i64 0]] w' fun e w'' => e = .returned (.bool true) ∧ Kept [] w' w'') := fun w' k => by
    have := mayWrite_any (h.kept k) bob nD (by decide) (by decide)
    rw [rights_facts.2.2.2.1] at this
    exact this
  have DI : Hid (∀ w', Calls Tryz.prog 42 #[.agg #[.int .u64 3, .int .u64 0, .string ⟨#[]⟩, .int .u32 2147484141, .string ⟨#[98, 111, 98]⟩, .string ⟨#[98, 111, 98]⟩, .string ⟨#[]⟩, .int .u32 0, .int .u32 0, .int .u32 0, .int .u64 0, .int .i64 0, .int .i64 0]] w' fun e w'' => e = .returned (.bool true) ∧ Kept [] w' w'') := fun w' => by
    have := isDir_any w' nD
    rw [rights_facts.2.2.2.2.2] at this
    exact this
  have a1 : bits .and .u32 511 2147483648 = 0 := by decide
  obtain ⟨w1, hw1⟩ : ∃ w1, w1 = (w.alloc (.cells #[.pointer (some ⟨p, 0, none⟩), .string ⟨#[98, 111, 98]⟩] 97)).alloc (.cells #[.int .u64 3, .int .u64 0, .string ⟨#[]⟩, .int .u32 2147484141, .string ⟨#[98, 111, 98]⟩, .string ⟨#[98, 111, 98]⟩, .string ⟨#[]⟩, .int .u32 0, .int .u32 0, .int .u32 0, .int .u64 0, .int .i64 0, .int .i64 0, .int .u64 3, .int .u64 0, .string ⟨#[]⟩, .int .u32 2147484141, .string ⟨#[98, 111, 98]⟩, .string ⟨#[98, 111, 98]⟩, .string ⟨#[]⟩, .int .u32 0, .int .u32 0, .int .u32 0, .int .u64 0, .int .i64 0, .int .i64 0, .bool false, .bool false] 48) := ⟨_, rfl⟩
  obtain ⟨R, hR⟩ : ∃ R, R = w.heap.size + 1 := ⟨_, rfl⟩
  obtain ⟨R5, hR5⟩ : ∃ R, R = w.heap.size := ⟨_, rfl⟩
  have b1 : w1.heap[R]? = some (.cells #[.int .u64 3, .int .u64 0, .string ⟨#[]⟩, .int .u32 2147484141, .string ⟨#[98, 111, 98]⟩, .string ⟨#[98, 111, 98]⟩, .string ⟨#[]⟩, .int .u32 0, .int .u32 0, .int .u32 0, .int .u64 0, .int .i64 0, .int .i64 0, .int .u64 3, .int .u64 0, .string ⟨#[]⟩, .int .u32 2147484141, .string ⟨#[98, 111, 98]⟩, .string ⟨#[98, 111, 98]⟩, .string ⟨#[]⟩, .int .u32 0, .int .u32 0, .int .u32 0, .int .u64 0, .int .i64 0, .int .i64 0, .bool false, .bool false] 48 (0, 0)) := by
    rw [hw1, hR]
    have := (MapKept.heap_alloc (w.alloc (.cells #[.pointer (some ⟨p, 0, none⟩), .string ⟨#[98, 111, 98]⟩] 97)) (.cells #[.int .u64 3, .int .u64 0, .string ⟨#[]⟩, .int .u32 2147484141, .string ⟨#[98, 111, 98]⟩, .string ⟨#[98, 111, 98]⟩, .string ⟨#[]⟩, .int .u32 0, .int .u32 0, .int .u32 0, .int .u64 0, .int .i64 0, .int .i64 0, .int .u64 3, .int .u64 0, .string ⟨#[]⟩, .int .u32 2147484141, .string ⟨#[98, 111, 98]⟩, .string ⟨#[98, 111, 98]⟩, .string ⟨#[]⟩, .int .u32 0, .int .u32 0, .int .u32 0, .int .u64 0, .int .i64 0, .int .i64 0, .bool false, .bool false] 48)).1
    rwa [World.size_alloc] at this
  have b0 : w1.heap[R5]? = some (.cells #[.pointer (some ⟨p, 0, none⟩), .string ⟨#[98, 111, 98]⟩] 97 (0, 0)) := by
    rw [hw1, hR5]
    exact (Below.heap_alloc _ _ _ (by simp)).trans (MapKept.heap_alloc w _).1
  have K1 : Hid (Kept [] w w1) := by rw [hw1]; exact ((Kept.refl _ _).alloc _).alloc _
  have CE : Hid (∀ wr, Kept [] w1 wr → wr.cell? ⟨R, 0, none⟩ = some (Value.int .u64 3) ∧ wr.cell? ⟨R, 1, none⟩ = some (Value.int .u64 0) ∧ wr.cell? ⟨R, 2, none⟩ = some (Value.string ⟨#[]⟩) ∧ wr.cell? ⟨R, 3, none⟩ = some (Value.int .u32 2147484141) ∧ wr.cell? ⟨R, 4, none⟩ = some (Value.string ⟨#[98, 111, 98]⟩) ∧ wr.cell? ⟨R, 5, none⟩ = some (Value.string ⟨#[98, 111, 98]⟩) ∧ wr.cell? ⟨R, 6, none⟩ = some (Value.string ⟨#[]⟩) ∧ wr.cell? ⟨R, 7, none⟩ = some (Value.int .u32 0) ∧ wr.cell? ⟨R, 8, none⟩ = some (Value.int .u32 0) ∧ wr.cell? ⟨R, 9, none⟩ = some (Value.int .u32 0) ∧ wr.cell? ⟨R, 10, none⟩ = some (Value.int .u64 0) ∧ wr.cell? ⟨R, 11, none⟩ = some (Value.int .i64 0) ∧ wr.cell? ⟨R, 12, none⟩ = some (Value.int .i64 0) ∧ wr.cell? ⟨R, 26, none⟩ = some (.bool false) ∧ wr.cell? ⟨R, 27, none⟩ = some (.bool false) ∧ wr.cell? ⟨R5, 0, none⟩ = some (.pointer (some ⟨p, 0, none⟩)) ∧ wr.cell? ⟨R5, 1, none⟩ = some (.string ⟨#[98, 111, 98]⟩)) := fun wr k => by
    have b := (k.block _ (block_lt b1) (by simp)).trans b1
    have b' := (k.block _ (block_lt b0) (by simp)).trans b0
    refine ⟨?_, ?_, ?_, ?_, ?_, ?_, ?_, ?_, ?_, ?_, ?_, ?_, ?_, ?_, ?_, ?_, ?_⟩ <;> first | (rw [cell_of_row wr R _ _ _ (0, 0) b]; rfl) | (rw [cell_of_row wr R5 _ _ _ (0, 0) b']; rfl)
  have HW1 := Lib.hid hw1
  have HR := Lib.hid hR
  have HR5 := Lib.hid hR5
  clear hw1 hR hR5 h b1 b0
  obtain ⟨c0, c1, c2, c3, c4, c5, c6, c7, c8, c9, c10, c11, c12, c13, c14, c15, c16⟩ := CE.out w1 (Kept.refl _ _)
  go_enter Tryz.func64, Tryz.ntmps64
  go_wp2_with fail
  rw [← HW1.out, ← HR.out, ← HR5.out]
  refine (wants_0 w1).mono ?_
  rintro e w2 ⟨rfl, hw2⟩
  subst hw2
  go_wp2_with fail
  refine (DI.out _).mono ?_
  rintro e w3 ⟨rfl, k3⟩
  go_wp2_with fail
  refine (chk_x w3).mono ?_
  rintro e w4 ⟨rfl, k4⟩
  go_wp2_with fail
  refine (perm_511 w4).mono ?_
  rintro e w5 ⟨rfl, hw5⟩
  rw [hw5]
  have K4 := k3.trans k4 (fun i hi => by cases hi)
  clear hw5 c0 c1 c2 c3 c4 c5 c6 c7 c8 c9 c10 c11 c12 c13 c14 c15 c16
  obtain ⟨c0, c1, c2, c3, c4, c5, c6, c7, c8, c9, c10, c11, c12, c13, c14, c15, c16⟩ := CE.out w4 K4
  go_wp2_with fail
  refine (MY.out _ (K1.out.trans K4 (fun i hi => by cases hi))).mono ?_
  rintro e w6 ⟨rfl, k6⟩
  have K6 := K4.trans k6 (fun i hi => by cases hi)
  clear c0 c1 c2 c3 c4 c5 c6 c7 c8 c9 c10 c11 c12 c13 c14 c15 c16
  obtain ⟨c0, c1, c2, c3, c4, c5, c6, c7, c8, c9, c10, c11, c12, c13, c14, c15, c16⟩ := CE.out w6 K6
  go_wp2_with fail
  go_ret
  exact ⟨rfl, K1.out.trans K6 (fun i hi => by cases hi)⟩
end
end Ru
end Go.Proofs.YteeheapenfklcaaGreatDoor
