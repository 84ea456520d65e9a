/- rules: the document's examples (Wants, Perm, modeIn at their numbers; a creation, an opening). -/
import Derived.Test.YteeheapenfklcaaGreatDoorRu2
import Derived.Test.YteeheapenfklcaaGreatDoorNkr
import Derived.Test.YteeheapenfklcaaGreatDoorPpl
namespace Go.Proofs.YteeheapenfklcaaGreatDoor
set_option linter.unusedVariables false
open Go.RowKit Go.Shelf
attribute [local go_sem] Oper.semAt_some
namespace Ru
open Go.Proofs.YteeheapenfklcaaGreatDoor.Utf Go.Proofs.YteeheapenfklcaaGreatDoor.Txt Go.PlainAid Go.Proofs.YteeheapenfklcaaGreatDoor.Mpf Go.Proofs.YteeheapenfklcaaGreatDoor.Us
def bob : ByteArray := ⟨#[98, 111, 98]⟩
def eve : ByteArray := ⟨#[101, 118, 101]⟩
def sysg : ByteArray := ⟨#[115, 121, 115]⟩
def glenda : ByteArray := ⟨#[103, 108, 101, 110, 100, 97]⟩
def nN : Nd := ⟨7, 0, ⟨#[]⟩, 416, bob, sysg, ⟨#[]⟩, 0, 0, 0, 0, 0, 0⟩
def nD : Nd := ⟨3, 0, ⟨#[]⟩, 2147484141, bob, bob, ⟨#[]⟩, 0, 0, 0, 0, 0, 0⟩
theorem wantsOf_0 (w : World) : Calls Tryz.prog 66 #[.int .u8 0] w fun e w' => e = .returned (.int .u8 4) ∧ w' = w := by
  go_enter Tryz.func66, Tryz.ntmps66
  go_wp2_with fail
  go_ret
  exact ⟨rfl, rfl⟩
theorem wantsOf_2 (w : World) : Calls Tryz.prog 66 #[.int .u8 2] w fun e w' => e = .returned (.int .u8 6) ∧ w' = w := by
  go_enter Tryz.func66, Tryz.ntmps66
  go_wp2_with fail
  go_ret
  exact ⟨rfl, rfl⟩
theorem wants_0 (w : World) : Calls Tryz.prog 36 #[.int .u8 0] w fun e w' => e = .returned (.tuple #[.int .u8 4, .int .i64 0]) ∧ w' = w := by
  have a1 : bits .andNot .u8 0 83 = 0 := by decide
  have a2 : bits .and .u8 0 3 = 0 := by decide
  have a3 : bits .and .u8 0 16 = 0 := by decide
  go_enter Tryz.func36, Tryz.ntmps36
  go_wp2_with (go_at_call 66; refine (wantsOf_0 _).mono ?_; rintro e w2 ⟨rfl, rfl⟩)
  go_ret2
  exact ⟨rfl, rfl⟩
theorem wants_18 (w : World) : Calls Tryz.prog 36 #[.int .u8 18] w fun e w' => e = .returned (.tuple #[.int .u8 6, .int .i64 0]) ∧ w' = w := by
  have a1 : bits .andNot .u8 18 83 = 0 := by decide
  have a2 : bits .and .u8 18 3 = 2 := by decide
  have a3 : bits .and .u8 18 16 = 16 := by decide
  have a4 : bits .or .u8 6 2 = 6 := by decide
  go_enter Tryz.func36, Tryz.ntmps36
  go_wp2_with (go_at_call 66; refine (wantsOf_2 _).mono ?_; rintro e w2 ⟨rfl, rfl⟩)
  go_ret2
  exact ⟨rfl, rfl⟩
theorem perm_511 (w : World) : Calls Tryz.prog 98 #[.int .u32 511] w fun e w' => e = .returned (.int .i64 0) ∧ w' = w := by
  go_enter Tryz.func98, Tryz.ntmps98
  go_wp2_with fail
  go_ret
  exact ⟨rfl, rfl⟩
theorem modeIn_511 (w : World) : Calls Tryz.prog 65 #[nD.V, .int .u32 511] w fun e w' => e = .returned (.int .u32 493) ∧ Kept [] w w' := by
  simp only [nD, Nd.V, Nd.L, bob]
  go_enter Tryz.func65, Tryz.ntmps65
  go_wp2_with fail
  go_ret
  exact ⟨rfl, (Kept.refl _ _).alloc _⟩
theorem chk_x (w : World) : Calls Tryz.prog 97 #[.string ⟨#[120]⟩] w fun e w' => e = .returned (.int .i64 0) ∧ Kept [] w w' := by
  have h : Nm.chk ⟨#[120]⟩ = true := by kernel_rfl
  have := Nm.check_any w ⟨#[120]⟩ (by decide)
  rw [h] at this
  exact this
theorem rights_facts : rightsV peopleT bob nN = 6 ∧ rightsV peopleT glenda nN = 0 ∧ mayV peopleT eve nN 4 = false ∧ mayV peopleT bob nD 2 = true ∧ dirV nN = false ∧ dirV nD = true := by
  refine ⟨?_, ?_, ?_, ?_, ?_, ?_⟩ <;> kernel_rfl
section
variable {w : World} {B p : Nat}
set_option maxHeartbeats 4000000 in
set_option maxRecDepth 100000 in
theorem open_eve (h : Tb w B p peopleT) : Calls Tryz.prog 37 #[.pointer (some ⟨p, 0, none⟩), .string ⟨#[101, 118, 101]⟩, .agg #[.int .u64 7, .int .u64 0, .string ⟨#[]⟩, .int .u32 416, .string ⟨#[98, 111, 98]⟩, .string ⟨#[115, 121, 115]⟩, .string ⟨#[]⟩, .int .u32 0, .int .u32 0, .int .u32 0, .int .u64 0, .int .i64 0, .int .i64 0, .int .u64 3, .int .u64 0, .string ⟨#[]⟩, .int .u32 2147484141, .string ⟨#[98, 111, 98]⟩, .string ⟨#[98, 111, 98]⟩, .string ⟨#[]⟩, .int .u32 0, .int .u32 0, .int .u32 0, .int .u64 0, .int .i64 0, .int .i64 0, .bool false, .bool false], .int .u8 0] w fun e w' => e = .returned (.int .i64 90) ∧ Kept [] w w' := by
  have AS : Hid (∀ w, Calls Tryz.prog 39 #[.pointer (some ⟨p, 0, none⟩), .string ⟨#[101, 118, 101]⟩] w fun e w' => e = .returned (.agg #[.pointer (some ⟨p, 0, none⟩), .string ⟨#[101, 118, 101]⟩]) ∧ Kept [] w w') := fun w => asks_any w p eve
  have MY : Hid (∀ w', Kept [] w w' → Calls Tryz.prog 67 #[.agg #[.pointer (some ⟨p, 0, none⟩), .string ⟨#[101, 118, 101]⟩], .agg #[.int .u64 7, .int .u64 0, .string ⟨#[]⟩, .int .u32 416, .string ⟨#[98, 111, 98]⟩, .string ⟨#[115, 121, 115]⟩, .string ⟨#[]⟩, .int .u32 0, .int .u32 0, .int .u32 0, .int .u64 0, .int .i64 0, .int .i64 0], .int .u8 4] w' fun e w'' => e = .returned (.bool false) ∧ Kept [] w' w'') := fun w' k => by
    have := may_any (h.kept k) eve nN 4 (by decide) (by decide)
    rw [rights_facts.2.2.1] at this
    exact this
  have DI : Hid (∀ w', Calls Tryz.prog 42 #[.agg #[.int .u64 7, .int .u64 0, .string ⟨#[]⟩, .int .u32 416, .string ⟨#[98, 111, 98]⟩, .string ⟨#[115, 121, 115]⟩, .string ⟨#[]⟩, .int .u32 0, .int .u32 0, .int .u32 0, .int .u64 0, .int .i64 0, .int .i64 0]] w' fun e w'' => e = .returned (.bool false) ∧ Kept [] w' w'') := fun w' => by
    have := isDir_any w' nN
    rw [rights_facts.2.2.2.2.1] at this
    exact this
  obtain ⟨w1, hw1⟩ : ∃ w1, w1 = w.alloc (.cells #[.int .u64 7, .int .u64 0, .string ⟨#[]⟩, .int .u32 416, .string ⟨#[98, 111, 98]⟩, .string ⟨#[115, 121, 115]⟩, .string ⟨#[]⟩, .int .u32 0, .int .u32 0, .int .u32 0, .int .u64 0, .int .i64 0, .int .i64 0, .int .u64 3, .int .u64 0, .string ⟨#[]⟩, .int .u32 2147484141, .string ⟨#[98, 111, 98]⟩, .string ⟨#[98, 111, 98]⟩, .string ⟨#[]⟩, .int .u32 0, .int .u32 0, .int .u32 0, .int .u64 0, .int .i64 0, .int .i64 0, .bool false, .bool false] 48) := ⟨_, rfl⟩
  obtain ⟨R, hR⟩ : ∃ R, R = w.heap.size := ⟨_, rfl⟩
  have b1 : w1.heap[R]? = some (.cells #[.int .u64 7, .int .u64 0, .string ⟨#[]⟩, .int .u32 416, .string ⟨#[98, 111, 98]⟩, .string ⟨#[115, 121, 115]⟩, .string ⟨#[]⟩, .int .u32 0, .int .u32 0, .int .u32 0, .int .u64 0, .int .i64 0, .int .i64 0, .int .u64 3, .int .u64 0, .string ⟨#[]⟩, .int .u32 2147484141, .string ⟨#[98, 111, 98]⟩, .string ⟨#[98, 111, 98]⟩, .string ⟨#[]⟩, .int .u32 0, .int .u32 0, .int .u32 0, .int .u64 0, .int .i64 0, .int .i64 0, .bool false, .bool false] 48 (0, 0)) := by rw [hw1, hR]; exact (MapKept.heap_alloc w _).1
  have K1 : Hid (Kept [] w w1) := by rw [hw1]; exact (Kept.refl _ _).alloc _
  have CE : Hid (∀ wr, Kept [] w1 wr → wr.cell? ⟨R, 0, none⟩ = some (.int .u64 7) ∧ wr.cell? ⟨R, 1, none⟩ = some (.int .u64 0) ∧ wr.cell? ⟨R, 2, none⟩ = some (.string ⟨#[]⟩) ∧ wr.cell? ⟨R, 3, none⟩ = some (.int .u32 416) ∧ wr.cell? ⟨R, 4, none⟩ = some (.string ⟨#[98, 111, 98]⟩) ∧ wr.cell? ⟨R, 5, none⟩ = some (.string ⟨#[115, 121, 115]⟩) ∧ wr.cell? ⟨R, 6, none⟩ = some (.string ⟨#[]⟩) ∧ wr.cell? ⟨R, 7, none⟩ = some (.int .u32 0) ∧ wr.cell? ⟨R, 8, none⟩ = some (.int .u32 0) ∧ wr.cell? ⟨R, 9, none⟩ = some (.int .u32 0) ∧ wr.cell? ⟨R, 10, none⟩ = some (.int .u64 0) ∧ wr.cell? ⟨R, 11, none⟩ = some (.int .i64 0) ∧ wr.cell? ⟨R, 12, none⟩ = some (.int .i64 0)) := fun wr k => by
    have b := (k.block _ (block_lt b1) (by simp)).trans b1
    refine ⟨?_, ?_, ?_, ?_, ?_, ?_, ?_, ?_, ?_, ?_, ?_, ?_, ?_⟩ <;> (rw [cell_of_row wr R _ _ _ (0, 0) b]; rfl)
  have HW1 := Lib.hid hw1
  have HR := Lib.hid hR
  clear hw1 hR h b1
  go_enter Tryz.func37, Tryz.ntmps37
  go_wp2_with fail
  rw [← HW1.out, ← HR.out]
  refine (AS.out w1).mono ?_
  rintro e w2 ⟨rfl, k2⟩
  have W2 : Hid (∃ g, w2.heap.size = g) := ⟨_, rfl⟩
  have k3 : Kept [] w1 (w2.alloc (.cells #[.pointer (some ⟨p, 0, none⟩), .string ⟨#[101, 118, 101]⟩] 97)) := k2.alloc _
  have b3 := (MapKept.heap_alloc w2 (.cells #[.pointer (some ⟨p, 0, none⟩), .string ⟨#[101, 118, 101]⟩] 97)).1
  obtain ⟨c0, c1, c2, c3, c4, c5, c6, c7, c8, c9, c10, c11, c12⟩ := CE.out _ k3
  obtain ⟨w3, hw3⟩ : ∃ w3, w3 = w2.alloc (.cells #[.pointer (some ⟨p, 0, none⟩), .string ⟨#[101, 118, 101]⟩] 97) := ⟨_, rfl⟩
  obtain ⟨R9, hR9⟩ : ∃ R, R = w2.heap.size := ⟨_, rfl⟩
  rw [← hw3] at k3 b3 c0 c1 c2 c3 c4 c5 c6 c7 c8 c9 c10 c11 c12
  rw [← hR9] at b3
  have HW3 := Lib.hid hw3
  have HR9 := Lib.hid hR9
  clear hw3 hR9 W2
  go_wp2_with fail
  rw [← HW3.out, ← HR9.out]
  refine (wants_0 w3).mono ?_
  rintro e w4 ⟨rfl, rfl⟩
  go_wp2_with fail
  refine (DI.out _).mono ?_
  rintro e w5 ⟨rfl, k5⟩
  have k35 := k3.trans k5 (fun i hi => by cases hi)
  have b5 := (k5.block _ (block_lt b3) (by simp)).trans b3
  have d0 : w5.cell? ⟨R9, 0, none⟩ = some (.pointer (some ⟨p, 0, none⟩)) := by rw [cell_of_row w5 R9 0 _ _ (0, 0) b5]; rfl
  have d1 : w5.cell? ⟨R9, 1, none⟩ = some (.string ⟨#[101, 118, 101]⟩) := by rw [cell_of_row w5 R9 1 _ _ (0, 0) b5]; rfl
  clear c0 c1 c2 c3 c4 c5 c6 c7 c8 c9 c10 c11 c12
  obtain ⟨c0, c1, c2, c3, c4, c5, c6, c7, c8, c9, c10, c11, c12⟩ := CE.out _ k35
  go_wp2_with fail
  refine (MY.out _ (K1.out.trans k35 (fun i hi => by cases hi))).mono ?_
  rintro e w6 ⟨rfl, k6⟩
  go_wp2_with fail
  go_ret
  exact ⟨rfl, (K1.out.trans k35 (fun i hi => by cases hi)).trans k6 (fun i hi => by cases hi)⟩
end
end Ru
end Go.Proofs.YteeheapenfklcaaGreatDoor
