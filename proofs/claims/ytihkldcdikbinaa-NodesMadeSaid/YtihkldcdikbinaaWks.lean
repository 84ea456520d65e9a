/- What the law's store, mak and works do. -/
import Derived.Test.YtihkldcdikbinaaDob
namespace Go.Proofs.Ytihkldcdikbinaa
set_option linter.unusedVariables false
open Go.RowKit
namespace Nd
open Go.Proofs.Ytihkldcdikbinaa.Utf Go.Proofs.Ytihkldcdikbinaa.Txt Go.PlainAid Go.Proofs.Ytihkldcdikbinaa.Mpf

def ann : ByteArray := ⟨#[97, 110, 110]⟩
def staff : ByteArray := ⟨#[115, 116, 97, 102, 102]⟩
def makIs (name : ByteArray) (mode : Nat) : Is := ⟨0, 0, name, mode, ann, staff, ann, 0, 0, 0, 0, 0⟩
def makOp (path : Nat) (name : ByteArray) (mode : Nat) : OpV := ⟨1, path, ⟨#[]⟩, 0, makIs name mode, 0, 0, .slice none 0 0, 0⟩
def zeroOp : List Value := [.int .u8 0, .int .u64 0, .string ⟨#[]⟩, .int .u8 0, .int .u64 0, .int .u64 0, .string ⟨#[]⟩, .int .u32 0, .string ⟨#[]⟩, .string ⟨#[]⟩, .string ⟨#[]⟩, .int .u32 0, .int .u32 0, .int .u32 0, .int .u64 0, .int .i64 0, .int .i64 0, .int .u64 0, .slice none 0 0, .int .i64 0]
theorem opL_one (o : OpV) (h : o.data.oneCell' = true) : (opL o).toArray.all (·.oneCell') = true := by simp [opL, Value.oneCell'] at h ⊢; exact h
set_option maxRecDepth 100000 in
set_option maxHeartbeats 4000000 in
theorem mak_any (w : World) (path : Nat) (name : ByteArray) (mode : Nat) :
    Calls Try.prog 26 #[.int .u64 path, .string name, .int .u32 mode] w fun e w' => e = .returned (.agg (opL (makOp path name mode)).toArray) ∧ Kept [] w w' := by
  have B0 : Hid (Bx (w.alloc (.cells zeroOp.toArray 55)) w.heap.size 55 zeroOp.toArray) := Bx.made _ _ _
  have one := opL_one (makOp path name mode) rfl
  have ONE := Lib.hid one
  clear one
  go_enter Try.func26, Try.ntmps26
  go_wp2_with (refine wpList_store_row rfl 55 _ _ rfl w.heap.size rfl 55 _ (opL (makOp path name mode)).toArray rfl B0.out size_op rfl ONE.out ?_; intro w1 hB1 k1)
  refine bodyPost_ret (v := .agg (opL (makOp path name mode)).toArray) ?_ rfl ⟨rfl, ((Kept.refl [] w).alloc _).trans k1 (fun i hi => by rw [List.mem_singleton] at hi; exact Or.inr (by omega))⟩
  exact results_cell_row (p := 6) rfl _ _ w.heap.size _ _ (0, 0) _ rfl hB1 Try.underlying55 rfl size_op
theorem body_ann : bodyOk ann = true := by decide +kernel
theorem body_staff : bodyOk staff = true := by decide +kernel
set_option maxRecDepth 100000 in
theorem store_any (w : World) (n : Nat) (h1 : 1 ≤ n) (h2 : n ≤ 4096) :
    Calls Try.prog 21 #[.int .i64 n] w fun e w' => ∃ p bn bc ps b m, e = .returned (.pointer (some ⟨p, 0, none⟩)) ∧ StAt w' p 0 n 2 bn ps bc ∧ w'.ownsRow 0 30 1 ps 1 [.int .u64 1] ∧ Mp nK w' bn 1 (upd (fun _ => none) 1 (some (ptr b))) ∧ Mp pK w' bc 0 (fun _ => none) ∧
      NdAt w' b ⟨1, 1, ⟨#[47]⟩, 2147484141, ann, staff, ann, 0, 0, 0, 0, 0⟩ 0 (.slice none 0 0) m ∧ w'.heap[m]? = some (.map #[] 0) ∧ w.heap.size ≤ p ∧ w.heap.size ≤ bn ∧ w.heap.size ≤ bc ∧ w.heap.size ≤ b ∧ w.heap.size ≤ m ∧ bn ≠ bc ∧ m ≠ bn ∧ m ≠ bc ∧ (∀ q, ps.ownBlock = some q → w.heap.size ≤ q) ∧ Kept [] w w' := by
  have NEW := Lib.hid (New_ok w #[.string ⟨#[]⟩, .string ann, .string staff, .int .u32 (493 : Nat), .int .u64 0, .int .u32 0, .int .i64 0, .int .i64 0, .int .i64 n, .int .i64 0] ann staff 493 n rfl rfl rfl rfl rfl h1 h2 (by decide) body_ann body_staff (by decide) (by decide) 2147484141 (by decide))
  go_enter Try.func21, Try.ntmps21
  go_wp2_with (go_at_call 13; refine NEW.out.mono ?_; rintro e w1 ⟨p, bn, bc, ps, b, m, rfl, hh⟩)
  go_ret
  exact ⟨p, bn, bc, ps, b, m, rfl, hh⟩
end Nd
end Go.Proofs.Ytihkldcdikbinaa
