/- An array of 256 marks, by value. -/
import Derived.Test.YtjdhgeikbkjnoaaDoorTxt
import Derived.Test.YtjdhgeikbkjnoaaDoorKept
import Derived.PlainAid
import Derived.Deep.WholeRow
namespace Go.Proofs.YtjdhgeikbkjnoaaDoor
set_option linter.unusedVariables false
open Go.RowKit
attribute [local go_sem] Oper.semAt_some
namespace Nm
open Go.Proofs.YtjdhgeikbkjnoaaDoor.Utf Go.Proofs.YtjdhgeikbkjnoaaDoor.Txt Go.PlainAid

/-- Marks. -/
def bo (l : List Bool) : Array Value := (l.map Value.bool).toArray
theorem bo_size (l : List Bool) : (bo l).size = l.length := by simp [bo]
theorem bo_one (l : List Bool) : (bo l).all (·.oneCell') = true := by
  unfold bo
  rw [Array.all_eq_true]
  intro i hi
  simp [Value.oneCell']
theorem bo_set (l : List Bool) (i : Nat) (b : Bool) : (bo l).setIfInBounds i (.bool b) = bo (l.set i b) := by
  unfold bo
  rw [List.map_set]
  simp
theorem bo_get (l : List Bool) (i : Nat) (h : i < l.length) : (bo l)[i]? = some (.bool l[i]) := by simp [bo, h]
def none256 : List Bool := List.replicate 256 false
theorem info_rc : (Tryd.prog.info? 87).map (fun i => (i.zero, i.size)) = some (some (.agg (bo none256)), 256) := by kernel_rfl
theorem und_rc : Tryd.prog.underlying 87 = some (.array 256 4) := by kernel_rfl
theorem zero_rc (w : World) : (zeroValue 87).run Tryd.prog w = .ok (.agg (bo none256)) w := (zero_of_info info_rc).1 w
theorem size_rc : (Tryd.prog.info? 87).map (·.size) = some 256 := (zero_of_info info_rc).2

/-- Marks in memory. -/
def Mk (w : World) (R : Nat) (l : List Bool) : Prop := w.heap[R]? = some (.cells (bo l) 87 (0, 0)) ∧ l.length = 256
theorem Mk.load {w : World} {R : Nat} {l : List Bool} (h : Mk w R l) : (Instr.loadAt 87 (.pointer (some ⟨R, 0, none⟩))).run Tryd.prog w = .ok (.agg (bo l)) w := by
  simp only [Instr.loadAt, Instr.sureAddr, Sem.run_bind, Sem.run_pure, Result.andThen]
  exact run_loadVar_row _ _ _ _ _ (0, 0) _ h.1 und_rc rfl (by rw [size_rc, bo_size, h.2])
theorem Mk.loadVar {w : World} {R : Nat} {l : List Bool} (h : Mk w R l) : (loadVar 87 ⟨R, 0, none⟩).run Tryd.prog w = .ok (.agg (bo l)) w :=
  run_loadVar_row _ _ _ _ _ (0, 0) _ h.1 und_rc rfl (by rw [size_rc, bo_size, h.2])
theorem Mk.store {w : World} {R : Nat} {l m : List Bool} (h : Mk w R l) (hm : m.length = 256) : (Instr.storeAt 87 (.pointer (some ⟨R, 0, none⟩)) (.agg (bo m))).run Tryd.prog w = .ok () (w.setRow R (bo m)) := by
  simp only [Instr.storeAt, Instr.sureAddr, Sem.run_bind, Sem.run_pure, Result.andThen]
  exact run_storeVar_row _ _ _ _ _ _ h.1 (by rw [size_rc, bo_size, hm]) (by rw [bo_size, bo_size, h.2, hm]) (bo_one m)
theorem Mk.wpLoad {w : World} {R : Nat} {l : List Bool} (h : Mk w R l) {op : Oper} {a : Act} {K : Act → World → Prop} {Q : Exit → Act → World → Prop} (x : Operand) (ho : op.op = .load 87 x) (hx : a.eval x = .pointer (some ⟨R, 0, none⟩)) (hk : K (a.put op.dst (.agg (bo l))) w) : op.wp Tryd.prog a w K Q := by
  have := h.loadVar
  unfold Oper.wp execOp
  simp only [ho, hx, Instr.loadAt, Instr.sureAddr, Sem.run_bind, Sem.run_pure, Result.andThen_ok, this]
  exact hk
theorem Mk.wpStore {w : World} {R : Nat} {l m : List Bool} (h : Mk w R l) (hm : m.length = 256) {op : Oper} {a : Act} {K : Act → World → Prop} {Q : Exit → Act → World → Prop} (x y : Operand) (ho : op.op = .store 87 x y) (hx : a.eval x = .pointer (some ⟨R, 0, none⟩)) (hy : a.eval y = .agg (bo m)) (hk : K (a.put op.dst undef) (w.setRow R (bo m))) : op.wp Tryd.prog a w K Q := by
  have := run_storeVar_row (P := Tryd.prog) _ _ 87 _ _ _ h.1 (by rw [size_rc, bo_size, hm]) (by rw [bo_size, bo_size, h.2, hm]) (bo_one m)
  unfold Oper.wp execOp
  simp only [ho, hx, hy, Instr.storeAt, Instr.sureAddr, Sem.run_bind, Sem.run_pure, Result.andThen_ok, this]
  exact hk
theorem Mk.storeCells {w : World} {R : Nat} {l m : List Bool} (h : Mk w R l) (hm : m.length = 256) : (storeCells ⟨R, 0, none⟩ (bo m).toList).run Tryd.prog w = .ok () (w.setRow R (bo m)) := by
  have := run_storeCells_from (P := Tryd.prog) R 87 (bo m).toList 0 (bo l) w h.1 (by simp [bo_size, hm, h.2]) (fun v hv => (Array.all_eq_true_iff_forall_mem.1 (bo_one m)) v (by simpa using hv))
  rw [this]
  simp
theorem Mk.setRow {w : World} {R : Nat} {l m : List Bool} (h : Mk w R l) (hm : m.length = 256) : Mk (w.setRow R (bo m)) R m := by
  refine ⟨?_, hm⟩
  unfold World.setRow
  simp only [Array.getElem?_modify]
  rw [h.1]
  simp
theorem kept_setRow {w : World} {R : Nat} (m : List Bool) : Kept [R] w (w.setRow R (bo m)) := by
  refine ⟨rfl, rfl, rfl, by simp [World.setRow], fun i hi hn => ?_⟩
  have : R ≠ i := fun e => hn (by simp [e])
  simp only [World.setRow, Array.getElem?_modify]
  rw [if_neg this]
theorem Mk.cell {w : World} {R : Nat} {l : List Bool} (h : Mk w R l) (i : Nat) (hi : i < 256) : w.cell? ⟨R, i, none⟩ = some (.bool (l[i]'(by have := h.2; omega))) := by
  rw [cell_of_row w R i _ _ (0, 0) h.1]
  exact bo_get l i _
theorem Mk.frozen {w : World} {R : Nat} {l : List Bool} (h : Mk w R l) (i : Nat) : w.frozen? ⟨R, i, none⟩ = false := by have := h.1; simp [World.frozen?, this]
theorem Mk.put {w : World} {R : Nat} {l : List Bool} (h : Mk w R l) (i : Nat) (b : Bool) : Mk (w.setCell ⟨R, i, none⟩ (.bool b)) R (l.set i b) := by
  refine ⟨?_, by rw [List.length_set]; exact h.2⟩
  have := heap_set (i := i) (Value.bool b) h.1
  rw [this, bo_set]
theorem Mk.kept {w w' : World} {R : Nat} {l : List Bool} {S : List Nat} (h : Mk w R l) (k : Kept S w w') (hS : R ∉ S) : Mk w' R l := ⟨(k.block R (block_lt h.1) hS).trans h.1, h.2⟩
theorem Mk.new (w : World) {l : List Bool} (h : l.length = 256) : Mk (w.alloc (.cells (bo l) 87)) w.heap.size l := ⟨heap_alloc_new w _, h⟩
end Nm
end Go.Proofs.YtjdhgeikbkjnoaaDoor
