/- rules: Record, the code's and the reference's. -/
import Derived.Test.YteeheapenfklcaaGreatDoorRop
namespace Go.Proofs.YteeheapenfklcaaGreatDoor
set_option linter.unusedVariables false
open Go.RowKit Go.Shelf
attribute [local go_sem] Oper.semAt_some
namespace Ru
open Go.Proofs.YteeheapenfklcaaGreatDoor.Utf Go.Proofs.YteeheapenfklcaaGreatDoor.Txt Go.PlainAid Go.Proofs.YteeheapenfklcaaGreatDoor.Mpf Go.Proofs.YteeheapenfklcaaGreatDoor.Us
/-- A node's length as its record tells it. -/
def recLen (d : Nd) : Int := if dirV d = true then 0 else d.length
def recV (d : Nd) : Array Value := #[.int .u16 0, .int .u32 0, .int .u8 ((d.mode : Int) / 16777216), .int .u32 d.vers, .int .u64 d.path, .int .u32 d.mode, .int .u32 d.atime, .int .u32 d.mtime, .int .u64 (recLen d), .string d.name, .string d.uid, .string d.gid, .string d.muid]
theorem size_stat : (Tryz.prog.info? 55).map (·.size) = some 13 := by kernel_rfl
theorem wpList_sstat {w : World} {ops : Array Oper} {rest : List Oper} {o : Oper} {a : Act} {Q : Exit → Act → World → Prop} (hgd : o.guard = none) (x y : Operand) (ho : o.op = .store 55 x y) (g : Nat) (hx : a.eval x = .pointer (some ⟨g, 0, none⟩)) (old cs : Array Value)
    (hy : a.eval y = .agg cs) (hg : w.heap[g]? = some (.cells old 55 (0, 0))) (hs : old.size = 13) (hc : cs.size = 13) (h1 : cs.all (·.oneCell') = true)
    (h : ∀ w', w'.heap[g]? = some (.cells cs 55 (0, 0)) → Kept [g] w w' → wpList Tryz.prog ops Q rest (a.put o.dst undef) w') : wpList Tryz.prog ops Q (o :: rest) a w :=
  wpList_plain hgd fun K hK => by
    have := run_storeVar_row (P := Tryz.prog) w g 55 55 old cs hg (by rw [hc]; exact size_stat) (by rw [hs, hc]) h1
    unfold Oper.wp execOp
    simp only [ho, hx, hy, Instr.storeAt, Instr.sureAddr, Sem.run_bind, Sem.run_pure, Result.andThen_ok, this]
    exact hK _ _ (h _ (setRow_heap w g old cs 55 (0, 0) hg) ⟨rfl, rfl, rfl, by simp [World.setRow], fun k _ hk => setRow_other w g k _ (by simpa using hk)⟩)
theorem al_1 (w : World) (o1 o3 : Obj) (c2 : Array Value) (t2 : TypeId) : (((w.alloc o1).alloc (.cells c2 t2)).alloc o3).heap[w.heap.size + 1]? = some (.cells c2 t2 (0, 0)) := by
  refine (Below.heap_alloc _ _ _ (by simp)).trans ?_
  have := (MapKept.heap_alloc (w.alloc o1) (.cells c2 t2)).1
  rwa [World.size_alloc] at this
theorem al_2 (w : World) (o1 o2 : Obj) (c3 : Array Value) (t3 : TypeId) : (((w.alloc o1).alloc o2).alloc (.cells c3 t3)).heap[w.heap.size + 1 + 1]? = some (.cells c3 t3 (0, 0)) := by
  have := (MapKept.heap_alloc ((w.alloc o1).alloc o2) (.cells c3 t3)).1
  rwa [World.size_alloc, World.size_alloc] at this
theorem stat_cells {w : World} {R : Nat} {x0 x1 x2 x3 x4 x5 x6 x7 x8 x9 x10 x11 x12 : Value} (h : w.heap[R]? = some (.cells #[x0, x1, x2, x3, x4, x5, x6, x7, x8, x9, x10, x11, x12] 55 (0, 0))) : w.cell? ⟨R, 0, none⟩ = some x0 ∧ w.cell? ⟨R, 1, none⟩ = some x1 ∧ w.cell? ⟨R, 2, none⟩ = some x2 ∧ w.cell? ⟨R, 3, none⟩ = some x3 ∧ w.cell? ⟨R, 4, none⟩ = some x4 ∧ w.cell? ⟨R, 5, none⟩ = some x5 ∧ w.cell? ⟨R, 6, none⟩ = some x6 ∧ w.cell? ⟨R, 7, none⟩ = some x7 ∧ w.cell? ⟨R, 8, none⟩ = some x8 ∧ w.cell? ⟨R, 9, none⟩ = some x9 ∧ w.cell? ⟨R, 10, none⟩ = some x10 ∧ w.cell? ⟨R, 11, none⟩ = some x11 ∧ w.cell? ⟨R, 12, none⟩ = some x12 := by
  refine ⟨?_, ?_, ?_, ?_, ?_, ?_, ?_, ?_, ?_, ?_, ?_, ?_, ?_⟩ <;> (rw [cell_of_row w R _ _ _ (0, 0) h]; rfl)
set_option maxHeartbeats 8000000 in
set_option maxRecDepth 100000 in
theorem Record_any (w : World) (d : Nd) (hm : d.mode < 4294967296) :
    Calls Tryz.prog 18 #[.agg #[.int .u64 d.path, .int .u64 d.parent, .string d.name, .int .u32 d.mode, .string d.uid, .string d.gid, .string d.muid, .int .u32 d.atime, .int .u32 d.mtime, .int .u32 d.vers, .int .u64 d.length, .int .i64 d.opens, .int .i64 d.kids]] w fun e w' => e = .returned (.agg (recV d)) ∧ Kept [] w w' := by
  have DD : Hid (∀ w', Calls Tryz.prog 42 #[.agg #[.int .u64 d.path, .int .u64 d.parent, .string d.name, .int .u32 d.mode, .string d.uid, .string d.gid, .string d.muid, .int .u32 d.atime, .int .u32 d.mtime, .int .u32 d.vers, .int .u64 d.length, .int .i64 d.opens, .int .i64 d.kids]] w' fun e w'' => e = .returned (.bool (dirV d)) ∧ Kept [] w' w'') := fun w' => isDir_any w' d
  cases hd : dirV d with
  | false =>
    rw [hd] at DD
    go_enter Tryz.func18, Tryz.ntmps18
    go_upto_region 2 with fail
    go_wp2_with (first | (go_at_call 42; refine (DD.out _).mono ?_; rintro e w2 ⟨rfl, k2⟩; have K2 : Hid (Kept [] w w2) := ((((Kept.refl [] w).alloc _).alloc _).alloc _).trans k2 (fun i hi => by cases hi); have b2 := (k2.block (w.heap.size + 1) (by rw [World.size_alloc, World.size_alloc, World.size_alloc]; omega) (by simp)).trans (al_1 w _ _ _ _); have b3 := (k2.block (w.heap.size + 1 + 1) (by rw [World.size_alloc, World.size_alloc, World.size_alloc]; omega) (by simp)).trans (al_2 w _ _ _ _); obtain ⟨q0, q1, q2, q3, q4, q5, q6, q7, q8, q9, q10, q11, q12⟩ := stat_cells b3; have fz := frozen_of_row w2 (w.heap.size + 1 + 1) 8 _ _ b3; have B2 := Lib.hid b2; clear b2 k2) | (refine wpList_sstat rfl (.tmp 2) (.tmp 33) rfl (w.heap.size + 1) rfl _ #[.int .u16 0, .int .u32 0, .int .u8 ((d.mode : Int) / 16777216), .int .u32 d.vers, .int .u64 d.path, .int .u32 d.mode, .int .u32 d.atime, .int .u32 d.mtime, .int .u64 d.length, .string d.name, .string d.uid, .string d.gid, .string d.muid] rfl (B2.out) rfl rfl (by simp [Value.oneCell']) ?_; intro w4 b4 k4; have K4 : Hid (Kept [] w w4) := (K2.out).trans k4 (fun i hi => Or.inr (by have h := List.mem_singleton.1 hi; omega)); obtain ⟨g0, g1, g2, g3, g4, g5, g6, g7, g8, g9, g10, g11, g12⟩ := stat_cells b4))
    refine bodyPost_ret (v := .agg #[.int .u16 0, .int .u32 0, .int .u8 ((d.mode : Int) / 16777216), .int .u32 d.vers, .int .u64 d.path, .int .u32 d.mode, .int .u32 d.atime, .int .u32 d.mtime, .int .u64 d.length, .string d.name, .string d.uid, .string d.gid, .string d.muid]) (by simp [results, Tryz.results18, go_sem, g0, g1, g2, g3, g4, g5, g6, g7, g8, g9, g10, g11, g12]) rfl ⟨?_, K4.out⟩
    unfold recV recLen
    rw [hd]
    rfl
  | true =>
    rw [hd] at DD
    go_enter Tryz.func18, Tryz.ntmps18
    go_upto_region 2 with fail
    go_wp2_with (first | (go_at_call 42; refine (DD.out _).mono ?_; rintro e w2 ⟨rfl, k2⟩; have K2 : Hid (Kept [] w w2) := ((((Kept.refl [] w).alloc _).alloc _).alloc _).trans k2 (fun i hi => by cases hi); have b2 := (k2.block (w.heap.size + 1) (by rw [World.size_alloc, World.size_alloc, World.size_alloc]; omega) (by simp)).trans (al_1 w _ _ _ _); have b3 := (k2.block (w.heap.size + 1 + 1) (by rw [World.size_alloc, World.size_alloc, World.size_alloc]; omega) (by simp)).trans (al_2 w _ _ _ _); obtain ⟨q0, q1, q2, q3, q4, q5, q6, q7, q8, q9, q10, q11, q12⟩ := stat_cells b3; have fz := frozen_of_row w2 (w.heap.size + 1 + 1) 8 _ _ b3; have B2 := Lib.hid b2; clear b2 k2) | (refine wpList_sstat rfl (.tmp 2) (.tmp 33) rfl (w.heap.size + 1) rfl _ #[.int .u16 0, .int .u32 0, .int .u8 ((d.mode : Int) / 16777216), .int .u32 d.vers, .int .u64 d.path, .int .u32 d.mode, .int .u32 d.atime, .int .u32 d.mtime, .int .u64 0, .string d.name, .string d.uid, .string d.gid, .string d.muid] rfl ((Below.heap_setCell _ _ _ _ (by simp)).trans B2.out) rfl rfl (by simp [Value.oneCell']) ?_; intro w4 b4 k4; have K4 : Hid (Kept [] w w4) := (K2.out.setCell (p := ⟨w.heap.size + 1 + 1, 8, none⟩) (Or.inr (show w.heap.size ≤ w.heap.size + 1 + 1 by omega)) _).trans k4 (fun i hi => Or.inr (by have h := List.mem_singleton.1 hi; omega)); obtain ⟨g0, g1, g2, g3, g4, g5, g6, g7, g8, g9, g10, g11, g12⟩ := stat_cells b4))
    refine bodyPost_ret (v := .agg #[.int .u16 0, .int .u32 0, .int .u8 ((d.mode : Int) / 16777216), .int .u32 d.vers, .int .u64 d.path, .int .u32 d.mode, .int .u32 d.atime, .int .u32 d.mtime, .int .u64 0, .string d.name, .string d.uid, .string d.gid, .string d.muid]) (by simp [results, Tryz.results18, go_sem, g0, g1, g2, g3, g4, g5, g6, g7, g8, g9, g10, g11, g12]) rfl ⟨?_, K4.out⟩
    unfold recV recLen
    rw [hd]
    rfl
end Ru
end Go.Proofs.YteeheapenfklcaaGreatDoor
