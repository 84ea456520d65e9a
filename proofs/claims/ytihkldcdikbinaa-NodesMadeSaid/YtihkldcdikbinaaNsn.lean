/- What maySet, isDir and told of nodes do. -/
import Derived.Test.YtihkldcdikbinaaNsm
namespace Go.Proofs.Ytihkldcdikbinaa
set_option linter.unusedVariables false
open Go.RowKit
namespace Nd
open Go.Proofs.Ytihkldcdikbinaa.Utf Go.Proofs.Ytihkldcdikbinaa.Txt Go.PlainAid

/-- A node lies at block b. -/
def NodeAt (w : World) (b : Nat) (d : Is) (lk : Int) (ks : Value) (m : Nat) : Prop := w.heap[b]? = some (.cells (nodeC d lk ks m) 105 (0, 0))
structure Cells (w : World) (b : Nat) (d : Is) (lk : Int) (ks : Value) (m : Nat) : Prop where
  c0 : w.cell? ⟨b, 0, none⟩ = some (.int .i32 lk)
  c1 : w.cell? ⟨b, 1, none⟩ = some (.int .u32 0)
  c2 : w.cell? ⟨b, 2, none⟩ = some (.int .u64 d.path)
  c3 : w.cell? ⟨b, 3, none⟩ = some (.int .u64 d.parent)
  c4 : w.cell? ⟨b, 4, none⟩ = some (.string d.name)
  c5 : w.cell? ⟨b, 5, none⟩ = some (.int .u32 d.mode)
  c6 : w.cell? ⟨b, 6, none⟩ = some (.string d.uid)
  c7 : w.cell? ⟨b, 7, none⟩ = some (.string d.gid)
  c8 : w.cell? ⟨b, 8, none⟩ = some (.string d.muid)
  c9 : w.cell? ⟨b, 9, none⟩ = some (.int .u32 d.atime)
  c10 : w.cell? ⟨b, 10, none⟩ = some (.int .u32 d.mtime)
  c11 : w.cell? ⟨b, 11, none⟩ = some (.int .u32 d.vers)
  c12 : w.cell? ⟨b, 12, none⟩ = some (.int .u64 d.length)
  c13 : w.cell? ⟨b, 13, none⟩ = some (.int .i64 d.opens)
  c14 : w.cell? ⟨b, 14, none⟩ = some (.int .i64 0)
  c15 : w.cell? ⟨b, 15, none⟩ = some ks
  c16 : w.cell? ⟨b, 16, none⟩ = some (.map (some m))
  fz : ∀ i, w.frozen? ⟨b, i, none⟩ = false
theorem NodeAt.cells {w : World} {b : Nat} {d : Is} {lk : Int} {ks : Value} {m : Nat} (h : NodeAt w b d lk ks m) : Cells w b d lk ks m := by
  have key := fun i => cell_of_row w b i _ 105 (0, 0) h
  refine ⟨?_, ?_, ?_, ?_, ?_, ?_, ?_, ?_, ?_, ?_, ?_, ?_, ?_, ?_, ?_, ?_, ?_, fun i => by simp [World.frozen?, show w.heap[b]? = _ from h]⟩ <;> rw [key] <;> rfl
theorem NodeAt.lt {w : World} {b : Nat} {d : Is} {lk : Int} {ks : Value} {m : Nat} (h : NodeAt w b d lk ks m) : b < w.heap.size := block_lt h

/-- A node's fields in a block of their own. -/
structure IsC (w : World) (B : Nat) (d : Is) (k : Int) : Prop where
  i0 : w.cell? ⟨B, 0, none⟩ = some (.int .u64 d.path)
  i1 : w.cell? ⟨B, 1, none⟩ = some (.int .u64 d.parent)
  i2 : w.cell? ⟨B, 2, none⟩ = some (.string d.name)
  i3 : w.cell? ⟨B, 3, none⟩ = some (.int .u32 d.mode)
  i4 : w.cell? ⟨B, 4, none⟩ = some (.string d.uid)
  i5 : w.cell? ⟨B, 5, none⟩ = some (.string d.gid)
  i6 : w.cell? ⟨B, 6, none⟩ = some (.string d.muid)
  i7 : w.cell? ⟨B, 7, none⟩ = some (.int .u32 d.atime)
  i8 : w.cell? ⟨B, 8, none⟩ = some (.int .u32 d.mtime)
  i9 : w.cell? ⟨B, 9, none⟩ = some (.int .u32 d.vers)
  i10 : w.cell? ⟨B, 10, none⟩ = some (.int .u64 d.length)
  i11 : w.cell? ⟨B, 11, none⟩ = some (.int .i64 d.opens)
  i12 : w.cell? ⟨B, 12, none⟩ = some (.int .i64 k)
theorem IsC.of {w : World} {B : Nat} {d : Is} {k : Int} {t : TypeId} (h : Bx w B t (isL d k).toArray) : IsC w B d k := ⟨h.cell 0 rfl, h.cell 1 rfl, h.cell 2 rfl, h.cell 3 rfl, h.cell 4 rfl, h.cell 5 rfl, h.cell 6 rfl, h.cell 7 rfl, h.cell 8 rfl, h.cell 9 rfl, h.cell 10 rfl, h.cell 11 rfl, h.cell 12 rfl⟩
/-- Is it a directory? -/
def isDirM (m : Nat) : Bool := !(bits .and .u32 (m : Int) 2147483648 == 0)
theorem isDir_any (w : World) (b : Nat) (d : Is) (lk : Int) (ks : Value) (m : Nat) (h : NodeAt w b d lk ks m) :
    Calls Try.prog 66 #[.pointer (some ⟨b, 0, none⟩)] w fun e w' => e = .returned (.bool (isDirM d.mode)) ∧ w' = w := by
  have C5 := h.cells.c5
  go_enter Try.func66, Try.ntmps66
  go_wp2_with fail
  go_ret
  exact ⟨rfl, rfl⟩

/-- May a new node's fields be? -/
def newOk (d : Is) : Bool := modeOk d.mode && (userOk d.uid && (userOk d.gid && userOk d.muid))
theorem maySet15_any (w : World) (d : Is) (k : Int) (h1 : d.uid.size ≤ 140737488355328) (h2 : d.gid.size ≤ 140737488355328) (h3 : d.muid.size ≤ 140737488355328) :
    Calls Try.prog 67 #[.int .u8 15, .agg (isL d k).toArray] w fun e w' => e = .returned (.bool (newOk d)) ∧ Kept [] w w' := by
  have MO := Lib.hid (fun w => isMode_any w d.mode)
  have U1 := Lib.hid (fun w => isUser_any w d.uid h1)
  have U2 := Lib.hid (fun w => isUser_any w d.gid h2)
  have U3 := Lib.hid (fun w => isUser_any w d.muid h3)
  unfold newOk isL
  generalize modeOk d.mode = q0 at MO ⊢
  generalize hu1 : userOk d.uid = q1 at U1 ⊢
  generalize hu2 : userOk d.gid = q2 at U2 ⊢
  generalize hu3 : userOk d.muid = q3 at U3 ⊢
  clear hu1 hu2 hu3
  have X0 := Lib.hid (Bx.made w 41 #[.int .u64 d.path, .int .u64 d.parent, .string d.name, .int .u32 d.mode, .string d.uid, .string d.gid, .string d.muid, .int .u32 d.atime, .int .u32 d.mtime, .int .u32 d.vers, .int .u64 d.length, .int .i64 d.opens, .int .i64 k])
  have B0 : bits .andNot .u8 15 127 = 0 := by decide
  have B1 : bits .and .u8 15 1 = 1 := by decide
  have B2 : bits .and .u8 15 2 = 2 := by decide
  have B4 : bits .and .u8 15 4 = 4 := by decide
  have B8 : bits .and .u8 15 8 = 8 := by decide
  cases q0
  · go_enter Try.func67, Try.ntmps67
    go_wp2_with (first | (go_at_call 86; refine (MO.out _).mono ?_; rintro e w2 ⟨rfl, rfl⟩) | (go_at_call 59; (with_reducible refine (U1.out _).mono ?_); rintro e w3 ⟨rfl, k3⟩; have X3 := Lib.hid (X0.out.kept k3 (fun h => by cases h)); have x5 := X3.out.cell 5 rfl) | (go_at_call 59; (with_reducible refine (U2.out _).mono ?_); rintro e w4 ⟨rfl, k4⟩; have X4 := Lib.hid (X3.out.kept k4 (fun h => by cases h)); have x6 := X4.out.cell 6 rfl) | (go_at_call 59; (with_reducible refine (U3.out _).mono ?_); rintro e w5 ⟨rfl, k5⟩))
    go_ret
    exact ⟨rfl, (Kept.refl _ w).alloc _⟩
  cases q1
  · go_enter Try.func67, Try.ntmps67
    go_wp2_with (first | (go_at_call 86; refine (MO.out _).mono ?_; rintro e w2 ⟨rfl, rfl⟩) | (go_at_call 59; (with_reducible refine (U1.out _).mono ?_); rintro e w3 ⟨rfl, k3⟩; have X3 := Lib.hid (X0.out.kept k3 (fun h => by cases h)); have x5 := X3.out.cell 5 rfl) | (go_at_call 59; (with_reducible refine (U2.out _).mono ?_); rintro e w4 ⟨rfl, k4⟩; have X4 := Lib.hid (X3.out.kept k4 (fun h => by cases h)); have x6 := X4.out.cell 6 rfl) | (go_at_call 59; (with_reducible refine (U3.out _).mono ?_); rintro e w5 ⟨rfl, k5⟩))
    go_ret
    exact ⟨rfl, ((Kept.refl _ w).alloc _).trans k3 (fun i hi => by cases hi)⟩
  cases q2
  · go_enter Try.func67, Try.ntmps67
    go_wp2_with (first | (go_at_call 86; refine (MO.out _).mono ?_; rintro e w2 ⟨rfl, rfl⟩) | (go_at_call 59; (with_reducible refine (U1.out _).mono ?_); rintro e w3 ⟨rfl, k3⟩; have X3 := Lib.hid (X0.out.kept k3 (fun h => by cases h)); have x5 := X3.out.cell 5 rfl) | (go_at_call 59; (with_reducible refine (U2.out _).mono ?_); rintro e w4 ⟨rfl, k4⟩; have X4 := Lib.hid (X3.out.kept k4 (fun h => by cases h)); have x6 := X4.out.cell 6 rfl) | (go_at_call 59; (with_reducible refine (U3.out _).mono ?_); rintro e w5 ⟨rfl, k5⟩))
    go_ret
    exact ⟨rfl, (((Kept.refl _ w).alloc _).trans k3 (fun i hi => by cases hi)).trans k4 (fun i hi => by cases hi)⟩
  cases q3
  · go_enter Try.func67, Try.ntmps67
    go_wp2_with (first | (go_at_call 86; refine (MO.out _).mono ?_; rintro e w2 ⟨rfl, rfl⟩) | (go_at_call 59; (with_reducible refine (U1.out _).mono ?_); rintro e w3 ⟨rfl, k3⟩; have X3 := Lib.hid (X0.out.kept k3 (fun h => by cases h)); have x5 := X3.out.cell 5 rfl) | (go_at_call 59; (with_reducible refine (U2.out _).mono ?_); rintro e w4 ⟨rfl, k4⟩; have X4 := Lib.hid (X3.out.kept k4 (fun h => by cases h)); have x6 := X4.out.cell 6 rfl) | (go_at_call 59; (with_reducible refine (U3.out _).mono ?_); rintro e w5 ⟨rfl, k5⟩))
    go_ret
    exact ⟨rfl, ((((Kept.refl _ w).alloc _).trans k3 (fun i hi => by cases hi)).trans k4 (fun i hi => by cases hi)).trans k5 (fun i hi => by cases hi)⟩
  · go_enter Try.func67, Try.ntmps67
    go_wp2_with (first | (go_at_call 86; refine (MO.out _).mono ?_; rintro e w2 ⟨rfl, rfl⟩) | (go_at_call 59; (with_reducible refine (U1.out _).mono ?_); rintro e w3 ⟨rfl, k3⟩; have X3 := Lib.hid (X0.out.kept k3 (fun h => by cases h)); have x5 := X3.out.cell 5 rfl) | (go_at_call 59; (with_reducible refine (U2.out _).mono ?_); rintro e w4 ⟨rfl, k4⟩; have X4 := Lib.hid (X3.out.kept k4 (fun h => by cases h)); have x6 := X4.out.cell 6 rfl) | (go_at_call 59; (with_reducible refine (U3.out _).mono ?_); rintro e w5 ⟨rfl, k5⟩))
    go_ret
    exact ⟨rfl, ((((Kept.refl _ w).alloc _).trans k3 (fun i hi => by cases hi)).trans k4 (fun i hi => by cases hi)).trans k5 (fun i hi => by cases hi)⟩
end Nd
end Go.Proofs.Ytihkldcdikbinaa
