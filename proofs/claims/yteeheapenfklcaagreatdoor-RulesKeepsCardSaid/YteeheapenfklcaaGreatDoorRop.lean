/- rules: facts as they lie; Open, Remove, Closes, Step of whatever arguments. -/
import Derived.Test.YteeheapenfklcaaGreatDoorRwt
namespace Go.Proofs.YteeheapenfklcaaGreatDoor
set_option linter.unusedVariables false
open Go.RowKit Go.Shelf
attribute [local go_sem] Oper.semAt_some
namespace Ru
open Go.Proofs.YteeheapenfklcaaGreatDoor.Utf Go.Proofs.YteeheapenfklcaaGreatDoor.Txt Go.PlainAid Go.Proofs.YteeheapenfklcaaGreatDoor.Mpf Go.Proofs.YteeheapenfklcaaGreatDoor.Us

/-- Facts: a node, its parent, taken, full. -/
def factsV (n p : Nd) (tk fl : Bool) : Value := .agg #[.int .u64 n.path, .int .u64 n.parent, .string n.name, .int .u32 n.mode, .string n.uid, .string n.gid, .string n.muid, .int .u32 n.atime, .int .u32 n.mtime, .int .u32 n.vers, .int .u64 n.length, .int .i64 n.opens, .int .i64 n.kids, .int .u64 p.path, .int .u64 p.parent, .string p.name, .int .u32 p.mode, .string p.uid, .string p.gid, .string p.muid, .int .u32 p.atime, .int .u32 p.mtime, .int .u32 p.vers, .int .u64 p.length, .int .i64 p.opens, .int .i64 p.kids, .bool tk, .bool fl]
def whoA (q : Nat) (u : ByteArray) : Array Value := #[.pointer (some ⟨q, 0, none⟩), .string u]
def Bf (w : World) (R : Nat) (n p : Nd) (tk fl : Bool) : Prop := w.heap[R]? = some (.cells #[.int .u64 n.path, .int .u64 n.parent, .string n.name, .int .u32 n.mode, .string n.uid, .string n.gid, .string n.muid, .int .u32 n.atime, .int .u32 n.mtime, .int .u32 n.vers, .int .u64 n.length, .int .i64 n.opens, .int .i64 n.kids, .int .u64 p.path, .int .u64 p.parent, .string p.name, .int .u32 p.mode, .string p.uid, .string p.gid, .string p.muid, .int .u32 p.atime, .int .u32 p.mtime, .int .u32 p.vers, .int .u64 p.length, .int .i64 p.opens, .int .i64 p.kids, .bool tk, .bool fl] 48 (0, 0))
theorem Bf.kept {S : List Nat} {w w' : World} {R : Nat} {n p : Nd} {tk fl : Bool} (h : Bf w R n p tk fl) (k : Kept S w w') (hn : R ∉ S) : Bf w' R n p tk fl := (k.block R (block_lt h) hn).trans h
set_option maxRecDepth 100000 in
theorem Bf.cells {w : World} {R : Nat} {n p : Nd} {tk fl : Bool} (h : Bf w R n p tk fl) : w.cell? ⟨R, 0, none⟩ = some (Value.int .u64 n.path) ∧ w.cell? ⟨R, 1, none⟩ = some (Value.int .u64 n.parent) ∧ w.cell? ⟨R, 2, none⟩ = some (Value.string n.name) ∧ w.cell? ⟨R, 3, none⟩ = some (Value.int .u32 n.mode) ∧ w.cell? ⟨R, 4, none⟩ = some (Value.string n.uid) ∧ w.cell? ⟨R, 5, none⟩ = some (Value.string n.gid) ∧ w.cell? ⟨R, 6, none⟩ = some (Value.string n.muid) ∧ w.cell? ⟨R, 7, none⟩ = some (Value.int .u32 n.atime) ∧ w.cell? ⟨R, 8, none⟩ = some (Value.int .u32 n.mtime) ∧ w.cell? ⟨R, 9, none⟩ = some (Value.int .u32 n.vers) ∧ w.cell? ⟨R, 10, none⟩ = some (Value.int .u64 n.length) ∧ w.cell? ⟨R, 11, none⟩ = some (Value.int .i64 n.opens) ∧ w.cell? ⟨R, 12, none⟩ = some (Value.int .i64 n.kids) ∧ w.cell? ⟨R, 13, none⟩ = some (Value.int .u64 p.path) ∧ w.cell? ⟨R, 14, none⟩ = some (Value.int .u64 p.parent) ∧ w.cell? ⟨R, 15, none⟩ = some (Value.string p.name) ∧ w.cell? ⟨R, 16, none⟩ = some (Value.int .u32 p.mode) ∧ w.cell? ⟨R, 17, none⟩ = some (Value.string p.uid) ∧ w.cell? ⟨R, 18, none⟩ = some (Value.string p.gid) ∧ w.cell? ⟨R, 19, none⟩ = some (Value.string p.muid) ∧ w.cell? ⟨R, 20, none⟩ = some (Value.int .u32 p.atime) ∧ w.cell? ⟨R, 21, none⟩ = some (Value.int .u32 p.mtime) ∧ w.cell? ⟨R, 22, none⟩ = some (Value.int .u32 p.vers) ∧ w.cell? ⟨R, 23, none⟩ = some (Value.int .u64 p.length) ∧ w.cell? ⟨R, 24, none⟩ = some (Value.int .i64 p.opens) ∧ w.cell? ⟨R, 25, none⟩ = some (Value.int .i64 p.kids) ∧ w.cell? ⟨R, 26, none⟩ = some (Value.bool tk) ∧ w.cell? ⟨R, 27, none⟩ = some (Value.bool fl) := by
  refine ⟨?_, ?_, ?_, ?_, ?_, ?_, ?_, ?_, ?_, ?_, ?_, ?_, ?_, ?_, ?_, ?_, ?_, ?_, ?_, ?_, ?_, ?_, ?_, ?_, ?_, ?_, ?_, ?_⟩ <;> (rw [cell_of_row w R _ _ _ (0, 0) h]; rfl)
def Bwh (w : World) (R q : Nat) (u : ByteArray) : Prop := w.heap[R]? = some (.cells #[.pointer (some ⟨q, 0, none⟩), .string u] 97 (0, 0))
theorem Bwh.kept {S : List Nat} {w w' : World} {R q : Nat} {u : ByteArray} (h : Bwh w R q u) (k : Kept S w w') (hn : R ∉ S) : Bwh w' R q u := (k.block R (block_lt h) hn).trans h
theorem Bwh.cells {w : World} {R q : Nat} {u : ByteArray} (h : Bwh w R q u) : w.cell? ⟨R, 0, none⟩ = some (Value.pointer (some ⟨q, 0, none⟩)) ∧ w.cell? ⟨R, 1, none⟩ = some (Value.string u) := by
  refine ⟨?_, ?_⟩ <;> (rw [cell_of_row w R _ _ _ (0, 0) h]; rfl)
/-- The error of Open. -/
def openE (T : List Acc) (u : ByteArray) (n p : Nd) (mode : Int) : Int :=
  if wantsE mode = 0 then
    if dirV n = true ∧ mode ≠ 0 then 92
    else if mayV T u n (wantsV mode) = false then 90
    else if bits .and .u8 mode 64 ≠ 0 ∧ mayV T u p 2 = false then 90
    else if bits .and .u32 (n.mode : Int) 536870912 ≠ 0 ∧ 0 < n.opens then 94 else 0
  else wantsE mode
set_option maxHeartbeats 16000000 in
set_option maxRecDepth 100000 in
theorem Open_any {w : World} {B q : Nat} {T : List Acc} (h : Tb w B q T) (u : ByteArray) (n p : Nd) (tk fl : Bool) (mode : Int) (hu : u.size ≤ maxLen) (hg : n.gid.size ≤ maxLen) (hg2 : p.gid.size ≤ maxLen) :
    Calls Tryz.prog 37 #[.pointer (some ⟨q, 0, none⟩), .string u, factsV n p tk fl, .int .u8 mode] w fun e w' => e = .returned (.int .i64 (openE T u n p mode)) ∧ Kept [] w w' := by
  obtain ⟨z, hz⟩ : ∃ z, z = openE T u n p mode := ⟨_, rfl⟩
  rw [← hz]
  unfold openE at hz
  obtain ⟨wv, hwv⟩ : ∃ x, x = wantsV mode := ⟨_, rfl⟩
  obtain ⟨we, hwe⟩ : ∃ x, x = wantsE mode := ⟨_, rfl⟩
  obtain ⟨dv, hdv⟩ : ∃ x, x = dirV n := ⟨_, rfl⟩
  obtain ⟨m1, hm1⟩ : ∃ x, x = mayV T u n wv := ⟨_, rfl⟩
  obtain ⟨m2, hm2⟩ : ∃ x, x = mayV T u p 2 := ⟨_, rfl⟩
  obtain ⟨b6, hb6⟩ : ∃ x, bits .and .u8 mode 64 = x := ⟨_, rfl⟩
  obtain ⟨bx, hbx⟩ : ∃ x, bits .and .u32 (n.mode : Int) 536870912 = x := ⟨_, rfl⟩
  rw [← hwe, ← hdv, ← hwv, ← hm1, ← hm2, hb6, hbx] at hz
  have AS : Hid (∀ w, Calls Tryz.prog 39 #[.pointer (some ⟨q, 0, none⟩), .string u] w fun e w' => e = .returned (.agg #[.pointer (some ⟨q, 0, none⟩), .string u]) ∧ Kept [] w w') := fun w => asks_any w q u
  have WW : Hid (∀ w, Calls Tryz.prog 36 #[.int .u8 mode] w fun e w' => e = .returned (.tuple #[.int .u8 wv, .int .i64 we]) ∧ w = w') := fun w => by rw [hwv, hwe]; exact Wants_any w mode
  have DD : Hid (∀ w', Calls Tryz.prog 42 #[.agg #[.int .u64 n.path, .int .u64 n.parent, .string n.name, .int .u32 n.mode, .string n.uid, .string n.gid, .string n.muid, .int .u32 n.atime, .int .u32 n.mtime, .int .u32 n.vers, .int .u64 n.length, .int .i64 n.opens, .int .i64 n.kids]] w' fun e w'' => e = .returned (.bool dv) ∧ Kept [] w' w'') := fun w' => by rw [hdv]; exact isDir_any w' n
  have MM : Hid (∀ w', Kept [] w w' → Calls Tryz.prog 67 #[.agg #[.pointer (some ⟨q, 0, none⟩), .string u], .agg #[.int .u64 n.path, .int .u64 n.parent, .string n.name, .int .u32 n.mode, .string n.uid, .string n.gid, .string n.muid, .int .u32 n.atime, .int .u32 n.mtime, .int .u32 n.vers, .int .u64 n.length, .int .i64 n.opens, .int .i64 n.kids], .int .u8 wv] w' fun e w'' => e = .returned (.bool m1) ∧ Kept [] w' w'') := fun w' k => by rw [hm1]; exact may_any (h.kept k) u n wv hu hg
  have MX : Hid (∀ w', Kept [] w w' → Calls Tryz.prog 68 #[.agg #[.pointer (some ⟨q, 0, none⟩), .string u], .agg #[.int .u64 p.path, .int .u64 p.parent, .string p.name, .int .u32 p.mode, .string p.uid, .string p.gid, .string p.muid, .int .u32 p.atime, .int .u32 p.mtime, .int .u32 p.vers, .int .u64 p.length, .int .i64 p.opens, .int .i64 p.kids]] w' fun e w'' => e = .returned (.bool m2) ∧ Kept [] w' w'') := fun w' k => by rw [hm2]; exact mayWrite_any (h.kept k) u p hu hg2
  have HZ := Lib.hid hz
  obtain ⟨w1, hw1⟩ : ∃ w1, w1 = w.alloc (.cells #[.int .u64 n.path, .int .u64 n.parent, .string n.name, .int .u32 n.mode, .string n.uid, .string n.gid, .string n.muid, .int .u32 n.atime, .int .u32 n.mtime, .int .u32 n.vers, .int .u64 n.length, .int .i64 n.opens, .int .i64 n.kids, .int .u64 p.path, .int .u64 p.parent, .string p.name, .int .u32 p.mode, .string p.uid, .string p.gid, .string p.muid, .int .u32 p.atime, .int .u32 p.mtime, .int .u32 p.vers, .int .u64 p.length, .int .i64 p.opens, .int .i64 p.kids, .bool tk, .bool fl] 48) := ⟨_, rfl⟩
  obtain ⟨R, hR⟩ : ∃ R, R = w.heap.size := ⟨_, rfl⟩
  have B1 : Hid (Bf w1 R n p tk fl) := by rw [hw1, hR]; exact (MapKept.heap_alloc w _).1
  have K1 : Hid (Kept [] w w1) := by rw [hw1]; exact (Kept.refl _ _).alloc _
  have HW1 := Lib.hid hw1
  have HR := Lib.hid hR
  unfold factsV
  clear hz hwv hwe hdv hm1 hm2 h hu hg hg2 hw1 hR
  all_goals
    go_enter Tryz.func37, Tryz.ntmps37
    go_wp2_with fail
    rw [← HW1.out, ← HR.out]
    refine (AS.out w1).mono ?_
    rintro e w2 ⟨rfl, k2⟩
    have k3 : Kept [] w1 (w2.alloc (.cells #[.pointer (some ⟨q, 0, none⟩), .string u] 97)) := k2.alloc _
    have b3 : Bwh (w2.alloc (.cells #[.pointer (some ⟨q, 0, none⟩), .string u] 97)) w2.heap.size q u := (MapKept.heap_alloc w2 _).1
    obtain ⟨w3, hw3⟩ : ∃ w3, w3 = w2.alloc (.cells #[.pointer (some ⟨q, 0, none⟩), .string u] 97) := ⟨_, rfl⟩
    obtain ⟨R9, hR9⟩ : ∃ R, R = w2.heap.size := ⟨_, rfl⟩
    rw [← hw3] at k3 b3
    rw [← hR9] at b3
    have K3 : Hid (Kept [] w w3) := K1.out.trans k3 (fun i hi => by cases hi)
    have F3 : Hid (Bf w3 R n p tk fl) := B1.out.kept k3 (by simp)
    have W3 := Lib.hid b3
    have HW3 := Lib.hid hw3
    have HR9 := Lib.hid hR9
    clear hw3 hR9 k2 k3 b3
    go_wp2_with fail
    rw [← HW3.out, ← HR9.out]
    refine (WW.out w3).mono ?_
    rintro e w4 ⟨rfl, rfl⟩
    obtain ⟨c0, c1, c2, c3, c4, c5, c6, c7, c8, c9, c10, c11, c12, c13, c14, c15, c16, c17, c18, c19, c20, c21, c22, c23, c24, c25, c26, c27⟩ := F3.out.cells
    obtain ⟨d0, d1⟩ := W3.out.cells
    go_wp2_with (first | (go_at_call 42; refine (DD.out _).mono ?_; rintro e w5 ⟨rfl, k5⟩; clear c0 c1 c2 c3 c4 c5 c6 c7 c8 c9 c10 c11 c12 c13 c14 c15 c16 c17 c18 c19 c20 c21 c22 c23 c24 c25 c26 c27 d0 d1; have K5 : Hid (Kept [] w w5) := K3.out.trans k5 (fun i hi => by cases hi); have F5 := Lib.hid (F3.out.kept k5 (by simp)); have W5 := Lib.hid (W3.out.kept k5 (by simp)); obtain ⟨c0, c1, c2, c3, c4, c5, c6, c7, c8, c9, c10, c11, c12, c13, c14, c15, c16, c17, c18, c19, c20, c21, c22, c23, c24, c25, c26, c27⟩ := F5.out.cells; obtain ⟨d0, d1⟩ := W5.out.cells; clear k5) | (go_at_call 67; refine (MM.out _ K5.out).mono ?_; rintro e w6 ⟨rfl, k6⟩; clear c0 c1 c2 c3 c4 c5 c6 c7 c8 c9 c10 c11 c12 c13 c14 c15 c16 c17 c18 c19 c20 c21 c22 c23 c24 c25 c26 c27 d0 d1; have K6 : Hid (Kept [] w w6) := K5.out.trans k6 (fun i hi => by cases hi); have F6 := Lib.hid (F5.out.kept k6 (by simp)); have W6 := Lib.hid (W5.out.kept k6 (by simp)); obtain ⟨c0, c1, c2, c3, c4, c5, c6, c7, c8, c9, c10, c11, c12, c13, c14, c15, c16, c17, c18, c19, c20, c21, c22, c23, c24, c25, c26, c27⟩ := F6.out.cells; obtain ⟨d0, d1⟩ := W6.out.cells; clear k6) | (go_at_call 68; refine (MX.out _ K6.out).mono ?_; rintro e w7 ⟨rfl, k7⟩; clear c0 c1 c2 c3 c4 c5 c6 c7 c8 c9 c10 c11 c12 c13 c14 c15 c16 c17 c18 c19 c20 c21 c22 c23 c24 c25 c26 c27 d0 d1; have K7 : Hid (Kept [] w w7) := K6.out.trans k7 (fun i hi => by cases hi); have F7 := Lib.hid (F6.out.kept k7 (by simp)); obtain ⟨c0, c1, c2, c3, c4, c5, c6, c7, c8, c9, c10, c11, c12, c13, c14, c15, c16, c17, c18, c19, c20, c21, c22, c23, c24, c25, c26, c27⟩ := F7.out.cells; clear k7))
    all_goals
     go_ret
     refine ⟨?_, by first | exact K7.out | exact K6.out | exact K5.out | exact K3.out⟩
     have hz := HZ.out
     clear HZ AS WW DD MM MX B1 HW1 HR K1 HW3 HR9 c0 c1 c2 c3 c4 c5 c6 c7 c8 c9 c10 c11 c12 c13 c14 c15 c16 c17 c18 c19 c20 c21 c22 c23 c24 c25 c26 c27
     simp_all
end Ru
end Go.Proofs.YteeheapenfklcaaGreatDoor
