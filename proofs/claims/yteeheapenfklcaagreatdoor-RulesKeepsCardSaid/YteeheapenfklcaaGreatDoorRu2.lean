/- rules: may, mayWrite, isDir, isRoot, Wants, Perm, Step, Remove. -/
import Derived.Test.YteeheapenfklcaaGreatDoorRu1
namespace Go.Proofs.YteeheapenfklcaaGreatDoor
set_option linter.unusedVariables false
open Go.RowKit Go.Shelf
attribute [local go_sem] Oper.semAt_some
namespace Ru
open Go.Proofs.YteeheapenfklcaaGreatDoor.Utf Go.Proofs.YteeheapenfklcaaGreatDoor.Txt Go.PlainAid Go.Proofs.YteeheapenfklcaaGreatDoor.Mpf Go.Proofs.YteeheapenfklcaaGreatDoor.Us
/-- The rights of a user on a node. -/
def rightsV (T : List Acc) (u : ByteArray) (d : Nd) : Int := rOf (decide (u = d.uid)) (member T u d.gid) d.mode
def mayV (T : List Acc) (u : ByteArray) (d : Nd) (x : Int) : Bool := bits .andNot .u8 x (rightsV T u d) == 0
def dirV (d : Nd) : Bool := bits .and .u32 (d.mode : Int) 2147483648 != 0
theorem nd_cells {w : World} {R : Nat} {d : Nd} (h : w.heap[R]? = some (.cells d.L.toArray 46 (0, 0))) : w.cell? ⟨R, 0, none⟩ = some (Value.int .u64 d.path) ∧ w.cell? ⟨R, 1, none⟩ = some (Value.int .u64 d.parent) ∧ w.cell? ⟨R, 2, none⟩ = some (Value.string d.name) ∧ w.cell? ⟨R, 3, none⟩ = some (Value.int .u32 d.mode) ∧ w.cell? ⟨R, 4, none⟩ = some (Value.string d.uid) ∧ w.cell? ⟨R, 5, none⟩ = some (Value.string d.gid) ∧ w.cell? ⟨R, 6, none⟩ = some (Value.string d.muid) ∧ w.cell? ⟨R, 7, none⟩ = some (Value.int .u32 d.atime) ∧ w.cell? ⟨R, 8, none⟩ = some (Value.int .u32 d.mtime) ∧ w.cell? ⟨R, 9, none⟩ = some (Value.int .u32 d.vers) ∧ w.cell? ⟨R, 10, none⟩ = some (Value.int .u64 d.length) ∧ w.cell? ⟨R, 11, none⟩ = some (Value.int .i64 d.opens) ∧ w.cell? ⟨R, 12, none⟩ = some (Value.int .i64 d.kids) := by
  refine ⟨?_, ?_, ?_, ?_, ?_, ?_, ?_, ?_, ?_, ?_, ?_, ?_, ?_⟩ <;> (rw [cell_of_row w R _ _ _ (0, 0) h]; rfl)
section
variable {w : World} {B p : Nat} {T : List Acc}
theorem isDir_any (w : World) (d : Nd) : Calls Tryz.prog 42 #[d.V] w fun e w' => e = .returned (.bool (dirV d)) ∧ Kept [] w w' := by
  obtain ⟨path, parent, name, mode, uid, gid, muid, atime, mtime, vers, length, opens, kids⟩ := d
  simp only [Nd.V, Nd.L, dirV]
  go_enter Tryz.func42, Tryz.ntmps42
  go_wp2_with fail
  go_ret
  exact ⟨rfl, (Kept.refl _ _).alloc _⟩
theorem may_any (h : Tb w B p T) (u : ByteArray) (d : Nd) (x : Int) (hu : u.size ≤ maxLen) (hg : d.gid.size ≤ maxLen) :
    Calls Tryz.prog 67 #[whoV p u, d.V, .int .u8 x] w fun e w' => e = .returned (.bool (mayV T u d x)) ∧ Kept [] w w' := by
  have RI := Lib.hid (fun w' k => rights_any (w := w') (h.kept k) u d hu hg)
  have HV : Hid (mayV T u d x = (bits .andNot .u8 x (rOf (decide (u = d.uid)) (member T u d.gid) d.mode) == 0)) := rfl
  obtain ⟨z, hz⟩ : ∃ z, z = mayV T u d x := ⟨_, rfl⟩
  rw [← hz] at HV ⊢
  obtain ⟨r, hr⟩ : ∃ r, r = rOf (decide (u = d.uid)) (member T u d.gid) d.mode := ⟨_, rfl⟩
  rw [← hr] at RI HV
  obtain ⟨path, parent, name, mode, uid, gid, muid, atime, mtime, vers, length, opens, kids⟩ := d
  simp only [Nd.V, Nd.L, whoV] at RI ⊢
  have KA : Hid (Kept [] w ((w.alloc (.cells #[.pointer (some ⟨p, 0, none⟩), .string u] 97)).alloc (.cells #[.int .u64 path, .int .u64 parent, .string name, .int .u32 mode, .string uid, .string gid, .string muid, .int .u32 atime, .int .u32 mtime, .int .u32 vers, .int .u64 length, .int .i64 opens, .int .i64 kids] 46))) := ((Kept.refl _ _).alloc _).alloc _
  have RIA := Lib.hid (RI.out _ KA.out)
  clear RI h hz hr
  go_enter Tryz.func67, Tryz.ntmps67
  go_wp2_with (first | (go_at_call 69; refine RIA.out.mono ?_; rintro e w2 ⟨rfl, k2⟩))
  go_ret
  exact ⟨by rw [HV.out]; rfl, KA.out.trans k2 (fun i hi => by cases hi)⟩
theorem mayWrite_any (h : Tb w B p T) (u : ByteArray) (d : Nd) (hu : u.size ≤ maxLen) (hg : d.gid.size ≤ maxLen) :
    Calls Tryz.prog 68 #[whoV p u, d.V] w fun e w' => e = .returned (.bool (mayV T u d 2)) ∧ Kept [] w w' := by
  have RI := Lib.hid (fun w' k => may_any (w := w') (h.kept k) u d 2 hu hg)
  obtain ⟨z, hz⟩ : ∃ z, z = mayV T u d 2 := ⟨_, rfl⟩
  rw [← hz] at RI ⊢
  obtain ⟨path, parent, name, mode, uid, gid, muid, atime, mtime, vers, length, opens, kids⟩ := d
  simp only [Nd.V, Nd.L, whoV] at RI ⊢
  have KA : Hid (Kept [] w ((w.alloc (.cells #[.pointer (some ⟨p, 0, none⟩), .string u] 97)).alloc (.cells #[.int .u64 path, .int .u64 parent, .string name, .int .u32 mode, .string uid, .string gid, .string muid, .int .u32 atime, .int .u32 mtime, .int .u32 vers, .int .u64 length, .int .i64 opens, .int .i64 kids] 46))) := ((Kept.refl _ _).alloc _).alloc _
  have RIA := Lib.hid (RI.out _ KA.out)
  clear RI h hz
  go_enter Tryz.func68, Tryz.ntmps68
  go_wp2_with (first | (go_at_call 67; refine RIA.out.mono ?_; rintro e w2 ⟨rfl, k2⟩))
  go_ret
  exact ⟨rfl, KA.out.trans k2 (fun i hi => by cases hi)⟩
theorem rights_t (h : Tb w B p T) (u : ByteArray) (d : Nd) (hu : u.size ≤ maxLen) (hg : d.gid.size ≤ maxLen) :
    Calls Tryz.prog 38 #[.pointer (some ⟨p, 0, none⟩), .string u, d.V] w fun e w' => e = .returned (.int .u8 (rightsV T u d)) ∧ Kept [] w w' := by
  have RI : Hid (∀ w', Kept [] w w' → Calls Tryz.prog 69 #[whoV p u, d.V] w' fun e w'' => e = .returned (.int .u8 (rightsV T u d)) ∧ Kept [] w' w'') := fun w' k => rights_any (w := w') (h.kept k) u d hu hg
  have AS := Lib.hid (fun w => asks_any w p u)
  obtain ⟨z, hz⟩ : ∃ z, z = rightsV T u d := ⟨_, rfl⟩
  rw [← hz] at RI ⊢
  obtain ⟨w1, hw1⟩ : ∃ w1, w1 = w.alloc (.cells d.L.toArray 46) := ⟨_, rfl⟩
  obtain ⟨R, hR⟩ : ∃ R, R = w.heap.size := ⟨_, rfl⟩
  have b1 : w1.heap[R]? = some (.cells d.L.toArray 46 (0, 0)) := by rw [hw1, hR]; exact (MapKept.heap_alloc w _).1
  have K1 : Hid (Kept [] w w1) := by rw [hw1]; exact (Kept.refl _ _).alloc _
  have CE : Hid (∀ wr, Kept [] w1 wr → _) := fun wr k => nd_cells ((k.block _ (block_lt b1) (by simp)).trans b1)
  have HW1 := Lib.hid hw1
  have HR := Lib.hid hR
  have kd : Kept [] w1 w1.drew := (Kept.refl [] w1).drew
  clear hw1 hR h hz b1
  obtain ⟨path, parent, name, mode, uid, gid, muid, atime, mtime, vers, length, opens, kids⟩ := d
  simp only [Nd.V, Nd.L, whoV] at RI AS CE HW1 ⊢
  go_enter Tryz.func38, Tryz.ntmps38
  go_wp2_with fail
  rw [← HW1.out, ← HR.out]
  go_region_held3 (fun w' => w'.cell? ⟨R, 0, none⟩ = some (Value.int .u64 path) ∧ w'.cell? ⟨R, 1, none⟩ = some (Value.int .u64 parent) ∧ w'.cell? ⟨R, 2, none⟩ = some (Value.string name) ∧ w'.cell? ⟨R, 3, none⟩ = some (Value.int .u32 mode) ∧ w'.cell? ⟨R, 4, none⟩ = some (Value.string uid) ∧ w'.cell? ⟨R, 5, none⟩ = some (Value.string gid) ∧ w'.cell? ⟨R, 6, none⟩ = some (Value.string muid) ∧ w'.cell? ⟨R, 7, none⟩ = some (Value.int .u32 atime) ∧ w'.cell? ⟨R, 8, none⟩ = some (Value.int .u32 mtime) ∧ w'.cell? ⟨R, 9, none⟩ = some (Value.int .u32 vers) ∧ w'.cell? ⟨R, 10, none⟩ = some (Value.int .u64 length) ∧ w'.cell? ⟨R, 11, none⟩ = some (Value.int .i64 opens) ∧ w'.cell? ⟨R, 12, none⟩ = some (Value.int .i64 kids)) (first | exact CE.out _ kd | exact CE.out _ K2 | exact CE.out _ K3) (first | (go_at_call 39; refine (AS.out _).mono ?_; rintro e w2 ⟨rfl, k2⟩; have K2 : Kept [] w1 w2 := kd.trans k2 (fun i hi => by cases hi)) | (go_at_call 69; refine (RI.out _ (K1.out.trans K2 (fun i hi => by cases hi))).mono ?_; rintro e w3 ⟨rfl, k3⟩; have K3 : Kept [] w1 w3 := K2.trans k3 (fun i hi => by cases hi)))
  go_wp2_with fail
  go_ret
  exact ⟨rfl, K1.out.trans K3 (fun i hi => by cases hi)⟩
end
end Ru
end Go.Proofs.YteeheapenfklcaaGreatDoor
