/- A record as stat's calls have it (for seats without the wire): structure, cells, how it lies. The table of a record's fields: what each row's functions do. The table of a record's fields, as it lies in memory. -/
import Derived.Laws.EntriesVeiled
import Derived.Test.YtahjmpfjidijaaaGreatDoorGaa
import Derived.Test.YtahjmpfjidijaaaGreatDoorGab
import Derived.Test.YtahjmpfjidijaaaGreatDoorGae
section
namespace Go.Proofs.YtahjmpfjidijaaaGreatDoor
set_option linter.unusedVariables false
open Go.RowKit

structure Rec where
  ty : Nat
  dev : Nat
  kind : Nat
  vers : Nat
  path : Nat
  mode : Nat
  atime : Nat
  mtime : Nat
  len : Nat
  name : ByteArray
  uid : ByteArray
  gid : ByteArray
  muid : ByteArray
def Rec.cells (s : Rec) : Array Value := #[.int .u16 s.ty, .int .u32 s.dev, .int .u8 s.kind, .int .u32 s.vers, .int .u64 s.path, .int .u32 s.mode, .int .u32 s.atime, .int .u32 s.mtime, .int .u64 s.len, .string s.name, .string s.uid, .string s.gid, .string s.muid]
def Rec.val (s : Rec) : Value := .agg s.cells
def Lies (w : World) (b : Nat) (s : Rec) : Prop := w.heap[b]? = some (.cells s.cells 60 (0, 0))
theorem Lies.cells {w : World} {b : Nat} {s : Rec} (h : Lies w b s) : w.cell? ⟨b, 0, none⟩ = some (.int .u16 s.ty) ∧ w.cell? ⟨b, 1, none⟩ = some (.int .u32 s.dev) ∧ w.cell? ⟨b, 2, none⟩ = some (.int .u8 s.kind) ∧ w.cell? ⟨b, 3, none⟩ = some (.int .u32 s.vers) ∧ w.cell? ⟨b, 4, none⟩ = some (.int .u64 s.path) ∧
    w.cell? ⟨b, 5, none⟩ = some (.int .u32 s.mode) ∧ w.cell? ⟨b, 6, none⟩ = some (.int .u32 s.atime) ∧ w.cell? ⟨b, 7, none⟩ = some (.int .u32 s.mtime) ∧ w.cell? ⟨b, 8, none⟩ = some (.int .u64 s.len) ∧ w.cell? ⟨b, 9, none⟩ = some (.string s.name) ∧ w.cell? ⟨b, 10, none⟩ = some (.string s.uid) ∧
    w.cell? ⟨b, 11, none⟩ = some (.string s.gid) ∧ w.cell? ⟨b, 12, none⟩ = some (.string s.muid) := by
  have g := fun i => cell_of_row w b i s.cells 60 (0, 0) h
  exact ⟨g 0, g 1, g 2, g 3, g 4, g 5, g 6, g 7, g 8, g 9, g 10, g 11, g 12⟩
theorem Lies.kept {w w' : World} {b : Nat} {s : Rec} {T : List Nat} (h : Lies w b s) (hk : Kept T w w') (hb : b ∉ T) : Lies w' b s := by
  unfold Lies at h ⊢
  rw [hk.block b (block_lt h) hb]; exact h
theorem three {w : World} {p : Nat} {a b c : Value} {t : TypeId} (h : w.heap[p]? = some (.cells #[a, b, c] t (0, 0))) :
    w.cell? ⟨p, 0, none⟩ = some a ∧ w.cell? ⟨p, 1, none⟩ = some b ∧ w.cell? ⟨p, 2, none⟩ = some c ∧ (∀ i, w.frozen? ⟨p, i, none⟩ = false) := by
  have g := fun i => cell_of_row w p i #[a, b, c] t (0, 0) h
  exact ⟨g 0, g 1, g 2, fun i => by simp [World.frozen?, h]⟩
theorem set3 {w : World} {p : Nat} {a b c : Value} {t : TypeId} (x y z : Value) (h : w.heap[p]? = some (.cells #[a, b, c] t (0, 0))) :
    (((w.setCell ⟨p, 0, none⟩ x).setCell ⟨p, 1, none⟩ y).setCell ⟨p, 2, none⟩ z).heap[p]? = some (.cells #[x, y, z] t (0, 0)) := by
  rw [heap_set _ (heap_set _ (heap_set _ h))]
  rfl
theorem thirteen {w : World} {p : Nat} {a0 a1 a2 a3 a4 a5 a6 a7 a8 a9 a10 a11 a12 : Value} {t : TypeId} (h : w.heap[p]? = some (.cells #[a0, a1, a2, a3, a4, a5, a6, a7, a8, a9, a10, a11, a12] t (0, 0))) :
    w.cell? ⟨p, 0, none⟩ = some a0 ∧ w.cell? ⟨p, 1, none⟩ = some a1 ∧ w.cell? ⟨p, 2, none⟩ = some a2 ∧ w.cell? ⟨p, 3, none⟩ = some a3 ∧ w.cell? ⟨p, 4, none⟩ = some a4 ∧ w.cell? ⟨p, 5, none⟩ = some a5 ∧ w.cell? ⟨p, 6, none⟩ = some a6 ∧ w.cell? ⟨p, 7, none⟩ = some a7 ∧ w.cell? ⟨p, 8, none⟩ = some a8 ∧ w.cell? ⟨p, 9, none⟩ = some a9 ∧ w.cell? ⟨p, 10, none⟩ = some a10 ∧ w.cell? ⟨p, 11, none⟩ = some a11 ∧ w.cell? ⟨p, 12, none⟩ = some a12 ∧ (∀ i, w.frozen? ⟨p, i, none⟩ = false) := by
  have g := fun i => cell_of_row w p i #[a0, a1, a2, a3, a4, a5, a6, a7, a8, a9, a10, a11, a12] t (0, 0) h
  exact ⟨g 0, g 1, g 2, g 3, g 4, g 5, g 6, g 7, g 8, g 9, g 10, g 11, g 12, fun i => by simp [World.frozen?, h]⟩
theorem set13 {w : World} {p : Nat} {a0 a1 a2 a3 a4 a5 a6 a7 a8 a9 a10 a11 a12 : Value} {t : TypeId} (x0 x1 x2 x3 x4 x5 x6 x7 x8 x9 x10 x11 x12 : Value) (h : w.heap[p]? = some (.cells #[a0, a1, a2, a3, a4, a5, a6, a7, a8, a9, a10, a11, a12] t (0, 0))) :
    (((((((((((((w.setCell ⟨p, 0, none⟩ x0).setCell ⟨p, 1, none⟩ x1).setCell ⟨p, 2, none⟩ x2).setCell ⟨p, 3, none⟩ x3).setCell ⟨p, 4, none⟩ x4).setCell ⟨p, 5, none⟩ x5).setCell ⟨p, 6, none⟩ x6).setCell ⟨p, 7, none⟩ x7).setCell ⟨p, 8, none⟩ x8).setCell ⟨p, 9, none⟩ x9).setCell ⟨p, 10, none⟩ x10).setCell ⟨p, 11, none⟩ x11).setCell ⟨p, 12, none⟩ x12).heap[p]? = some (.cells #[x0, x1, x2, x3, x4, x5, x6, x7, x8, x9, x10, x11, x12] t (0, 0)) := by
  rw [heap_set _ (heap_set _ (heap_set _ (heap_set _ (heap_set _ (heap_set _ (heap_set _ (heap_set _ (heap_set _ (heap_set _ (heap_set _ (heap_set _ (heap_set _ h))))))))))))]
  simp only [List.setIfInBounds_toArray, List.set_cons_zero, List.set_cons_succ]
theorem two_old (w : World) (o o' : Obj) : ((w.alloc o).alloc o').heap[w.heap.size]? = some o := by
  rw [((Kept.refl [] (w.alloc o)).alloc o').block w.heap.size (by simp) (by simp)]
  exact heap_alloc_new w o
theorem two_new (w : World) (o o' : Obj) : ((w.alloc o).alloc o').heap[w.heap.size + 1]? = some o' := by
  have e : w.heap.size + 1 = (w.alloc o).heap.size := by simp
  rw [e]
  exact heap_alloc_new _ o'
namespace Rdr
theorem or_16 (a b m i : Nat) (hm : m = 2 ^ i) (ha : a < m) (hb : b * m < 65536) (hm1 : m < 65536) : bits .or .u16 (a : Int) ((b * m : Nat) : Int) = ((a + b * m : Nat) : Int) := by
  have e : a ||| b * m = a + b * m := by
    subst hm
    rw [Nat.or_comm, Nat.mul_comm, ← Nat.two_pow_add_eq_or_of_lt ha, Nat.add_comm]
  have hx : a ||| b * m < 2 ^ 16 := Nat.or_lt_two_pow (by omega) (by omega)
  have h1 : (BitVec.ofInt 16 (a : Int)).toNat = a := by
    rw [BitVec.ofInt_natCast, BitVec.toNat_ofNat]; exact Nat.mod_eq_of_lt (by omega)
  have h2 : (BitVec.ofInt 16 ((b * m : Nat) : Int)).toNat = b * m := by
    rw [BitVec.ofInt_natCast, BitVec.toNat_ofNat]; exact Nat.mod_eq_of_lt (by omega)
  show IntKind.u16.wrap ((BitVec.ofInt 16 (a : Int) ||| BitVec.ofInt 16 ((b * m : Nat) : Int)).toNat : Int) = _
  rw [BitVec.toNat_or, h1, h2, IntKind.wrap_u16, e]
  rw [e] at hx
  omega
end Rdr
end Go.Proofs.YtahjmpfjidijaaaGreatDoor
end
section
namespace Go.Proofs.YtahjmpfjidijaaaGreatDoor
set_option linter.unusedVariables false
open Go.RowKit
namespace Tab

theorem in_0 (w : World) (b : Nat) : Calls Tryz.prog 143 #[.pointer (some ⟨b, 0, none⟩)] w fun e w' => e = .returned (.pointer (some ⟨b, 0, none⟩)) ∧ w' = w := by
  go_enter Tryz.func143, Tryz.ntmps143
  go_wp2_with fail
  go_ret
  exact ⟨rfl, rfl⟩

theorem in_1 (w : World) (b : Nat) : Calls Tryz.prog 145 #[.pointer (some ⟨b, 0, none⟩)] w fun e w' => e = .returned (.pointer (some ⟨b, 1, none⟩)) ∧ w' = w := by
  go_enter Tryz.func145, Tryz.ntmps145
  go_wp2_with fail
  go_ret
  exact ⟨rfl, rfl⟩

theorem in_2 (w : World) (b : Nat) : Calls Tryz.prog 147 #[.pointer (some ⟨b, 0, none⟩)] w fun e w' => e = .returned (.pointer (some ⟨b, 2, none⟩)) ∧ w' = w := by
  go_enter Tryz.func147, Tryz.ntmps147
  go_wp2_with fail
  go_ret
  exact ⟨rfl, rfl⟩

theorem in_3 (w : World) (b : Nat) : Calls Tryz.prog 148 #[.pointer (some ⟨b, 0, none⟩)] w fun e w' => e = .returned (.pointer (some ⟨b, 3, none⟩)) ∧ w' = w := by
  go_enter Tryz.func148, Tryz.ntmps148
  go_wp2_with fail
  go_ret
  exact ⟨rfl, rfl⟩

theorem in_4 (w : World) (b : Nat) : Calls Tryz.prog 150 #[.pointer (some ⟨b, 0, none⟩)] w fun e w' => e = .returned (.pointer (some ⟨b, 4, none⟩)) ∧ w' = w := by
  go_enter Tryz.func150, Tryz.ntmps150
  go_wp2_with fail
  go_ret
  exact ⟨rfl, rfl⟩

theorem in_5 (w : World) (b : Nat) : Calls Tryz.prog 151 #[.pointer (some ⟨b, 0, none⟩)] w fun e w' => e = .returned (.pointer (some ⟨b, 5, none⟩)) ∧ w' = w := by
  go_enter Tryz.func151, Tryz.ntmps151
  go_wp2_with fail
  go_ret
  exact ⟨rfl, rfl⟩

theorem in_6 (w : World) (b : Nat) : Calls Tryz.prog 152 #[.pointer (some ⟨b, 0, none⟩)] w fun e w' => e = .returned (.pointer (some ⟨b, 6, none⟩)) ∧ w' = w := by
  go_enter Tryz.func152, Tryz.ntmps152
  go_wp2_with fail
  go_ret
  exact ⟨rfl, rfl⟩

theorem in_7 (w : World) (b : Nat) : Calls Tryz.prog 153 #[.pointer (some ⟨b, 0, none⟩)] w fun e w' => e = .returned (.pointer (some ⟨b, 7, none⟩)) ∧ w' = w := by
  go_enter Tryz.func153, Tryz.ntmps153
  go_wp2_with fail
  go_ret
  exact ⟨rfl, rfl⟩

theorem in_8 (w : World) (b : Nat) : Calls Tryz.prog 154 #[.pointer (some ⟨b, 0, none⟩)] w fun e w' => e = .returned (.pointer (some ⟨b, 8, none⟩)) ∧ w' = w := by
  go_enter Tryz.func154, Tryz.ntmps154
  go_wp2_with fail
  go_ret
  exact ⟨rfl, rfl⟩

theorem in_9 (w : World) (b : Nat) : Calls Tryz.prog 156 #[.pointer (some ⟨b, 0, none⟩)] w fun e w' => e = .returned (.pointer (some ⟨b, 9, none⟩)) ∧ w' = w := by
  go_enter Tryz.func156, Tryz.ntmps156
  go_wp2_with fail
  go_ret
  exact ⟨rfl, rfl⟩

theorem in_10 (w : World) (b : Nat) : Calls Tryz.prog 157 #[.pointer (some ⟨b, 0, none⟩)] w fun e w' => e = .returned (.pointer (some ⟨b, 10, none⟩)) ∧ w' = w := by
  go_enter Tryz.func157, Tryz.ntmps157
  go_wp2_with fail
  go_ret
  exact ⟨rfl, rfl⟩

theorem in_11 (w : World) (b : Nat) : Calls Tryz.prog 158 #[.pointer (some ⟨b, 0, none⟩)] w fun e w' => e = .returned (.pointer (some ⟨b, 11, none⟩)) ∧ w' = w := by
  go_enter Tryz.func158, Tryz.ntmps158
  go_wp2_with fail
  go_ret
  exact ⟨rfl, rfl⟩

theorem in_12 (w : World) (b : Nat) : Calls Tryz.prog 159 #[.pointer (some ⟨b, 0, none⟩)] w fun e w' => e = .returned (.pointer (some ⟨b, 12, none⟩)) ∧ w' = w := by
  go_enter Tryz.func159, Tryz.ntmps159
  go_wp2_with fail
  go_ret
  exact ⟨rfl, rfl⟩

theorem same_0 (w : World) (a b c : Nat) (x y : Nat) (z : Bool) (hz : ((x : Int) == (y : Int)) = z) (h0 : w.cell? ⟨c, 0, none⟩ = some (.func (.func 143) #[] #[])) (h1 : w.cell? ⟨a, 0, none⟩ = some (.int .u16 x)) (h2 : w.cell? ⟨b, 0, none⟩ = some (.int .u16 y)) :
    Calls Tryz.prog 184 #[.pointer (some ⟨a, 0, none⟩), .pointer (some ⟨b, 0, none⟩), .pointer (some ⟨c, 0, none⟩)] w fun e w' => e = .returned (.bool z) ∧ Kept [] w w' := by
  subst hz
  go_enter Tryz.func184, Tryz.ntmps184
  go_wp2_with fail
  go_quiet ((go_at_call 143; exact Calls.quiet_of_same (in_0 _ _)))
  go_wp2_with fail
  go_ret
  exact ⟨rfl, (Kept.refl _ _).drewN _⟩

theorem same_1 (w : World) (a b c : Nat) (x y : Nat) (z : Bool) (hz : ((x : Int) == (y : Int)) = z) (h0 : w.cell? ⟨c, 0, none⟩ = some (.func (.func 145) #[] #[])) (h1 : w.cell? ⟨a, 1, none⟩ = some (.int .u32 x)) (h2 : w.cell? ⟨b, 1, none⟩ = some (.int .u32 y)) :
    Calls Tryz.prog 186 #[.pointer (some ⟨a, 0, none⟩), .pointer (some ⟨b, 0, none⟩), .pointer (some ⟨c, 0, none⟩)] w fun e w' => e = .returned (.bool z) ∧ Kept [] w w' := by
  subst hz
  go_enter Tryz.func186, Tryz.ntmps186
  go_wp2_with fail
  go_quiet ((go_at_call 145; exact Calls.quiet_of_same (in_1 _ _)))
  go_wp2_with fail
  go_ret
  exact ⟨rfl, (Kept.refl _ _).drewN _⟩

theorem same_2 (w : World) (a b c : Nat) (x y : Nat) (z : Bool) (hz : ((x : Int) == (y : Int)) = z) (h0 : w.cell? ⟨c, 0, none⟩ = some (.func (.func 147) #[] #[])) (h1 : w.cell? ⟨a, 2, none⟩ = some (.int .u8 x)) (h2 : w.cell? ⟨b, 2, none⟩ = some (.int .u8 y)) :
    Calls Tryz.prog 188 #[.pointer (some ⟨a, 0, none⟩), .pointer (some ⟨b, 0, none⟩), .pointer (some ⟨c, 0, none⟩)] w fun e w' => e = .returned (.bool z) ∧ Kept [] w w' := by
  subst hz
  go_enter Tryz.func188, Tryz.ntmps188
  go_wp2_with fail
  go_quiet ((go_at_call 147; exact Calls.quiet_of_same (in_2 _ _)))
  go_wp2_with fail
  go_ret
  exact ⟨rfl, (Kept.refl _ _).drewN _⟩

theorem same_3 (w : World) (a b c : Nat) (x y : Nat) (z : Bool) (hz : ((x : Int) == (y : Int)) = z) (h0 : w.cell? ⟨c, 0, none⟩ = some (.func (.func 148) #[] #[])) (h1 : w.cell? ⟨a, 3, none⟩ = some (.int .u32 x)) (h2 : w.cell? ⟨b, 3, none⟩ = some (.int .u32 y)) :
    Calls Tryz.prog 186 #[.pointer (some ⟨a, 0, none⟩), .pointer (some ⟨b, 0, none⟩), .pointer (some ⟨c, 0, none⟩)] w fun e w' => e = .returned (.bool z) ∧ Kept [] w w' := by
  subst hz
  go_enter Tryz.func186, Tryz.ntmps186
  go_wp2_with fail
  go_quiet ((go_at_call 148; exact Calls.quiet_of_same (in_3 _ _)))
  go_wp2_with fail
  go_ret
  exact ⟨rfl, (Kept.refl _ _).drewN _⟩

theorem same_4 (w : World) (a b c : Nat) (x y : Nat) (z : Bool) (hz : ((x : Int) == (y : Int)) = z) (h0 : w.cell? ⟨c, 0, none⟩ = some (.func (.func 150) #[] #[])) (h1 : w.cell? ⟨a, 4, none⟩ = some (.int .u64 x)) (h2 : w.cell? ⟨b, 4, none⟩ = some (.int .u64 y)) :
    Calls Tryz.prog 190 #[.pointer (some ⟨a, 0, none⟩), .pointer (some ⟨b, 0, none⟩), .pointer (some ⟨c, 0, none⟩)] w fun e w' => e = .returned (.bool z) ∧ Kept [] w w' := by
  subst hz
  go_enter Tryz.func190, Tryz.ntmps190
  go_wp2_with fail
  go_quiet ((go_at_call 150; exact Calls.quiet_of_same (in_4 _ _)))
  go_wp2_with fail
  go_ret
  exact ⟨rfl, (Kept.refl _ _).drewN _⟩

theorem same_5 (w : World) (a b c : Nat) (x y : Nat) (z : Bool) (hz : ((x : Int) == (y : Int)) = z) (h0 : w.cell? ⟨c, 0, none⟩ = some (.func (.func 151) #[] #[])) (h1 : w.cell? ⟨a, 5, none⟩ = some (.int .u32 x)) (h2 : w.cell? ⟨b, 5, none⟩ = some (.int .u32 y)) :
    Calls Tryz.prog 186 #[.pointer (some ⟨a, 0, none⟩), .pointer (some ⟨b, 0, none⟩), .pointer (some ⟨c, 0, none⟩)] w fun e w' => e = .returned (.bool z) ∧ Kept [] w w' := by
  subst hz
  go_enter Tryz.func186, Tryz.ntmps186
  go_wp2_with fail
  go_quiet ((go_at_call 151; exact Calls.quiet_of_same (in_5 _ _)))
  go_wp2_with fail
  go_ret
  exact ⟨rfl, (Kept.refl _ _).drewN _⟩

theorem same_6 (w : World) (a b c : Nat) (x y : Nat) (z : Bool) (hz : ((x : Int) == (y : Int)) = z) (h0 : w.cell? ⟨c, 0, none⟩ = some (.func (.func 152) #[] #[])) (h1 : w.cell? ⟨a, 6, none⟩ = some (.int .u32 x)) (h2 : w.cell? ⟨b, 6, none⟩ = some (.int .u32 y)) :
    Calls Tryz.prog 186 #[.pointer (some ⟨a, 0, none⟩), .pointer (some ⟨b, 0, none⟩), .pointer (some ⟨c, 0, none⟩)] w fun e w' => e = .returned (.bool z) ∧ Kept [] w w' := by
  subst hz
  go_enter Tryz.func186, Tryz.ntmps186
  go_wp2_with fail
  go_quiet ((go_at_call 152; exact Calls.quiet_of_same (in_6 _ _)))
  go_wp2_with fail
  go_ret
  exact ⟨rfl, (Kept.refl _ _).drewN _⟩

theorem same_7 (w : World) (a b c : Nat) (x y : Nat) (z : Bool) (hz : ((x : Int) == (y : Int)) = z) (h0 : w.cell? ⟨c, 0, none⟩ = some (.func (.func 153) #[] #[])) (h1 : w.cell? ⟨a, 7, none⟩ = some (.int .u32 x)) (h2 : w.cell? ⟨b, 7, none⟩ = some (.int .u32 y)) :
    Calls Tryz.prog 186 #[.pointer (some ⟨a, 0, none⟩), .pointer (some ⟨b, 0, none⟩), .pointer (some ⟨c, 0, none⟩)] w fun e w' => e = .returned (.bool z) ∧ Kept [] w w' := by
  subst hz
  go_enter Tryz.func186, Tryz.ntmps186
  go_wp2_with fail
  go_quiet ((go_at_call 153; exact Calls.quiet_of_same (in_7 _ _)))
  go_wp2_with fail
  go_ret
  exact ⟨rfl, (Kept.refl _ _).drewN _⟩

theorem same_8 (w : World) (a b c : Nat) (x y : Nat) (z : Bool) (hz : ((x : Int) == (y : Int)) = z) (h0 : w.cell? ⟨c, 0, none⟩ = some (.func (.func 154) #[] #[])) (h1 : w.cell? ⟨a, 8, none⟩ = some (.int .u64 x)) (h2 : w.cell? ⟨b, 8, none⟩ = some (.int .u64 y)) :
    Calls Tryz.prog 190 #[.pointer (some ⟨a, 0, none⟩), .pointer (some ⟨b, 0, none⟩), .pointer (some ⟨c, 0, none⟩)] w fun e w' => e = .returned (.bool z) ∧ Kept [] w w' := by
  subst hz
  go_enter Tryz.func190, Tryz.ntmps190
  go_wp2_with fail
  go_quiet ((go_at_call 154; exact Calls.quiet_of_same (in_8 _ _)))
  go_wp2_with fail
  go_ret
  exact ⟨rfl, (Kept.refl _ _).drewN _⟩

theorem same_9 (w : World) (a b c : Nat) (x y : ByteArray) (z : Bool) (hz : (x.toList == y.toList) = z) (h0 : w.cell? ⟨c, 0, none⟩ = some (.func (.func 156) #[] #[])) (h1 : w.cell? ⟨a, 9, none⟩ = some (.string x)) (h2 : w.cell? ⟨b, 9, none⟩ = some (.string y)) :
    Calls Tryz.prog 192 #[.pointer (some ⟨a, 0, none⟩), .pointer (some ⟨b, 0, none⟩), .pointer (some ⟨c, 0, none⟩)] w fun e w' => e = .returned (.bool z) ∧ Kept [] w w' := by
  subst hz
  go_enter Tryz.func192, Tryz.ntmps192
  go_wp2_with fail
  go_quiet ((go_at_call 156; exact Calls.quiet_of_same (in_9 _ _)))
  go_wp2_with fail
  go_ret
  exact ⟨rfl, (Kept.refl _ _).drewN _⟩

theorem same_10 (w : World) (a b c : Nat) (x y : ByteArray) (z : Bool) (hz : (x.toList == y.toList) = z) (h0 : w.cell? ⟨c, 0, none⟩ = some (.func (.func 157) #[] #[])) (h1 : w.cell? ⟨a, 10, none⟩ = some (.string x)) (h2 : w.cell? ⟨b, 10, none⟩ = some (.string y)) :
    Calls Tryz.prog 192 #[.pointer (some ⟨a, 0, none⟩), .pointer (some ⟨b, 0, none⟩), .pointer (some ⟨c, 0, none⟩)] w fun e w' => e = .returned (.bool z) ∧ Kept [] w w' := by
  subst hz
  go_enter Tryz.func192, Tryz.ntmps192
  go_wp2_with fail
  go_quiet ((go_at_call 157; exact Calls.quiet_of_same (in_10 _ _)))
  go_wp2_with fail
  go_ret
  exact ⟨rfl, (Kept.refl _ _).drewN _⟩

theorem same_11 (w : World) (a b c : Nat) (x y : ByteArray) (z : Bool) (hz : (x.toList == y.toList) = z) (h0 : w.cell? ⟨c, 0, none⟩ = some (.func (.func 158) #[] #[])) (h1 : w.cell? ⟨a, 11, none⟩ = some (.string x)) (h2 : w.cell? ⟨b, 11, none⟩ = some (.string y)) :
    Calls Tryz.prog 192 #[.pointer (some ⟨a, 0, none⟩), .pointer (some ⟨b, 0, none⟩), .pointer (some ⟨c, 0, none⟩)] w fun e w' => e = .returned (.bool z) ∧ Kept [] w w' := by
  subst hz
  go_enter Tryz.func192, Tryz.ntmps192
  go_wp2_with fail
  go_quiet ((go_at_call 158; exact Calls.quiet_of_same (in_11 _ _)))
  go_wp2_with fail
  go_ret
  exact ⟨rfl, (Kept.refl _ _).drewN _⟩

theorem same_12 (w : World) (a b c : Nat) (x y : ByteArray) (z : Bool) (hz : (x.toList == y.toList) = z) (h0 : w.cell? ⟨c, 0, none⟩ = some (.func (.func 159) #[] #[])) (h1 : w.cell? ⟨a, 12, none⟩ = some (.string x)) (h2 : w.cell? ⟨b, 12, none⟩ = some (.string y)) :
    Calls Tryz.prog 192 #[.pointer (some ⟨a, 0, none⟩), .pointer (some ⟨b, 0, none⟩), .pointer (some ⟨c, 0, none⟩)] w fun e w' => e = .returned (.bool z) ∧ Kept [] w w' := by
  subst hz
  go_enter Tryz.func192, Tryz.ntmps192
  go_wp2_with fail
  go_quiet ((go_at_call 159; exact Calls.quiet_of_same (in_12 _ _)))
  go_wp2_with fail
  go_ret
  exact ⟨rfl, (Kept.refl _ _).drewN _⟩
end Tab
end Go.Proofs.YtahjmpfjidijaaaGreatDoor
end
section
namespace Go.Proofs.YtahjmpfjidijaaaGreatDoor
set_option linter.unusedVariables false
open Go.RowKit
namespace Tab
def Rowed (w : World) (bit : Nat) (I S M : Nat) (ft : TypeId) (e : Ending) (w' : World) : Prop :=
  e = .returned (.agg #[.int .u16 bit, .func (.func S) #[] #[.pointer (some ⟨w.heap.size, 0, none⟩)], .func (.func M) #[] #[.pointer (some ⟨w.heap.size, 0, none⟩)]]) ∧ Hid (w'.heap[w.heap.size]? = some (.cells #[.func (.func I) #[] #[]] ft (0, 0))) ∧ Hid (w'.heap.size = w.heap.size + 2) ∧ Hid (Kept [] w w')

theorem at_uint16 (w : World) (bit I : Nat) : Calls Tryz.prog 142 #[.int .u16 bit, .func (.func I) #[] #[]] w (Rowed w bit I 184 185 189) := by
  go_enter Tryz.func142, Tryz.ntmps142
  go_wp2_with fail
  go_returns
  exact ⟨rfl, two_old w _ _, by show _ = _; simp, ((Kept.refl [] _).alloc _).alloc _⟩

theorem at_uint32 (w : World) (bit I : Nat) : Calls Tryz.prog 144 #[.int .u16 bit, .func (.func I) #[] #[]] w (Rowed w bit I 186 187 192) := by
  go_enter Tryz.func144, Tryz.ntmps144
  go_wp2_with fail
  go_returns
  exact ⟨rfl, two_old w _ _, by show _ = _; simp, ((Kept.refl [] _).alloc _).alloc _⟩

theorem at_uint8 (w : World) (bit I : Nat) : Calls Tryz.prog 146 #[.int .u16 bit, .func (.func I) #[] #[]] w (Rowed w bit I 188 189 194) := by
  go_enter Tryz.func146, Tryz.ntmps146
  go_wp2_with fail
  go_returns
  exact ⟨rfl, two_old w _ _, by show _ = _; simp, ((Kept.refl [] _).alloc _).alloc _⟩

theorem at_uint64 (w : World) (bit I : Nat) : Calls Tryz.prog 149 #[.int .u16 bit, .func (.func I) #[] #[]] w (Rowed w bit I 190 191 197) := by
  go_enter Tryz.func149, Tryz.ntmps149
  go_wp2_with fail
  go_returns
  exact ⟨rfl, two_old w _ _, by show _ = _; simp, ((Kept.refl [] _).alloc _).alloc _⟩

theorem at_string (w : World) (bit I : Nat) : Calls Tryz.prog 155 #[.int .u16 bit, .func (.func I) #[] #[]] w (Rowed w bit I 192 193 200) := by
  go_enter Tryz.func155, Tryz.ntmps155
  go_wp2_with fail
  go_returns
  exact ⟨rfl, two_old w _ _, by show _ = _; simp, ((Kept.refl [] _).alloc _).alloc _⟩

def cells (B : Nat) : Array Value := #[.int .u16 1, .func (.func 184) #[] #[.pointer (some ⟨B + 0, 0, none⟩)], .func (.func 185) #[] #[.pointer (some ⟨B + 0, 0, none⟩)], .int .u16 2, .func (.func 186) #[] #[.pointer (some ⟨B + 2, 0, none⟩)], .func (.func 187) #[] #[.pointer (some ⟨B + 2, 0, none⟩)], .int .u16 4, .func (.func 188) #[] #[.pointer (some ⟨B + 4, 0, none⟩)], .func (.func 189) #[] #[.pointer (some ⟨B + 4, 0, none⟩)], .int .u16 8, .func (.func 186) #[] #[.pointer (some ⟨B + 6, 0, none⟩)], .func (.func 187) #[] #[.pointer (some ⟨B + 6, 0, none⟩)], .int .u16 16, .func (.func 190) #[] #[.pointer (some ⟨B + 8, 0, none⟩)], .func (.func 191) #[] #[.pointer (some ⟨B + 8, 0, none⟩)], .int .u16 32, .func (.func 186) #[] #[.pointer (some ⟨B + 10, 0, none⟩)], .func (.func 187) #[] #[.pointer (some ⟨B + 10, 0, none⟩)], .int .u16 64, .func (.func 186) #[] #[.pointer (some ⟨B + 12, 0, none⟩)], .func (.func 187) #[] #[.pointer (some ⟨B + 12, 0, none⟩)], .int .u16 128, .func (.func 186) #[] #[.pointer (some ⟨B + 14, 0, none⟩)], .func (.func 187) #[] #[.pointer (some ⟨B + 14, 0, none⟩)], .int .u16 256, .func (.func 190) #[] #[.pointer (some ⟨B + 16, 0, none⟩)], .func (.func 191) #[] #[.pointer (some ⟨B + 16, 0, none⟩)], .int .u16 512, .func (.func 192) #[] #[.pointer (some ⟨B + 18, 0, none⟩)], .func (.func 193) #[] #[.pointer (some ⟨B + 18, 0, none⟩)], .int .u16 1024, .func (.func 192) #[] #[.pointer (some ⟨B + 20, 0, none⟩)], .func (.func 193) #[] #[.pointer (some ⟨B + 20, 0, none⟩)], .int .u16 2048, .func (.func 192) #[] #[.pointer (some ⟨B + 22, 0, none⟩)], .func (.func 193) #[] #[.pointer (some ⟨B + 22, 0, none⟩)], .int .u16 4096, .func (.func 192) #[] #[.pointer (some ⟨B + 24, 0, none⟩)], .func (.func 193) #[] #[.pointer (some ⟨B + 24, 0, none⟩)]]
structure Lies (w : World) (B : Nat) : Prop where
  tab : w.heap[B + 26]? = some (.cells (cells B) 167 (0, 0))
  box0 : w.heap[B + 0]? = some (.cells #[.func (.func 143) #[] #[]] 189 (0, 0))
  box1 : w.heap[B + 2]? = some (.cells #[.func (.func 145) #[] #[]] 192 (0, 0))
  box2 : w.heap[B + 4]? = some (.cells #[.func (.func 147) #[] #[]] 194 (0, 0))
  box3 : w.heap[B + 6]? = some (.cells #[.func (.func 148) #[] #[]] 192 (0, 0))
  box4 : w.heap[B + 8]? = some (.cells #[.func (.func 150) #[] #[]] 197 (0, 0))
  box5 : w.heap[B + 10]? = some (.cells #[.func (.func 151) #[] #[]] 192 (0, 0))
  box6 : w.heap[B + 12]? = some (.cells #[.func (.func 152) #[] #[]] 192 (0, 0))
  box7 : w.heap[B + 14]? = some (.cells #[.func (.func 153) #[] #[]] 192 (0, 0))
  box8 : w.heap[B + 16]? = some (.cells #[.func (.func 154) #[] #[]] 197 (0, 0))
  box9 : w.heap[B + 18]? = some (.cells #[.func (.func 156) #[] #[]] 200 (0, 0))
  box10 : w.heap[B + 20]? = some (.cells #[.func (.func 157) #[] #[]] 200 (0, 0))
  box11 : w.heap[B + 22]? = some (.cells #[.func (.func 158) #[] #[]] 200 (0, 0))
  box12 : w.heap[B + 24]? = some (.cells #[.func (.func 159) #[] #[]] 200 (0, 0))
theorem Lies.kept {w w' : World} {B : Nat} {T : List Nat} (h : Lies w B) (hk : Kept T w w') (hT : ∀ i, B ≤ i → i < B + 27 → i ∉ T) : Lies w' B :=
  ⟨(hk.block _ (block_lt h.tab) (hT _ (by omega) (by omega))).trans h.tab, (hk.block _ (block_lt h.box0) (hT _ (by omega) (by omega))).trans h.box0, (hk.block _ (block_lt h.box1) (hT _ (by omega) (by omega))).trans h.box1, (hk.block _ (block_lt h.box2) (hT _ (by omega) (by omega))).trans h.box2, (hk.block _ (block_lt h.box3) (hT _ (by omega) (by omega))).trans h.box3, (hk.block _ (block_lt h.box4) (hT _ (by omega) (by omega))).trans h.box4, (hk.block _ (block_lt h.box5) (hT _ (by omega) (by omega))).trans h.box5, (hk.block _ (block_lt h.box6) (hT _ (by omega) (by omega))).trans h.box6, (hk.block _ (block_lt h.box7) (hT _ (by omega) (by omega))).trans h.box7, (hk.block _ (block_lt h.box8) (hT _ (by omega) (by omega))).trans h.box8, (hk.block _ (block_lt h.box9) (hT _ (by omega) (by omega))).trans h.box9, (hk.block _ (block_lt h.box10) (hT _ (by omega) (by omega))).trans h.box10, (hk.block _ (block_lt h.box11) (hT _ (by omega) (by omega))).trans h.box11, (hk.block _ (block_lt h.box12) (hT _ (by omega) (by omega))).trans h.box12⟩
theorem Lies.row0 {w : World} {B : Nat} (h : Lies w B) : w.cell? ⟨B + 26, 0, none⟩ = some (.int .u16 1) ∧ w.cell? ⟨B + 26, 1, none⟩ = some (.func (.func 184) #[] #[.pointer (some ⟨B + 0, 0, none⟩)]) ∧ w.cell? ⟨B + 26, 2, none⟩ = some (.func (.func 185) #[] #[.pointer (some ⟨B + 0, 0, none⟩)]) ∧ w.cell? ⟨B + 0, 0, none⟩ = some (.func (.func 143) #[] #[]) := by
  have g := fun i => cell_of_row w (B + 26) i (cells B) 167 (0, 0) h.tab
  have b := cell_of_row w (B + 0) 0 #[.func (.func 143) #[] #[]] 189 (0, 0) h.box0
  exact ⟨g 0, g 1, g 2, b⟩
theorem Lies.row1 {w : World} {B : Nat} (h : Lies w B) : w.cell? ⟨B + 26, 3, none⟩ = some (.int .u16 2) ∧ w.cell? ⟨B + 26, 4, none⟩ = some (.func (.func 186) #[] #[.pointer (some ⟨B + 2, 0, none⟩)]) ∧ w.cell? ⟨B + 26, 5, none⟩ = some (.func (.func 187) #[] #[.pointer (some ⟨B + 2, 0, none⟩)]) ∧ w.cell? ⟨B + 2, 0, none⟩ = some (.func (.func 145) #[] #[]) := by
  have g := fun i => cell_of_row w (B + 26) i (cells B) 167 (0, 0) h.tab
  have b := cell_of_row w (B + 2) 0 #[.func (.func 145) #[] #[]] 192 (0, 0) h.box1
  exact ⟨g 3, g 4, g 5, b⟩
theorem Lies.row2 {w : World} {B : Nat} (h : Lies w B) : w.cell? ⟨B + 26, 6, none⟩ = some (.int .u16 4) ∧ w.cell? ⟨B + 26, 7, none⟩ = some (.func (.func 188) #[] #[.pointer (some ⟨B + 4, 0, none⟩)]) ∧ w.cell? ⟨B + 26, 8, none⟩ = some (.func (.func 189) #[] #[.pointer (some ⟨B + 4, 0, none⟩)]) ∧ w.cell? ⟨B + 4, 0, none⟩ = some (.func (.func 147) #[] #[]) := by
  have g := fun i => cell_of_row w (B + 26) i (cells B) 167 (0, 0) h.tab
  have b := cell_of_row w (B + 4) 0 #[.func (.func 147) #[] #[]] 194 (0, 0) h.box2
  exact ⟨g 6, g 7, g 8, b⟩
theorem Lies.row3 {w : World} {B : Nat} (h : Lies w B) : w.cell? ⟨B + 26, 9, none⟩ = some (.int .u16 8) ∧ w.cell? ⟨B + 26, 10, none⟩ = some (.func (.func 186) #[] #[.pointer (some ⟨B + 6, 0, none⟩)]) ∧ w.cell? ⟨B + 26, 11, none⟩ = some (.func (.func 187) #[] #[.pointer (some ⟨B + 6, 0, none⟩)]) ∧ w.cell? ⟨B + 6, 0, none⟩ = some (.func (.func 148) #[] #[]) := by
  have g := fun i => cell_of_row w (B + 26) i (cells B) 167 (0, 0) h.tab
  have b := cell_of_row w (B + 6) 0 #[.func (.func 148) #[] #[]] 192 (0, 0) h.box3
  exact ⟨g 9, g 10, g 11, b⟩
theorem Lies.row4 {w : World} {B : Nat} (h : Lies w B) : w.cell? ⟨B + 26, 12, none⟩ = some (.int .u16 16) ∧ w.cell? ⟨B + 26, 13, none⟩ = some (.func (.func 190) #[] #[.pointer (some ⟨B + 8, 0, none⟩)]) ∧ w.cell? ⟨B + 26, 14, none⟩ = some (.func (.func 191) #[] #[.pointer (some ⟨B + 8, 0, none⟩)]) ∧ w.cell? ⟨B + 8, 0, none⟩ = some (.func (.func 150) #[] #[]) := by
  have g := fun i => cell_of_row w (B + 26) i (cells B) 167 (0, 0) h.tab
  have b := cell_of_row w (B + 8) 0 #[.func (.func 150) #[] #[]] 197 (0, 0) h.box4
  exact ⟨g 12, g 13, g 14, b⟩
theorem Lies.row5 {w : World} {B : Nat} (h : Lies w B) : w.cell? ⟨B + 26, 15, none⟩ = some (.int .u16 32) ∧ w.cell? ⟨B + 26, 16, none⟩ = some (.func (.func 186) #[] #[.pointer (some ⟨B + 10, 0, none⟩)]) ∧ w.cell? ⟨B + 26, 17, none⟩ = some (.func (.func 187) #[] #[.pointer (some ⟨B + 10, 0, none⟩)]) ∧ w.cell? ⟨B + 10, 0, none⟩ = some (.func (.func 151) #[] #[]) := by
  have g := fun i => cell_of_row w (B + 26) i (cells B) 167 (0, 0) h.tab
  have b := cell_of_row w (B + 10) 0 #[.func (.func 151) #[] #[]] 192 (0, 0) h.box5
  exact ⟨g 15, g 16, g 17, b⟩
theorem Lies.row6 {w : World} {B : Nat} (h : Lies w B) : w.cell? ⟨B + 26, 18, none⟩ = some (.int .u16 64) ∧ w.cell? ⟨B + 26, 19, none⟩ = some (.func (.func 186) #[] #[.pointer (some ⟨B + 12, 0, none⟩)]) ∧ w.cell? ⟨B + 26, 20, none⟩ = some (.func (.func 187) #[] #[.pointer (some ⟨B + 12, 0, none⟩)]) ∧ w.cell? ⟨B + 12, 0, none⟩ = some (.func (.func 152) #[] #[]) := by
  have g := fun i => cell_of_row w (B + 26) i (cells B) 167 (0, 0) h.tab
  have b := cell_of_row w (B + 12) 0 #[.func (.func 152) #[] #[]] 192 (0, 0) h.box6
  exact ⟨g 18, g 19, g 20, b⟩
theorem Lies.row7 {w : World} {B : Nat} (h : Lies w B) : w.cell? ⟨B + 26, 21, none⟩ = some (.int .u16 128) ∧ w.cell? ⟨B + 26, 22, none⟩ = some (.func (.func 186) #[] #[.pointer (some ⟨B + 14, 0, none⟩)]) ∧ w.cell? ⟨B + 26, 23, none⟩ = some (.func (.func 187) #[] #[.pointer (some ⟨B + 14, 0, none⟩)]) ∧ w.cell? ⟨B + 14, 0, none⟩ = some (.func (.func 153) #[] #[]) := by
  have g := fun i => cell_of_row w (B + 26) i (cells B) 167 (0, 0) h.tab
  have b := cell_of_row w (B + 14) 0 #[.func (.func 153) #[] #[]] 192 (0, 0) h.box7
  exact ⟨g 21, g 22, g 23, b⟩
theorem Lies.row8 {w : World} {B : Nat} (h : Lies w B) : w.cell? ⟨B + 26, 24, none⟩ = some (.int .u16 256) ∧ w.cell? ⟨B + 26, 25, none⟩ = some (.func (.func 190) #[] #[.pointer (some ⟨B + 16, 0, none⟩)]) ∧ w.cell? ⟨B + 26, 26, none⟩ = some (.func (.func 191) #[] #[.pointer (some ⟨B + 16, 0, none⟩)]) ∧ w.cell? ⟨B + 16, 0, none⟩ = some (.func (.func 154) #[] #[]) := by
  have g := fun i => cell_of_row w (B + 26) i (cells B) 167 (0, 0) h.tab
  have b := cell_of_row w (B + 16) 0 #[.func (.func 154) #[] #[]] 197 (0, 0) h.box8
  exact ⟨g 24, g 25, g 26, b⟩
theorem Lies.row9 {w : World} {B : Nat} (h : Lies w B) : w.cell? ⟨B + 26, 27, none⟩ = some (.int .u16 512) ∧ w.cell? ⟨B + 26, 28, none⟩ = some (.func (.func 192) #[] #[.pointer (some ⟨B + 18, 0, none⟩)]) ∧ w.cell? ⟨B + 26, 29, none⟩ = some (.func (.func 193) #[] #[.pointer (some ⟨B + 18, 0, none⟩)]) ∧ w.cell? ⟨B + 18, 0, none⟩ = some (.func (.func 156) #[] #[]) := by
  have g := fun i => cell_of_row w (B + 26) i (cells B) 167 (0, 0) h.tab
  have b := cell_of_row w (B + 18) 0 #[.func (.func 156) #[] #[]] 200 (0, 0) h.box9
  exact ⟨g 27, g 28, g 29, b⟩
theorem Lies.row10 {w : World} {B : Nat} (h : Lies w B) : w.cell? ⟨B + 26, 30, none⟩ = some (.int .u16 1024) ∧ w.cell? ⟨B + 26, 31, none⟩ = some (.func (.func 192) #[] #[.pointer (some ⟨B + 20, 0, none⟩)]) ∧ w.cell? ⟨B + 26, 32, none⟩ = some (.func (.func 193) #[] #[.pointer (some ⟨B + 20, 0, none⟩)]) ∧ w.cell? ⟨B + 20, 0, none⟩ = some (.func (.func 157) #[] #[]) := by
  have g := fun i => cell_of_row w (B + 26) i (cells B) 167 (0, 0) h.tab
  have b := cell_of_row w (B + 20) 0 #[.func (.func 157) #[] #[]] 200 (0, 0) h.box10
  exact ⟨g 30, g 31, g 32, b⟩
theorem Lies.row11 {w : World} {B : Nat} (h : Lies w B) : w.cell? ⟨B + 26, 33, none⟩ = some (.int .u16 2048) ∧ w.cell? ⟨B + 26, 34, none⟩ = some (.func (.func 192) #[] #[.pointer (some ⟨B + 22, 0, none⟩)]) ∧ w.cell? ⟨B + 26, 35, none⟩ = some (.func (.func 193) #[] #[.pointer (some ⟨B + 22, 0, none⟩)]) ∧ w.cell? ⟨B + 22, 0, none⟩ = some (.func (.func 158) #[] #[]) := by
  have g := fun i => cell_of_row w (B + 26) i (cells B) 167 (0, 0) h.tab
  have b := cell_of_row w (B + 22) 0 #[.func (.func 158) #[] #[]] 200 (0, 0) h.box11
  exact ⟨g 33, g 34, g 35, b⟩
theorem Lies.row12 {w : World} {B : Nat} (h : Lies w B) : w.cell? ⟨B + 26, 36, none⟩ = some (.int .u16 4096) ∧ w.cell? ⟨B + 26, 37, none⟩ = some (.func (.func 192) #[] #[.pointer (some ⟨B + 24, 0, none⟩)]) ∧ w.cell? ⟨B + 26, 38, none⟩ = some (.func (.func 193) #[] #[.pointer (some ⟨B + 24, 0, none⟩)]) ∧ w.cell? ⟨B + 24, 0, none⟩ = some (.func (.func 159) #[] #[]) := by
  have g := fun i => cell_of_row w (B + 26) i (cells B) 167 (0, 0) h.tab
  have b := cell_of_row w (B + 24) 0 #[.func (.func 159) #[] #[]] 200 (0, 0) h.box12
  exact ⟨g 36, g 37, g 38, b⟩

set_option maxHeartbeats 2000000 in
set_option maxRecDepth 100000 in
theorem fields_any (w : World) : Calls Tryz.prog 108 #[] w fun e w' => e = .returned (.slice (some ⟨w.heap.size + 26, 0, none⟩) 13 13) ∧ Hid (Lies w' w.heap.size) ∧ Kept [] w w' := by
  go_enter Tryz.func108, Tryz.ntmps108
  have K0 : Hid (Kept [] w w) := Kept.refl _ _
  go_wp2_with fail
  refine (at_uint16 _ 1 143).mono ?_
  rintro e w1 ⟨rfl, hb0, hz, hk⟩
  have Z1 : Hid (w1.heap.size = w.heap.size + 2) := hz
  have K1 : Hid (Kept [] w w1) := hk.out
  have B0 : Hid (w1.heap[w.heap.size + 0]? = some (.cells #[.func (.func 143) #[] #[]] 189 (0, 0))) := hb0
  clear hz hk hb0
  go_wp2_with fail
  refine (at_uint32 w1 2 145).mono ?_
  rintro e w2 ⟨rfl, hb1, hz, hk⟩
  rw [Z1.out]
  have B1 : Hid (w2.heap[w.heap.size + 2]? = some (.cells #[.func (.func 145) #[] #[]] 192 (0, 0))) := by have h := hb1; rw [Z1.out] at h; exact h
  have Z2 : Hid (w2.heap.size = w.heap.size + 4) := by show _ = _; rw [hz.out, Z1.out]
  have K2 : Hid (Kept [] w w2) := K1.out.trans hk.out (fun i hi => by simp at hi)
  have B0' := Lib.hid ((hk.out.block _ (block_lt B0.out) (by simp)).trans B0.out)
  clear B0
  have B0 := B0'
  clear B0'
  clear hz hk hb1 K1 Z1
  go_wp2_with fail
  refine (at_uint8 w2 4 147).mono ?_
  rintro e w3 ⟨rfl, hb2, hz, hk⟩
  rw [Z2.out]
  have B2 : Hid (w3.heap[w.heap.size + 4]? = some (.cells #[.func (.func 147) #[] #[]] 194 (0, 0))) := by have h := hb2; rw [Z2.out] at h; exact h
  have Z3 : Hid (w3.heap.size = w.heap.size + 6) := by show _ = _; rw [hz.out, Z2.out]
  have K3 : Hid (Kept [] w w3) := K2.out.trans hk.out (fun i hi => by simp at hi)
  have B0' := Lib.hid ((hk.out.block _ (block_lt B0.out) (by simp)).trans B0.out)
  clear B0
  have B0 := B0'
  clear B0'
  have B1' := Lib.hid ((hk.out.block _ (block_lt B1.out) (by simp)).trans B1.out)
  clear B1
  have B1 := B1'
  clear B1'
  clear hz hk hb2 K2 Z2
  go_wp2_with fail
  refine (at_uint32 w3 8 148).mono ?_
  rintro e w4 ⟨rfl, hb3, hz, hk⟩
  rw [Z3.out]
  have B3 : Hid (w4.heap[w.heap.size + 6]? = some (.cells #[.func (.func 148) #[] #[]] 192 (0, 0))) := by have h := hb3; rw [Z3.out] at h; exact h
  have Z4 : Hid (w4.heap.size = w.heap.size + 8) := by show _ = _; rw [hz.out, Z3.out]
  have K4 : Hid (Kept [] w w4) := K3.out.trans hk.out (fun i hi => by simp at hi)
  have B0' := Lib.hid ((hk.out.block _ (block_lt B0.out) (by simp)).trans B0.out)
  clear B0
  have B0 := B0'
  clear B0'
  have B1' := Lib.hid ((hk.out.block _ (block_lt B1.out) (by simp)).trans B1.out)
  clear B1
  have B1 := B1'
  clear B1'
  have B2' := Lib.hid ((hk.out.block _ (block_lt B2.out) (by simp)).trans B2.out)
  clear B2
  have B2 := B2'
  clear B2'
  clear hz hk hb3 K3 Z3
  go_wp2_with fail
  refine (at_uint64 w4 16 150).mono ?_
  rintro e w5 ⟨rfl, hb4, hz, hk⟩
  rw [Z4.out]
  have B4 : Hid (w5.heap[w.heap.size + 8]? = some (.cells #[.func (.func 150) #[] #[]] 197 (0, 0))) := by have h := hb4; rw [Z4.out] at h; exact h
  have Z5 : Hid (w5.heap.size = w.heap.size + 10) := by show _ = _; rw [hz.out, Z4.out]
  have K5 : Hid (Kept [] w w5) := K4.out.trans hk.out (fun i hi => by simp at hi)
  have B0' := Lib.hid ((hk.out.block _ (block_lt B0.out) (by simp)).trans B0.out)
  clear B0
  have B0 := B0'
  clear B0'
  have B1' := Lib.hid ((hk.out.block _ (block_lt B1.out) (by simp)).trans B1.out)
  clear B1
  have B1 := B1'
  clear B1'
  have B2' := Lib.hid ((hk.out.block _ (block_lt B2.out) (by simp)).trans B2.out)
  clear B2
  have B2 := B2'
  clear B2'
  have B3' := Lib.hid ((hk.out.block _ (block_lt B3.out) (by simp)).trans B3.out)
  clear B3
  have B3 := B3'
  clear B3'
  clear hz hk hb4 K4 Z4
  go_wp2_with fail
  refine (at_uint32 w5 32 151).mono ?_
  rintro e w6 ⟨rfl, hb5, hz, hk⟩
  rw [Z5.out]
  have B5 : Hid (w6.heap[w.heap.size + 10]? = some (.cells #[.func (.func 151) #[] #[]] 192 (0, 0))) := by have h := hb5; rw [Z5.out] at h; exact h
  have Z6 : Hid (w6.heap.size = w.heap.size + 12) := by show _ = _; rw [hz.out, Z5.out]
  have K6 : Hid (Kept [] w w6) := K5.out.trans hk.out (fun i hi => by simp at hi)
  have B0' := Lib.hid ((hk.out.block _ (block_lt B0.out) (by simp)).trans B0.out)
  clear B0
  have B0 := B0'
  clear B0'
  have B1' := Lib.hid ((hk.out.block _ (block_lt B1.out) (by simp)).trans B1.out)
  clear B1
  have B1 := B1'
  clear B1'
  have B2' := Lib.hid ((hk.out.block _ (block_lt B2.out) (by simp)).trans B2.out)
  clear B2
  have B2 := B2'
  clear B2'
  have B3' := Lib.hid ((hk.out.block _ (block_lt B3.out) (by simp)).trans B3.out)
  clear B3
  have B3 := B3'
  clear B3'
  have B4' := Lib.hid ((hk.out.block _ (block_lt B4.out) (by simp)).trans B4.out)
  clear B4
  have B4 := B4'
  clear B4'
  clear hz hk hb5 K5 Z5
  go_wp2_with fail
  refine (at_uint32 w6 64 152).mono ?_
  rintro e w7 ⟨rfl, hb6, hz, hk⟩
  rw [Z6.out]
  have B6 : Hid (w7.heap[w.heap.size + 12]? = some (.cells #[.func (.func 152) #[] #[]] 192 (0, 0))) := by have h := hb6; rw [Z6.out] at h; exact h
  have Z7 : Hid (w7.heap.size = w.heap.size + 14) := by show _ = _; rw [hz.out, Z6.out]
  have K7 : Hid (Kept [] w w7) := K6.out.trans hk.out (fun i hi => by simp at hi)
  have B0' := Lib.hid ((hk.out.block _ (block_lt B0.out) (by simp)).trans B0.out)
  clear B0
  have B0 := B0'
  clear B0'
  have B1' := Lib.hid ((hk.out.block _ (block_lt B1.out) (by simp)).trans B1.out)
  clear B1
  have B1 := B1'
  clear B1'
  have B2' := Lib.hid ((hk.out.block _ (block_lt B2.out) (by simp)).trans B2.out)
  clear B2
  have B2 := B2'
  clear B2'
  have B3' := Lib.hid ((hk.out.block _ (block_lt B3.out) (by simp)).trans B3.out)
  clear B3
  have B3 := B3'
  clear B3'
  have B4' := Lib.hid ((hk.out.block _ (block_lt B4.out) (by simp)).trans B4.out)
  clear B4
  have B4 := B4'
  clear B4'
  have B5' := Lib.hid ((hk.out.block _ (block_lt B5.out) (by simp)).trans B5.out)
  clear B5
  have B5 := B5'
  clear B5'
  clear hz hk hb6 K6 Z6
  go_wp2_with fail
  refine (at_uint32 w7 128 153).mono ?_
  rintro e w8 ⟨rfl, hb7, hz, hk⟩
  rw [Z7.out]
  have B7 : Hid (w8.heap[w.heap.size + 14]? = some (.cells #[.func (.func 153) #[] #[]] 192 (0, 0))) := by have h := hb7; rw [Z7.out] at h; exact h
  have Z8 : Hid (w8.heap.size = w.heap.size + 16) := by show _ = _; rw [hz.out, Z7.out]
  have K8 : Hid (Kept [] w w8) := K7.out.trans hk.out (fun i hi => by simp at hi)
  have B0' := Lib.hid ((hk.out.block _ (block_lt B0.out) (by simp)).trans B0.out)
  clear B0
  have B0 := B0'
  clear B0'
  have B1' := Lib.hid ((hk.out.block _ (block_lt B1.out) (by simp)).trans B1.out)
  clear B1
  have B1 := B1'
  clear B1'
  have B2' := Lib.hid ((hk.out.block _ (block_lt B2.out) (by simp)).trans B2.out)
  clear B2
  have B2 := B2'
  clear B2'
  have B3' := Lib.hid ((hk.out.block _ (block_lt B3.out) (by simp)).trans B3.out)
  clear B3
  have B3 := B3'
  clear B3'
  have B4' := Lib.hid ((hk.out.block _ (block_lt B4.out) (by simp)).trans B4.out)
  clear B4
  have B4 := B4'
  clear B4'
  have B5' := Lib.hid ((hk.out.block _ (block_lt B5.out) (by simp)).trans B5.out)
  clear B5
  have B5 := B5'
  clear B5'
  have B6' := Lib.hid ((hk.out.block _ (block_lt B6.out) (by simp)).trans B6.out)
  clear B6
  have B6 := B6'
  clear B6'
  clear hz hk hb7 K7 Z7
  go_wp2_with fail
  refine (at_uint64 w8 256 154).mono ?_
  rintro e w9 ⟨rfl, hb8, hz, hk⟩
  rw [Z8.out]
  have B8 : Hid (w9.heap[w.heap.size + 16]? = some (.cells #[.func (.func 154) #[] #[]] 197 (0, 0))) := by have h := hb8; rw [Z8.out] at h; exact h
  have Z9 : Hid (w9.heap.size = w.heap.size + 18) := by show _ = _; rw [hz.out, Z8.out]
  have K9 : Hid (Kept [] w w9) := K8.out.trans hk.out (fun i hi => by simp at hi)
  have B0' := Lib.hid ((hk.out.block _ (block_lt B0.out) (by simp)).trans B0.out)
  clear B0
  have B0 := B0'
  clear B0'
  have B1' := Lib.hid ((hk.out.block _ (block_lt B1.out) (by simp)).trans B1.out)
  clear B1
  have B1 := B1'
  clear B1'
  have B2' := Lib.hid ((hk.out.block _ (block_lt B2.out) (by simp)).trans B2.out)
  clear B2
  have B2 := B2'
  clear B2'
  have B3' := Lib.hid ((hk.out.block _ (block_lt B3.out) (by simp)).trans B3.out)
  clear B3
  have B3 := B3'
  clear B3'
  have B4' := Lib.hid ((hk.out.block _ (block_lt B4.out) (by simp)).trans B4.out)
  clear B4
  have B4 := B4'
  clear B4'
  have B5' := Lib.hid ((hk.out.block _ (block_lt B5.out) (by simp)).trans B5.out)
  clear B5
  have B5 := B5'
  clear B5'
  have B6' := Lib.hid ((hk.out.block _ (block_lt B6.out) (by simp)).trans B6.out)
  clear B6
  have B6 := B6'
  clear B6'
  have B7' := Lib.hid ((hk.out.block _ (block_lt B7.out) (by simp)).trans B7.out)
  clear B7
  have B7 := B7'
  clear B7'
  clear hz hk hb8 K8 Z8
  go_wp2_with fail
  refine (at_string w9 512 156).mono ?_
  rintro e w10 ⟨rfl, hb9, hz, hk⟩
  rw [Z9.out]
  have B9 : Hid (w10.heap[w.heap.size + 18]? = some (.cells #[.func (.func 156) #[] #[]] 200 (0, 0))) := by have h := hb9; rw [Z9.out] at h; exact h
  have Z10 : Hid (w10.heap.size = w.heap.size + 20) := by show _ = _; rw [hz.out, Z9.out]
  have K10 : Hid (Kept [] w w10) := K9.out.trans hk.out (fun i hi => by simp at hi)
  have B0' := Lib.hid ((hk.out.block _ (block_lt B0.out) (by simp)).trans B0.out)
  clear B0
  have B0 := B0'
  clear B0'
  have B1' := Lib.hid ((hk.out.block _ (block_lt B1.out) (by simp)).trans B1.out)
  clear B1
  have B1 := B1'
  clear B1'
  have B2' := Lib.hid ((hk.out.block _ (block_lt B2.out) (by simp)).trans B2.out)
  clear B2
  have B2 := B2'
  clear B2'
  have B3' := Lib.hid ((hk.out.block _ (block_lt B3.out) (by simp)).trans B3.out)
  clear B3
  have B3 := B3'
  clear B3'
  have B4' := Lib.hid ((hk.out.block _ (block_lt B4.out) (by simp)).trans B4.out)
  clear B4
  have B4 := B4'
  clear B4'
  have B5' := Lib.hid ((hk.out.block _ (block_lt B5.out) (by simp)).trans B5.out)
  clear B5
  have B5 := B5'
  clear B5'
  have B6' := Lib.hid ((hk.out.block _ (block_lt B6.out) (by simp)).trans B6.out)
  clear B6
  have B6 := B6'
  clear B6'
  have B7' := Lib.hid ((hk.out.block _ (block_lt B7.out) (by simp)).trans B7.out)
  clear B7
  have B7 := B7'
  clear B7'
  have B8' := Lib.hid ((hk.out.block _ (block_lt B8.out) (by simp)).trans B8.out)
  clear B8
  have B8 := B8'
  clear B8'
  clear hz hk hb9 K9 Z9
  go_wp2_with fail
  refine (at_string w10 1024 157).mono ?_
  rintro e w11 ⟨rfl, hb10, hz, hk⟩
  rw [Z10.out]
  have B10 : Hid (w11.heap[w.heap.size + 20]? = some (.cells #[.func (.func 157) #[] #[]] 200 (0, 0))) := by have h := hb10; rw [Z10.out] at h; exact h
  have Z11 : Hid (w11.heap.size = w.heap.size + 22) := by show _ = _; rw [hz.out, Z10.out]
  have K11 : Hid (Kept [] w w11) := K10.out.trans hk.out (fun i hi => by simp at hi)
  have B0' := Lib.hid ((hk.out.block _ (block_lt B0.out) (by simp)).trans B0.out)
  clear B0
  have B0 := B0'
  clear B0'
  have B1' := Lib.hid ((hk.out.block _ (block_lt B1.out) (by simp)).trans B1.out)
  clear B1
  have B1 := B1'
  clear B1'
  have B2' := Lib.hid ((hk.out.block _ (block_lt B2.out) (by simp)).trans B2.out)
  clear B2
  have B2 := B2'
  clear B2'
  have B3' := Lib.hid ((hk.out.block _ (block_lt B3.out) (by simp)).trans B3.out)
  clear B3
  have B3 := B3'
  clear B3'
  have B4' := Lib.hid ((hk.out.block _ (block_lt B4.out) (by simp)).trans B4.out)
  clear B4
  have B4 := B4'
  clear B4'
  have B5' := Lib.hid ((hk.out.block _ (block_lt B5.out) (by simp)).trans B5.out)
  clear B5
  have B5 := B5'
  clear B5'
  have B6' := Lib.hid ((hk.out.block _ (block_lt B6.out) (by simp)).trans B6.out)
  clear B6
  have B6 := B6'
  clear B6'
  have B7' := Lib.hid ((hk.out.block _ (block_lt B7.out) (by simp)).trans B7.out)
  clear B7
  have B7 := B7'
  clear B7'
  have B8' := Lib.hid ((hk.out.block _ (block_lt B8.out) (by simp)).trans B8.out)
  clear B8
  have B8 := B8'
  clear B8'
  have B9' := Lib.hid ((hk.out.block _ (block_lt B9.out) (by simp)).trans B9.out)
  clear B9
  have B9 := B9'
  clear B9'
  clear hz hk hb10 K10 Z10
  go_wp2_with fail
  refine (at_string w11 2048 158).mono ?_
  rintro e w12 ⟨rfl, hb11, hz, hk⟩
  rw [Z11.out]
  have B11 : Hid (w12.heap[w.heap.size + 22]? = some (.cells #[.func (.func 158) #[] #[]] 200 (0, 0))) := by have h := hb11; rw [Z11.out] at h; exact h
  have Z12 : Hid (w12.heap.size = w.heap.size + 24) := by show _ = _; rw [hz.out, Z11.out]
  have K12 : Hid (Kept [] w w12) := K11.out.trans hk.out (fun i hi => by simp at hi)
  have B0' := Lib.hid ((hk.out.block _ (block_lt B0.out) (by simp)).trans B0.out)
  clear B0
  have B0 := B0'
  clear B0'
  have B1' := Lib.hid ((hk.out.block _ (block_lt B1.out) (by simp)).trans B1.out)
  clear B1
  have B1 := B1'
  clear B1'
  have B2' := Lib.hid ((hk.out.block _ (block_lt B2.out) (by simp)).trans B2.out)
  clear B2
  have B2 := B2'
  clear B2'
  have B3' := Lib.hid ((hk.out.block _ (block_lt B3.out) (by simp)).trans B3.out)
  clear B3
  have B3 := B3'
  clear B3'
  have B4' := Lib.hid ((hk.out.block _ (block_lt B4.out) (by simp)).trans B4.out)
  clear B4
  have B4 := B4'
  clear B4'
  have B5' := Lib.hid ((hk.out.block _ (block_lt B5.out) (by simp)).trans B5.out)
  clear B5
  have B5 := B5'
  clear B5'
  have B6' := Lib.hid ((hk.out.block _ (block_lt B6.out) (by simp)).trans B6.out)
  clear B6
  have B6 := B6'
  clear B6'
  have B7' := Lib.hid ((hk.out.block _ (block_lt B7.out) (by simp)).trans B7.out)
  clear B7
  have B7 := B7'
  clear B7'
  have B8' := Lib.hid ((hk.out.block _ (block_lt B8.out) (by simp)).trans B8.out)
  clear B8
  have B8 := B8'
  clear B8'
  have B9' := Lib.hid ((hk.out.block _ (block_lt B9.out) (by simp)).trans B9.out)
  clear B9
  have B9 := B9'
  clear B9'
  have B10' := Lib.hid ((hk.out.block _ (block_lt B10.out) (by simp)).trans B10.out)
  clear B10
  have B10 := B10'
  clear B10'
  clear hz hk hb11 K11 Z11
  go_wp2_with fail
  refine (at_string w12 4096 159).mono ?_
  rintro e w13 ⟨rfl, hb12, hz, hk⟩
  rw [Z12.out]
  have B12 : Hid (w13.heap[w.heap.size + 24]? = some (.cells #[.func (.func 159) #[] #[]] 200 (0, 0))) := by have h := hb12; rw [Z12.out] at h; exact h
  have Z13 : Hid (w13.heap.size = w.heap.size + 26) := by show _ = _; rw [hz.out, Z12.out]
  have K13 : Hid (Kept [] w w13) := K12.out.trans hk.out (fun i hi => by simp at hi)
  have B0' := Lib.hid ((hk.out.block _ (block_lt B0.out) (by simp)).trans B0.out)
  clear B0
  have B0 := B0'
  clear B0'
  have B1' := Lib.hid ((hk.out.block _ (block_lt B1.out) (by simp)).trans B1.out)
  clear B1
  have B1 := B1'
  clear B1'
  have B2' := Lib.hid ((hk.out.block _ (block_lt B2.out) (by simp)).trans B2.out)
  clear B2
  have B2 := B2'
  clear B2'
  have B3' := Lib.hid ((hk.out.block _ (block_lt B3.out) (by simp)).trans B3.out)
  clear B3
  have B3 := B3'
  clear B3'
  have B4' := Lib.hid ((hk.out.block _ (block_lt B4.out) (by simp)).trans B4.out)
  clear B4
  have B4 := B4'
  clear B4'
  have B5' := Lib.hid ((hk.out.block _ (block_lt B5.out) (by simp)).trans B5.out)
  clear B5
  have B5 := B5'
  clear B5'
  have B6' := Lib.hid ((hk.out.block _ (block_lt B6.out) (by simp)).trans B6.out)
  clear B6
  have B6 := B6'
  clear B6'
  have B7' := Lib.hid ((hk.out.block _ (block_lt B7.out) (by simp)).trans B7.out)
  clear B7
  have B7 := B7'
  clear B7'
  have B8' := Lib.hid ((hk.out.block _ (block_lt B8.out) (by simp)).trans B8.out)
  clear B8
  have B8 := B8'
  clear B8'
  have B9' := Lib.hid ((hk.out.block _ (block_lt B9.out) (by simp)).trans B9.out)
  clear B9
  have B9 := B9'
  clear B9'
  have B10' := Lib.hid ((hk.out.block _ (block_lt B10.out) (by simp)).trans B10.out)
  clear B10
  have B10 := B10'
  clear B10'
  have B11' := Lib.hid ((hk.out.block _ (block_lt B11.out) (by simp)).trans B11.out)
  clear B11
  have B11 := B11'
  clear B11'
  clear hz hk hb12 K12 Z12
  go_wp2_with fail
  go_ret
  have KA : Kept [] w13 (w13.alloc (.cells (cells w.heap.size) 167 (0, 0))) := (Kept.refl [] w13).alloc _
  exact ⟨by rw [Z13.out]; rfl, ⟨by rw [← Z13.out]; exact heap_alloc_new w13 _, (KA.block _ (block_lt B0.out) (by simp)).trans B0.out, (KA.block _ (block_lt B1.out) (by simp)).trans B1.out, (KA.block _ (block_lt B2.out) (by simp)).trans B2.out, (KA.block _ (block_lt B3.out) (by simp)).trans B3.out, (KA.block _ (block_lt B4.out) (by simp)).trans B4.out, (KA.block _ (block_lt B5.out) (by simp)).trans B5.out, (KA.block _ (block_lt B6.out) (by simp)).trans B6.out, (KA.block _ (block_lt B7.out) (by simp)).trans B7.out, (KA.block _ (block_lt B8.out) (by simp)).trans B8.out, (KA.block _ (block_lt B9.out) (by simp)).trans B9.out, (KA.block _ (block_lt B10.out) (by simp)).trans B10.out, (KA.block _ (block_lt B11.out) (by simp)).trans B11.out, (KA.block _ (block_lt B12.out) (by simp)).trans B12.out⟩, K13.out.alloc _⟩
end Tab
end Go.Proofs.YtahjmpfjidijaaaGreatDoor
end
