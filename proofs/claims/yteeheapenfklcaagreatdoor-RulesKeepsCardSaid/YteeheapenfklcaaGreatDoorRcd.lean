/- A record as stat's calls have it (for seats without the wire): structure, cells, how it lies. -/
import Derived.Test.YteeheapenfklcaaGreatDoorKept
import Derived.Test.YteeheapenfklcaaGreatDoorLaw
import Derived.Test.YteeheapenfklcaaGreatDoorUtb
namespace Go.Proofs.YteeheapenfklcaaGreatDoor
set_option linter.unusedVariables false
open Go.RowKit

structure Rec where
  ty : Nat
  dev : Nat
  kind : Nat
  vers : Nat
  path : Nat
  mode : Nat
  atime : Nat
  mtime : Nat
  len : Nat
  name : ByteArray
  uid : ByteArray
  gid : ByteArray
  muid : ByteArray
def Rec.cells (s : Rec) : Array Value := #[.int .u16 s.ty, .int .u32 s.dev, .int .u8 s.kind, .int .u32 s.vers, .int .u64 s.path, .int .u32 s.mode, .int .u32 s.atime, .int .u32 s.mtime, .int .u64 s.len, .string s.name, .string s.uid, .string s.gid, .string s.muid]
def Rec.val (s : Rec) : Value := .agg s.cells
def Lies (w : World) (b : Nat) (s : Rec) : Prop := w.heap[b]? = some (.cells s.cells 55 (0, 0))
theorem Lies.cells {w : World} {b : Nat} {s : Rec} (h : Lies w b s) : w.cell? ⟨b, 0, none⟩ = some (.int .u16 s.ty) ∧ w.cell? ⟨b, 1, none⟩ = some (.int .u32 s.dev) ∧ w.cell? ⟨b, 2, none⟩ = some (.int .u8 s.kind) ∧ w.cell? ⟨b, 3, none⟩ = some (.int .u32 s.vers) ∧ w.cell? ⟨b, 4, none⟩ = some (.int .u64 s.path) ∧
    w.cell? ⟨b, 5, none⟩ = some (.int .u32 s.mode) ∧ w.cell? ⟨b, 6, none⟩ = some (.int .u32 s.atime) ∧ w.cell? ⟨b, 7, none⟩ = some (.int .u32 s.mtime) ∧ w.cell? ⟨b, 8, none⟩ = some (.int .u64 s.len) ∧ w.cell? ⟨b, 9, none⟩ = some (.string s.name) ∧ w.cell? ⟨b, 10, none⟩ = some (.string s.uid) ∧
    w.cell? ⟨b, 11, none⟩ = some (.string s.gid) ∧ w.cell? ⟨b, 12, none⟩ = some (.string s.muid) := by
  have g := fun i => cell_of_row w b i s.cells 55 (0, 0) h
  exact ⟨g 0, g 1, g 2, g 3, g 4, g 5, g 6, g 7, g 8, g 9, g 10, g 11, g 12⟩
theorem Lies.kept {w w' : World} {b : Nat} {s : Rec} {T : List Nat} (h : Lies w b s) (hk : Kept T w w') (hb : b ∉ T) : Lies w' b s := by
  unfold Lies at h ⊢
  rw [hk.block b (block_lt h) hb]; exact h
theorem three {w : World} {p : Nat} {a b c : Value} {t : TypeId} (h : w.heap[p]? = some (.cells #[a, b, c] t (0, 0))) :
    w.cell? ⟨p, 0, none⟩ = some a ∧ w.cell? ⟨p, 1, none⟩ = some b ∧ w.cell? ⟨p, 2, none⟩ = some c ∧ (∀ i, w.frozen? ⟨p, i, none⟩ = false) := by
  have g := fun i => cell_of_row w p i #[a, b, c] t (0, 0) h
  exact ⟨g 0, g 1, g 2, fun i => by simp [World.frozen?, h]⟩
theorem set3 {w : World} {p : Nat} {a b c : Value} {t : TypeId} (x y z : Value) (h : w.heap[p]? = some (.cells #[a, b, c] t (0, 0))) :
    (((w.setCell ⟨p, 0, none⟩ x).setCell ⟨p, 1, none⟩ y).setCell ⟨p, 2, none⟩ z).heap[p]? = some (.cells #[x, y, z] t (0, 0)) := by
  rw [heap_set _ (heap_set _ (heap_set _ h))]
  rfl
theorem thirteen {w : World} {p : Nat} {a0 a1 a2 a3 a4 a5 a6 a7 a8 a9 a10 a11 a12 : Value} {t : TypeId} (h : w.heap[p]? = some (.cells #[a0, a1, a2, a3, a4, a5, a6, a7, a8, a9, a10, a11, a12] t (0, 0))) :
    w.cell? ⟨p, 0, none⟩ = some a0 ∧ w.cell? ⟨p, 1, none⟩ = some a1 ∧ w.cell? ⟨p, 2, none⟩ = some a2 ∧ w.cell? ⟨p, 3, none⟩ = some a3 ∧ w.cell? ⟨p, 4, none⟩ = some a4 ∧ w.cell? ⟨p, 5, none⟩ = some a5 ∧ w.cell? ⟨p, 6, none⟩ = some a6 ∧ w.cell? ⟨p, 7, none⟩ = some a7 ∧ w.cell? ⟨p, 8, none⟩ = some a8 ∧ w.cell? ⟨p, 9, none⟩ = some a9 ∧ w.cell? ⟨p, 10, none⟩ = some a10 ∧ w.cell? ⟨p, 11, none⟩ = some a11 ∧ w.cell? ⟨p, 12, none⟩ = some a12 ∧ (∀ i, w.frozen? ⟨p, i, none⟩ = false) := by
  have g := fun i => cell_of_row w p i #[a0, a1, a2, a3, a4, a5, a6, a7, a8, a9, a10, a11, a12] t (0, 0) h
  exact ⟨g 0, g 1, g 2, g 3, g 4, g 5, g 6, g 7, g 8, g 9, g 10, g 11, g 12, fun i => by simp [World.frozen?, h]⟩
theorem set13 {w : World} {p : Nat} {a0 a1 a2 a3 a4 a5 a6 a7 a8 a9 a10 a11 a12 : Value} {t : TypeId} (x0 x1 x2 x3 x4 x5 x6 x7 x8 x9 x10 x11 x12 : Value) (h : w.heap[p]? = some (.cells #[a0, a1, a2, a3, a4, a5, a6, a7, a8, a9, a10, a11, a12] t (0, 0))) :
    (((((((((((((w.setCell ⟨p, 0, none⟩ x0).setCell ⟨p, 1, none⟩ x1).setCell ⟨p, 2, none⟩ x2).setCell ⟨p, 3, none⟩ x3).setCell ⟨p, 4, none⟩ x4).setCell ⟨p, 5, none⟩ x5).setCell ⟨p, 6, none⟩ x6).setCell ⟨p, 7, none⟩ x7).setCell ⟨p, 8, none⟩ x8).setCell ⟨p, 9, none⟩ x9).setCell ⟨p, 10, none⟩ x10).setCell ⟨p, 11, none⟩ x11).setCell ⟨p, 12, none⟩ x12).heap[p]? = some (.cells #[x0, x1, x2, x3, x4, x5, x6, x7, x8, x9, x10, x11, x12] t (0, 0)) := by
  rw [heap_set _ (heap_set _ (heap_set _ (heap_set _ (heap_set _ (heap_set _ (heap_set _ (heap_set _ (heap_set _ (heap_set _ (heap_set _ (heap_set _ (heap_set _ h))))))))))))]
  simp only [List.setIfInBounds_toArray, List.set_cons_zero, List.set_cons_succ]
theorem two_old (w : World) (o o' : Obj) : ((w.alloc o).alloc o').heap[w.heap.size]? = some o := by
  rw [((Kept.refl [] (w.alloc o)).alloc o').block w.heap.size (by simp) (by simp)]
  exact heap_alloc_new w o
theorem two_new (w : World) (o o' : Obj) : ((w.alloc o).alloc o').heap[w.heap.size + 1]? = some o' := by
  have e : w.heap.size + 1 = (w.alloc o).heap.size := by simp
  rw [e]
  exact heap_alloc_new _ o'
namespace Rdr
theorem or_16 (a b m i : Nat) (hm : m = 2 ^ i) (ha : a < m) (hb : b * m < 65536) (hm1 : m < 65536) : bits .or .u16 (a : Int) ((b * m : Nat) : Int) = ((a + b * m : Nat) : Int) := by
  have e : a ||| b * m = a + b * m := by
    subst hm
    rw [Nat.or_comm, Nat.mul_comm, ← Nat.two_pow_add_eq_or_of_lt ha, Nat.add_comm]
  have hx : a ||| b * m < 2 ^ 16 := Nat.or_lt_two_pow (by omega) (by omega)
  have h1 : (BitVec.ofInt 16 (a : Int)).toNat = a := by
    rw [BitVec.ofInt_natCast, BitVec.toNat_ofNat]; exact Nat.mod_eq_of_lt (by omega)
  have h2 : (BitVec.ofInt 16 ((b * m : Nat) : Int)).toNat = b * m := by
    rw [BitVec.ofInt_natCast, BitVec.toNat_ofNat]; exact Nat.mod_eq_of_lt (by omega)
  show IntKind.u16.wrap ((BitVec.ofInt 16 (a : Int) ||| BitVec.ofInt 16 ((b * m : Nat) : Int)).toNat : Int) = _
  rw [BitVec.toNat_or, h1, h2, IntKind.wrap_u16, e]
  rw [e] at hx
  omega
end Rdr
end Go.Proofs.YteeheapenfklcaaGreatDoor
