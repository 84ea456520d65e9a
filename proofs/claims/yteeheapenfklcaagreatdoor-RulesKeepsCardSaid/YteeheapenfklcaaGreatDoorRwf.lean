/- rules: the table of a change's fields; what sets them. -/
import Derived.Test.YteeheapenfklcaaGreatDoorRwh
import Derived.Laws.EntriesVeiled
namespace Go.Proofs.YteeheapenfklcaaGreatDoor
set_option linter.unusedVariables false
open Go.RowKit Go.Shelf
attribute [local go_sem] Oper.semAt_some
namespace Ru
open Go.Proofs.YteeheapenfklcaaGreatDoor.Utf Go.Proofs.YteeheapenfklcaaGreatDoor.Txt Go.PlainAid Go.Proofs.YteeheapenfklcaaGreatDoor.Mpf Go.Proofs.YteeheapenfklcaaGreatDoor.Us

/-- A node's block, known whole. -/
def Nz (w : World) (B : Nat) (n : Nd) : Prop := w.heap[B]? = some (.cells #[.int .u64 n.path, .int .u64 n.parent, .string n.name, .int .u32 n.mode, .string n.uid, .string n.gid, .string n.muid, .int .u32 n.atime, .int .u32 n.mtime, .int .u32 n.vers, .int .u64 n.length, .int .i64 n.opens, .int .i64 n.kids] 46 (0, 0))
theorem setNothing_any (w : World) (x : Value) (y : Array Value) : Calls Tryz.prog 72 #[x, .agg y] w fun e w' => e = .returned (.tuple #[]) ∧ Kept [] w w' := by
  have KA : Hid (Kept [] w (w.alloc (.cells y 55))) := (Kept.refl _ _).alloc _
  go_enter Tryz.func72, Tryz.ntmps72
  go_wp2_with fail
  go_end0
  exact ⟨rfl, KA.out⟩
set_option maxRecDepth 100000 in
theorem set1_any {w : World} {B : Nat} {n : Nd} (h : Nz w B n) (s : Wn) :
    Calls Tryz.prog 74 #[.pointer (some ⟨B, 0, none⟩), .agg #[.int .u16 s.ty, .int .u32 s.dev, .int .u8 s.kd, .int .u32 s.vr, .int .u64 s.pa, .int .u32 s.mo, .int .u32 s.atm, .int .u32 s.mt, .int .u64 s.ln, .string s.nm, .string s.ud, .string s.gd, .string s.mu]] w fun e w' => e = .returned (.tuple #[]) ∧ Nz w' B { n with mode := s.mo } ∧ Kept [B] w w' := by
  have KA : Kept [B] w (w.alloc (.cells #[.int .u16 s.ty, .int .u32 s.dev, .int .u8 s.kd, .int .u32 s.vr, .int .u64 s.pa, .int .u32 s.mo, .int .u32 s.atm, .int .u32 s.mt, .int .u64 s.ln, .string s.nm, .string s.ud, .string s.gd, .string s.mu] 55)) := (Kept.refl _ _).alloc _
  have b1 : (w.alloc (.cells #[.int .u16 s.ty, .int .u32 s.dev, .int .u8 s.kd, .int .u32 s.vr, .int .u64 s.pa, .int .u32 s.mo, .int .u32 s.atm, .int .u32 s.mt, .int .u64 s.ln, .string s.nm, .string s.ud, .string s.gd, .string s.mu] 55)).heap[B]? = some (.cells #[.int .u64 n.path, .int .u64 n.parent, .string n.name, .int .u32 n.mode, .string n.uid, .string n.gid, .string n.muid, .int .u32 n.atime, .int .u32 n.mtime, .int .u32 n.vers, .int .u64 n.length, .int .i64 n.opens, .int .i64 n.kids] 46 (0, 0)) := (((Kept.refl [] w).alloc _).block B (block_lt h) (by simp)).trans h
  have y := cell_of_row _ B 3 _ _ (0, 0) b1
  have z := frozen_of_row _ B 3 _ _ b1
  have FIN : Hid (Nz ((w.alloc (.cells #[.int .u16 s.ty, .int .u32 s.dev, .int .u8 s.kd, .int .u32 s.vr, .int .u64 s.pa, .int .u32 s.mo, .int .u32 s.atm, .int .u32 s.mt, .int .u64 s.ln, .string s.nm, .string s.ud, .string s.gd, .string s.mu] 55)).setCell ⟨B, 3, none⟩ (.int .u32 s.mo)) B { n with mode := s.mo } ∧ Kept [B] w ((w.alloc (.cells #[.int .u16 s.ty, .int .u32 s.dev, .int .u8 s.kd, .int .u32 s.vr, .int .u64 s.pa, .int .u32 s.mo, .int .u32 s.atm, .int .u32 s.mt, .int .u64 s.ln, .string s.nm, .string s.ud, .string s.gd, .string s.mu] 55)).setCell ⟨B, 3, none⟩ (.int .u32 s.mo))) := ⟨heap_set _ b1, KA.setCell (Or.inl (by simp)) _⟩
  clear KA b1 h
  go_enter Tryz.func74, Tryz.ntmps74
  go_wp2_with fail
  first | go_end0 | skip
  exact ⟨rfl, FIN.out⟩
set_option maxRecDepth 100000 in
theorem set2_any {w : World} {B : Nat} {n : Nd} (h : Nz w B n) (s : Wn) :
    Calls Tryz.prog 76 #[.pointer (some ⟨B, 0, none⟩), .agg #[.int .u16 s.ty, .int .u32 s.dev, .int .u8 s.kd, .int .u32 s.vr, .int .u64 s.pa, .int .u32 s.mo, .int .u32 s.atm, .int .u32 s.mt, .int .u64 s.ln, .string s.nm, .string s.ud, .string s.gd, .string s.mu]] w fun e w' => e = .returned (.tuple #[]) ∧ Nz w' B { n with mtime := s.mt } ∧ Kept [B] w w' := by
  have KA : Kept [B] w (w.alloc (.cells #[.int .u16 s.ty, .int .u32 s.dev, .int .u8 s.kd, .int .u32 s.vr, .int .u64 s.pa, .int .u32 s.mo, .int .u32 s.atm, .int .u32 s.mt, .int .u64 s.ln, .string s.nm, .string s.ud, .string s.gd, .string s.mu] 55)) := (Kept.refl _ _).alloc _
  have b1 : (w.alloc (.cells #[.int .u16 s.ty, .int .u32 s.dev, .int .u8 s.kd, .int .u32 s.vr, .int .u64 s.pa, .int .u32 s.mo, .int .u32 s.atm, .int .u32 s.mt, .int .u64 s.ln, .string s.nm, .string s.ud, .string s.gd, .string s.mu] 55)).heap[B]? = some (.cells #[.int .u64 n.path, .int .u64 n.parent, .string n.name, .int .u32 n.mode, .string n.uid, .string n.gid, .string n.muid, .int .u32 n.atime, .int .u32 n.mtime, .int .u32 n.vers, .int .u64 n.length, .int .i64 n.opens, .int .i64 n.kids] 46 (0, 0)) := (((Kept.refl [] w).alloc _).block B (block_lt h) (by simp)).trans h
  have y := cell_of_row _ B 8 _ _ (0, 0) b1
  have z := frozen_of_row _ B 8 _ _ b1
  have FIN : Hid (Nz ((w.alloc (.cells #[.int .u16 s.ty, .int .u32 s.dev, .int .u8 s.kd, .int .u32 s.vr, .int .u64 s.pa, .int .u32 s.mo, .int .u32 s.atm, .int .u32 s.mt, .int .u64 s.ln, .string s.nm, .string s.ud, .string s.gd, .string s.mu] 55)).setCell ⟨B, 8, none⟩ (.int .u32 s.mt)) B { n with mtime := s.mt } ∧ Kept [B] w ((w.alloc (.cells #[.int .u16 s.ty, .int .u32 s.dev, .int .u8 s.kd, .int .u32 s.vr, .int .u64 s.pa, .int .u32 s.mo, .int .u32 s.atm, .int .u32 s.mt, .int .u64 s.ln, .string s.nm, .string s.ud, .string s.gd, .string s.mu] 55)).setCell ⟨B, 8, none⟩ (.int .u32 s.mt))) := ⟨heap_set _ b1, KA.setCell (Or.inl (by simp)) _⟩
  clear KA b1 h
  go_enter Tryz.func76, Tryz.ntmps76
  go_wp2_with fail
  first | go_end0 | skip
  exact ⟨rfl, FIN.out⟩
set_option maxRecDepth 100000 in
theorem set3_any {w : World} {B : Nat} {n : Nd} (h : Nz w B n) (s : Wn) :
    Calls Tryz.prog 78 #[.pointer (some ⟨B, 0, none⟩), .agg #[.int .u16 s.ty, .int .u32 s.dev, .int .u8 s.kd, .int .u32 s.vr, .int .u64 s.pa, .int .u32 s.mo, .int .u32 s.atm, .int .u32 s.mt, .int .u64 s.ln, .string s.nm, .string s.ud, .string s.gd, .string s.mu]] w fun e w' => e = .returned (.tuple #[]) ∧ Nz w' B { n with length := s.ln } ∧ Kept [B] w w' := by
  have KA : Kept [B] w (w.alloc (.cells #[.int .u16 s.ty, .int .u32 s.dev, .int .u8 s.kd, .int .u32 s.vr, .int .u64 s.pa, .int .u32 s.mo, .int .u32 s.atm, .int .u32 s.mt, .int .u64 s.ln, .string s.nm, .string s.ud, .string s.gd, .string s.mu] 55)) := (Kept.refl _ _).alloc _
  have b1 : (w.alloc (.cells #[.int .u16 s.ty, .int .u32 s.dev, .int .u8 s.kd, .int .u32 s.vr, .int .u64 s.pa, .int .u32 s.mo, .int .u32 s.atm, .int .u32 s.mt, .int .u64 s.ln, .string s.nm, .string s.ud, .string s.gd, .string s.mu] 55)).heap[B]? = some (.cells #[.int .u64 n.path, .int .u64 n.parent, .string n.name, .int .u32 n.mode, .string n.uid, .string n.gid, .string n.muid, .int .u32 n.atime, .int .u32 n.mtime, .int .u32 n.vers, .int .u64 n.length, .int .i64 n.opens, .int .i64 n.kids] 46 (0, 0)) := (((Kept.refl [] w).alloc _).block B (block_lt h) (by simp)).trans h
  have y := cell_of_row _ B 10 _ _ (0, 0) b1
  have z := frozen_of_row _ B 10 _ _ b1
  have FIN : Hid (Nz ((w.alloc (.cells #[.int .u16 s.ty, .int .u32 s.dev, .int .u8 s.kd, .int .u32 s.vr, .int .u64 s.pa, .int .u32 s.mo, .int .u32 s.atm, .int .u32 s.mt, .int .u64 s.ln, .string s.nm, .string s.ud, .string s.gd, .string s.mu] 55)).setCell ⟨B, 10, none⟩ (.int .u64 s.ln)) B { n with length := s.ln } ∧ Kept [B] w ((w.alloc (.cells #[.int .u16 s.ty, .int .u32 s.dev, .int .u8 s.kd, .int .u32 s.vr, .int .u64 s.pa, .int .u32 s.mo, .int .u32 s.atm, .int .u32 s.mt, .int .u64 s.ln, .string s.nm, .string s.ud, .string s.gd, .string s.mu] 55)).setCell ⟨B, 10, none⟩ (.int .u64 s.ln))) := ⟨heap_set _ b1, KA.setCell (Or.inl (by simp)) _⟩
  clear KA b1 h
  go_enter Tryz.func78, Tryz.ntmps78
  go_wp2_with fail
  first | go_end0 | skip
  exact ⟨rfl, FIN.out⟩
set_option maxRecDepth 100000 in
theorem set4_any {w : World} {B : Nat} {n : Nd} (h : Nz w B n) (s : Wn) :
    Calls Tryz.prog 80 #[.pointer (some ⟨B, 0, none⟩), .agg #[.int .u16 s.ty, .int .u32 s.dev, .int .u8 s.kd, .int .u32 s.vr, .int .u64 s.pa, .int .u32 s.mo, .int .u32 s.atm, .int .u32 s.mt, .int .u64 s.ln, .string s.nm, .string s.ud, .string s.gd, .string s.mu]] w fun e w' => e = .returned (.tuple #[]) ∧ Nz w' B { n with name := s.nm } ∧ Kept [B] w w' := by
  have KA : Kept [B] w (w.alloc (.cells #[.int .u16 s.ty, .int .u32 s.dev, .int .u8 s.kd, .int .u32 s.vr, .int .u64 s.pa, .int .u32 s.mo, .int .u32 s.atm, .int .u32 s.mt, .int .u64 s.ln, .string s.nm, .string s.ud, .string s.gd, .string s.mu] 55)) := (Kept.refl _ _).alloc _
  have b1 : (w.alloc (.cells #[.int .u16 s.ty, .int .u32 s.dev, .int .u8 s.kd, .int .u32 s.vr, .int .u64 s.pa, .int .u32 s.mo, .int .u32 s.atm, .int .u32 s.mt, .int .u64 s.ln, .string s.nm, .string s.ud, .string s.gd, .string s.mu] 55)).heap[B]? = some (.cells #[.int .u64 n.path, .int .u64 n.parent, .string n.name, .int .u32 n.mode, .string n.uid, .string n.gid, .string n.muid, .int .u32 n.atime, .int .u32 n.mtime, .int .u32 n.vers, .int .u64 n.length, .int .i64 n.opens, .int .i64 n.kids] 46 (0, 0)) := (((Kept.refl [] w).alloc _).block B (block_lt h) (by simp)).trans h
  have y := cell_of_row _ B 2 _ _ (0, 0) b1
  have z := frozen_of_row _ B 2 _ _ b1
  have FIN : Hid (Nz ((w.alloc (.cells #[.int .u16 s.ty, .int .u32 s.dev, .int .u8 s.kd, .int .u32 s.vr, .int .u64 s.pa, .int .u32 s.mo, .int .u32 s.atm, .int .u32 s.mt, .int .u64 s.ln, .string s.nm, .string s.ud, .string s.gd, .string s.mu] 55)).setCell ⟨B, 2, none⟩ (.string s.nm)) B { n with name := s.nm } ∧ Kept [B] w ((w.alloc (.cells #[.int .u16 s.ty, .int .u32 s.dev, .int .u8 s.kd, .int .u32 s.vr, .int .u64 s.pa, .int .u32 s.mo, .int .u32 s.atm, .int .u32 s.mt, .int .u64 s.ln, .string s.nm, .string s.ud, .string s.gd, .string s.mu] 55)).setCell ⟨B, 2, none⟩ (.string s.nm))) := ⟨heap_set _ b1, KA.setCell (Or.inl (by simp)) _⟩
  clear KA b1 h
  go_enter Tryz.func80, Tryz.ntmps80
  go_wp2_with fail
  first | go_end0 | skip
  exact ⟨rfl, FIN.out⟩
set_option maxRecDepth 100000 in
theorem set5_any {w : World} {B : Nat} {n : Nd} (h : Nz w B n) (s : Wn) :
    Calls Tryz.prog 82 #[.pointer (some ⟨B, 0, none⟩), .agg #[.int .u16 s.ty, .int .u32 s.dev, .int .u8 s.kd, .int .u32 s.vr, .int .u64 s.pa, .int .u32 s.mo, .int .u32 s.atm, .int .u32 s.mt, .int .u64 s.ln, .string s.nm, .string s.ud, .string s.gd, .string s.mu]] w fun e w' => e = .returned (.tuple #[]) ∧ Nz w' B { n with gid := s.gd } ∧ Kept [B] w w' := by
  have KA : Kept [B] w (w.alloc (.cells #[.int .u16 s.ty, .int .u32 s.dev, .int .u8 s.kd, .int .u32 s.vr, .int .u64 s.pa, .int .u32 s.mo, .int .u32 s.atm, .int .u32 s.mt, .int .u64 s.ln, .string s.nm, .string s.ud, .string s.gd, .string s.mu] 55)) := (Kept.refl _ _).alloc _
  have b1 : (w.alloc (.cells #[.int .u16 s.ty, .int .u32 s.dev, .int .u8 s.kd, .int .u32 s.vr, .int .u64 s.pa, .int .u32 s.mo, .int .u32 s.atm, .int .u32 s.mt, .int .u64 s.ln, .string s.nm, .string s.ud, .string s.gd, .string s.mu] 55)).heap[B]? = some (.cells #[.int .u64 n.path, .int .u64 n.parent, .string n.name, .int .u32 n.mode, .string n.uid, .string n.gid, .string n.muid, .int .u32 n.atime, .int .u32 n.mtime, .int .u32 n.vers, .int .u64 n.length, .int .i64 n.opens, .int .i64 n.kids] 46 (0, 0)) := (((Kept.refl [] w).alloc _).block B (block_lt h) (by simp)).trans h
  have y := cell_of_row _ B 5 _ _ (0, 0) b1
  have z := frozen_of_row _ B 5 _ _ b1
  have FIN : Hid (Nz ((w.alloc (.cells #[.int .u16 s.ty, .int .u32 s.dev, .int .u8 s.kd, .int .u32 s.vr, .int .u64 s.pa, .int .u32 s.mo, .int .u32 s.atm, .int .u32 s.mt, .int .u64 s.ln, .string s.nm, .string s.ud, .string s.gd, .string s.mu] 55)).setCell ⟨B, 5, none⟩ (.string s.gd)) B { n with gid := s.gd } ∧ Kept [B] w ((w.alloc (.cells #[.int .u16 s.ty, .int .u32 s.dev, .int .u8 s.kd, .int .u32 s.vr, .int .u64 s.pa, .int .u32 s.mo, .int .u32 s.atm, .int .u32 s.mt, .int .u64 s.ln, .string s.nm, .string s.ud, .string s.gd, .string s.mu] 55)).setCell ⟨B, 5, none⟩ (.string s.gd))) := ⟨heap_set _ b1, KA.setCell (Or.inl (by simp)) _⟩
  clear KA b1 h
  go_enter Tryz.func82, Tryz.ntmps82
  go_wp2_with fail
  first | go_end0 | skip
  exact ⟨rfl, FIN.out⟩
/-- The table's cells. -/
def tabA : Array Value := #[.int .u16 1, .func (.func 71) #[] #[], .func (.func 72) #[] #[], .int .u16 2, .func (.func 71) #[] #[], .func (.func 72) #[] #[], .int .u16 4, .func (.func 71) #[] #[], .func (.func 72) #[] #[], .int .u16 8, .func (.func 71) #[] #[], .func (.func 72) #[] #[], .int .u16 16, .func (.func 71) #[] #[], .func (.func 72) #[] #[], .int .u16 32, .func (.func 73) #[] #[], .func (.func 74) #[] #[], .int .u16 64, .func (.func 71) #[] #[], .func (.func 72) #[] #[], .int .u16 128, .func (.func 75) #[] #[], .func (.func 76) #[] #[], .int .u16 256, .func (.func 77) #[] #[], .func (.func 78) #[] #[], .int .u16 512, .func (.func 79) #[] #[], .func (.func 80) #[] #[], .int .u16 1024, .func (.func 71) #[] #[], .func (.func 72) #[] #[], .int .u16 2048, .func (.func 81) #[] #[], .func (.func 82) #[] #[], .int .u16 4096, .func (.func 71) #[] #[], .func (.func 72) #[] #[]]
set_option maxHeartbeats 4000000 in
set_option maxRecDepth 100000 in
theorem rfields_any (w : World) : Calls Tryz.prog 41 #[] w fun e w' => e = .returned (.slice (some ⟨w.heap.size, 0, none⟩) 13 13) ∧ w' = w.alloc (.cells tabA 108) := by
  unfold tabA
  go_enter Tryz.func41, Tryz.ntmps41
  go_wp2_with fail
  go_ret
  exact ⟨rfl, rfl⟩
end Ru
end Go.Proofs.YteeheapenfklcaaGreatDoor
