/- rules: why a change may not be: the five tests of Wstat. -/
import Derived.Test.YteeheapenfklcaaGreatDoorRwg
import Derived.Test.YteeheapenfklcaaGreatDoorRcs
namespace Go.Proofs.YteeheapenfklcaaGreatDoor
set_option linter.unusedVariables false
open Go.RowKit Go.Shelf
attribute [local go_sem] Oper.semAt_some
namespace Ru
open Go.Proofs.YteeheapenfklcaaGreatDoor.Utf Go.Proofs.YteeheapenfklcaaGreatDoor.Txt Go.PlainAid Go.Proofs.YteeheapenfklcaaGreatDoor.Mpf Go.Proofs.YteeheapenfklcaaGreatDoor.Us

/-- A record that is asked for. -/
structure Wn where
  ty : Nat
  dev : Nat
  kd : Nat
  vr : Nat
  pa : Nat
  mo : Nat
  atm : Nat
  mt : Nat
  ln : Nat
  nm : ByteArray
  ud : ByteArray
  gd : ByteArray
  mu : ByteArray
def Wn.L (s : Wn) : List Value := [.int .u16 s.ty, .int .u32 s.dev, .int .u8 s.kd, .int .u32 s.vr, .int .u64 s.pa, .int .u32 s.mo, .int .u32 s.atm, .int .u32 s.mt, .int .u64 s.ln, .string s.nm, .string s.ud, .string s.gd, .string s.mu]
theorem size_w8 : (Tryz.prog.info? 97).map (·.size) = some 2 := by kernel_rfl
theorem wpList_wmid {ops : Array Oper} {Q : Exit → Act → World → Prop} {a : Act} {w : World} {rest : List Oper} {op : Oper} (hw : Region.wanted op (yielded ops a.tmps) = true) (x : Operand) (ho : op.op = .load 97 x) (b o : Nat) (hx : a.eval x = .pointer (some ⟨b, o, none⟩)) (cs : List Value) (hc : w.rangeAt b o cs) (hl : cs.length = 2)
    (h : wpList Tryz.prog ops Q rest (a.put op.dst (.agg cs.toArray)) w) : wpList Tryz.prog ops Q (op :: rest) a w :=
  wpList_want hw fun _ hK => wp_load_mid 97 x ho b o hx cs _ hc Tryz.underlying97 rfl (by rw [hl]; exact size_w8) (hK _ _ h)
/-- Who asks, of what, and what for. -/
def chA (q : Nat) (u : ByteArray) (n p : Nd) (tk fl : Bool) (s : Wn) : Array Value := #[.pointer (some ⟨q, 0, none⟩), .string u, .int .u64 n.path, .int .u64 n.parent, .string n.name, .int .u32 n.mode, .string n.uid, .string n.gid, .string n.muid, .int .u32 n.atime, .int .u32 n.mtime, .int .u32 n.vers, .int .u64 n.length, .int .i64 n.opens, .int .i64 n.kids, .int .u64 p.path, .int .u64 p.parent, .string p.name, .int .u32 p.mode, .string p.uid, .string p.gid, .string p.muid, .int .u32 p.atime, .int .u32 p.mtime, .int .u32 p.vers, .int .u64 p.length, .int .i64 p.opens, .int .i64 p.kids, .bool tk, .bool fl, .int .u16 s.ty, .int .u32 s.dev, .int .u8 s.kd, .int .u32 s.vr, .int .u64 s.pa, .int .u32 s.mo, .int .u32 s.atm, .int .u32 s.mt, .int .u64 s.ln, .string s.nm, .string s.ud, .string s.gd, .string s.mu]
def Ch (w : World) (R q : Nat) (u : ByteArray) (n p : Nd) (tk fl : Bool) (s : Wn) : Prop := w.heap[R]? = some (.cells #[.pointer (some ⟨q, 0, none⟩), .string u, .int .u64 n.path, .int .u64 n.parent, .string n.name, .int .u32 n.mode, .string n.uid, .string n.gid, .string n.muid, .int .u32 n.atime, .int .u32 n.mtime, .int .u32 n.vers, .int .u64 n.length, .int .i64 n.opens, .int .i64 n.kids, .int .u64 p.path, .int .u64 p.parent, .string p.name, .int .u32 p.mode, .string p.uid, .string p.gid, .string p.muid, .int .u32 p.atime, .int .u32 p.mtime, .int .u32 p.vers, .int .u64 p.length, .int .i64 p.opens, .int .i64 p.kids, .bool tk, .bool fl, .int .u16 s.ty, .int .u32 s.dev, .int .u8 s.kd, .int .u32 s.vr, .int .u64 s.pa, .int .u32 s.mo, .int .u32 s.atm, .int .u32 s.mt, .int .u64 s.ln, .string s.nm, .string s.ud, .string s.gd, .string s.mu] 100 (0, 0))
theorem Ch.kept {S : List Nat} {w w' : World} {R q : Nat} {u : ByteArray} {n p : Nd} {tk fl : Bool} {s : Wn} (h : Ch w R q u n p tk fl s) (k : Kept S w w') (hn : R ∉ S) : Ch w' R q u n p tk fl s := (k.block R (block_lt h) hn).trans h
set_option maxRecDepth 100000 in
theorem Ch.cells {w : World} {R q : Nat} {u : ByteArray} {n p : Nd} {tk fl : Bool} {s : Wn} (h : Ch w R q u n p tk fl s) : w.cell? ⟨R, 0, none⟩ = some (.pointer (some ⟨q, 0, none⟩)) ∧ w.cell? ⟨R, 5, none⟩ = some (.int .u32 n.mode) ∧ w.cell? ⟨R, 12, none⟩ = some (.int .u64 n.length) ∧ w.cell? ⟨R, 28, none⟩ = some (.bool tk) ∧ w.cell? ⟨R, 35, none⟩ = some (.int .u32 s.mo) ∧ w.cell? ⟨R, 38, none⟩ = some (.int .u64 s.ln) ∧ w.cell? ⟨R, 39, none⟩ = some (.string s.nm) ∧ w.cell? ⟨R, 41, none⟩ = some (.string s.gd) := by
  refine ⟨?_, ?_, ?_, ?_, ?_, ?_, ?_, ?_⟩ <;> (rw [cell_of_row w R _ _ _ (0, 0) h]; rfl)
set_option maxRecDepth 100000 in
theorem Ch.who {w : World} {R q : Nat} {u : ByteArray} {n p : Nd} {tk fl : Bool} {s : Wn} (h : Ch w R q u n p tk fl s) : w.rangeAt R 0 [.pointer (some ⟨q, 0, none⟩), .string u] := fun j v hj => by
  rw [cell_of_row w R _ _ _ (0, 0) h]
  have : j < 2 := by
    have := (List.getElem?_eq_some_iff.1 hj).1
    simpa using this
  rcases (by omega : j = 0 ∨ j = 1) with rfl | rfl <;> exact hj
set_option maxRecDepth 100000 in
theorem Ch.node {w : World} {R q : Nat} {u : ByteArray} {n p : Nd} {tk fl : Bool} {s : Wn} (h : Ch w R q u n p tk fl s) : w.rangeAt R 2 [.int .u64 n.path, .int .u64 n.parent, .string n.name, .int .u32 n.mode, .string n.uid, .string n.gid, .string n.muid, .int .u32 n.atime, .int .u32 n.mtime, .int .u32 n.vers, .int .u64 n.length, .int .i64 n.opens, .int .i64 n.kids] := fun j v hj => by
  rw [cell_of_row w R _ _ _ (0, 0) h]
  have : j < 13 := by
    have := (List.getElem?_eq_some_iff.1 hj).1
    simpa using this
  rcases (by omega : j = 0 ∨ j = 1 ∨ j = 2 ∨ j = 3 ∨ j = 4 ∨ j = 5 ∨ j = 6 ∨ j = 7 ∨ j = 8 ∨ j = 9 ∨ j = 10 ∨ j = 11 ∨ j = 12) with rfl | rfl | rfl | rfl | rfl | rfl | rfl | rfl | rfl | rfl | rfl | rfl | rfl <;> exact hj
set_option maxRecDepth 100000 in
theorem Ch.parent {w : World} {R q : Nat} {u : ByteArray} {n p : Nd} {tk fl : Bool} {s : Wn} (h : Ch w R q u n p tk fl s) : w.rangeAt R 15 [.int .u64 p.path, .int .u64 p.parent, .string p.name, .int .u32 p.mode, .string p.uid, .string p.gid, .string p.muid, .int .u32 p.atime, .int .u32 p.mtime, .int .u32 p.vers, .int .u64 p.length, .int .i64 p.opens, .int .i64 p.kids] := fun j v hj => by
  rw [cell_of_row w R _ _ _ (0, 0) h]
  have : j < 13 := by
    have := (List.getElem?_eq_some_iff.1 hj).1
    simpa using this
  rcases (by omega : j = 0 ∨ j = 1 ∨ j = 2 ∨ j = 3 ∨ j = 4 ∨ j = 5 ∨ j = 6 ∨ j = 7 ∨ j = 8 ∨ j = 9 ∨ j = 10 ∨ j = 11 ∨ j = 12) with rfl | rfl | rfl | rfl | rfl | rfl | rfl | rfl | rfl | rfl | rfl | rfl | rfl <;> exact hj

def rMode (T : List Acc) (u : ByteArray) (n : Nd) (mo : Nat) : Int := if govV T u n = false then 90 else if permE (mo : Int) ≠ 0 ∨ bits .and .u32 (bits .xor .u32 (mo : Int) (n.mode : Int)) 2147483648 ≠ 0 then 91 else 0
def rMtime (T : List Acc) (u : ByteArray) (n : Nd) : Int := if govV T u n = false then 90 else 0
def rLength (T : List Acc) (u : ByteArray) (n : Nd) (ln : Nat) : Int := if dirV n = true then 92 else if mayV T u n 2 = false then 90 else if 65536 < ln then 98 else if bits .and .u32 (n.mode : Int) 1073741824 ≠ 0 ∧ ln < n.length then 97 else 0
def rName (T : List Acc) (u : ByteArray) (n p : Nd) (tk : Bool) (nm : ByteArray) : Int := if Nm.chk nm = false then 50 else if n.path = 1 ∨ mayV T u p 2 = false then 90 else if tk = true then 95 else 0
def rGid (T : List Acc) (u : ByteArray) (n : Nd) (g : ByteArray) : Int := if known T g = false then 99 else if giveV T u n g = false then 90 else 0
set_option maxRecDepth 100000 in
theorem refFixed_any (w : World) (V : Array Value) : Calls Tryz.prog 71 #[.agg V] w fun e w' => e = .returned (.int .i64 97) ∧ Kept [] w w' := by
  have KA : Hid (Kept [] w (w.alloc (.cells V 100))) := (Kept.refl _ _).alloc _
  go_enter Tryz.func71, Tryz.ntmps71
  go_wp2_with fail
  go_ret
  exact ⟨rfl, KA.out⟩
set_option maxHeartbeats 16000000 in
set_option maxRecDepth 100000 in
theorem refMtime_any {w : World} {B q : Nat} {T : List Acc} (h : Tb w B q T) (hT : T.length ≤ 1048576) (u : ByteArray) (n p : Nd) (tk fl : Bool) (s : Wn) (hu : u.size ≤ maxLen) (hg : n.gid.size ≤ maxLen) (hg2 : p.gid.size ≤ maxLen) (hnm : s.nm.size ≤ 140737488355328) (hgd : s.gd.size ≤ maxLen) :
    Calls Tryz.prog 75 #[.agg (chA q u n p tk fl s)] w fun e w' => e = .returned (.int .i64 (rMtime T u n)) ∧ Kept [] w w' := by
  have GV : Hid (∀ w', Kept [] w w' → Calls Tryz.prog 118 #[.agg #[.pointer (some ⟨q, 0, none⟩), .string u], .agg #[.int .u64 n.path, .int .u64 n.parent, .string n.name, .int .u32 n.mode, .string n.uid, .string n.gid, .string n.muid, .int .u32 n.atime, .int .u32 n.mtime, .int .u32 n.vers, .int .u64 n.length, .int .i64 n.opens, .int .i64 n.kids]] w' fun e w'' => e = .returned (.bool (govV T u n)) ∧ Kept [] w' w'') := fun w' k => governs_any (h.kept k) hT u n hu hg
  obtain ⟨gb, hgb⟩ : ∃ b, b = govV T u n := ⟨_, rfl⟩
  unfold rMtime
  rw [← hgb] at GV ⊢
  clear hgb
  obtain ⟨V, hV⟩ : ∃ V, V = chA q u n p tk fl s := ⟨_, rfl⟩
  obtain ⟨w1, hw1⟩ : ∃ w1, w1 = w.alloc (.cells V 100) := ⟨_, rfl⟩
  obtain ⟨R, hR⟩ : ∃ R, R = w.heap.size := ⟨_, rfl⟩
  have C1 : Hid (Ch w1 R q u n p tk fl s) := by rw [hw1, hR, hV]; exact (MapKept.heap_alloc w _).1
  have K1 : Hid (Kept [] w w1) := by rw [hw1]; exact (Kept.refl _ _).alloc _
  have HW1 := Lib.hid hw1
  have HR := Lib.hid hR
  obtain ⟨x0, x5, x12, x28, x35, x38, x39, x41⟩ := C1.out.cells
  rw [← hV]
  clear hV hw1 hR h hu hg hg2 hnm hgd
  go_enter Tryz.func75, Tryz.ntmps75
  go_upto_region 1 with fail
  rw [← HW1.out, ← HR.out]
  go_wp2_with (first | (refine wpList_wmid (by rfl) _ rfl R 0 rfl [.pointer (some ⟨q, 0, none⟩), .string u] C1.out.who rfl ?_) | (refine wpList_nmid (by rfl) _ rfl R 2 rfl [.int .u64 n.path, .int .u64 n.parent, .string n.name, .int .u32 n.mode, .string n.uid, .string n.gid, .string n.muid, .int .u32 n.atime, .int .u32 n.mtime, .int .u32 n.vers, .int .u64 n.length, .int .i64 n.opens, .int .i64 n.kids] C1.out.node rfl ?_) | (go_at_call 118; refine (GV.out _ K1.out).mono ?_; rintro e w2 ⟨rfl, k2⟩; have K2 : Hid (Kept [] w w2) := K1.out.trans k2 (fun i hi => by cases hi); have C2 := Lib.hid (C1.out.kept k2 (by simp)); obtain ⟨y2_0, y2_5, y2_12, y2_28, y2_35, y2_38, y2_39, y2_41⟩ := C2.out.cells; clear k2 GV))
  all_goals go_ret
  all_goals first | exact ⟨by simp_all, K4.out⟩ | exact ⟨by simp_all, K3.out⟩ | exact ⟨by simp_all, K2.out⟩ | exact ⟨by simp_all, K1.out⟩
set_option maxHeartbeats 16000000 in
set_option maxRecDepth 100000 in
theorem refMode_any {w : World} {B q : Nat} {T : List Acc} (h : Tb w B q T) (hT : T.length ≤ 1048576) (u : ByteArray) (n p : Nd) (tk fl : Bool) (s : Wn) (hu : u.size ≤ maxLen) (hg : n.gid.size ≤ maxLen) (hg2 : p.gid.size ≤ maxLen) (hnm : s.nm.size ≤ 140737488355328) (hgd : s.gd.size ≤ maxLen) :
    Calls Tryz.prog 73 #[.agg (chA q u n p tk fl s)] w fun e w' => e = .returned (.int .i64 (rMode T u n s.mo)) ∧ Kept [] w w' := by
  have GV : Hid (∀ w', Kept [] w w' → Calls Tryz.prog 118 #[.agg #[.pointer (some ⟨q, 0, none⟩), .string u], .agg #[.int .u64 n.path, .int .u64 n.parent, .string n.name, .int .u32 n.mode, .string n.uid, .string n.gid, .string n.muid, .int .u32 n.atime, .int .u32 n.mtime, .int .u32 n.vers, .int .u64 n.length, .int .i64 n.opens, .int .i64 n.kids]] w' fun e w'' => e = .returned (.bool (govV T u n)) ∧ Kept [] w' w'') := fun w' k => governs_any (h.kept k) hT u n hu hg
  have PE : Hid (∀ w', Calls Tryz.prog 98 #[.int .u32 (s.mo : Int)] w' fun e w'' => e = .returned (.int .i64 (permE (s.mo : Int))) ∧ w' = w'') := fun w' => Perm_any w' _
  obtain ⟨gb, hgb⟩ : ∃ b, b = govV T u n := ⟨_, rfl⟩
  obtain ⟨pe, hpe⟩ : ∃ b, b = permE (s.mo : Int) := ⟨_, rfl⟩
  obtain ⟨bx, hbx⟩ : ∃ b, bits .and .u32 (bits .xor .u32 (s.mo : Int) (n.mode : Int)) 2147483648 = b := ⟨_, rfl⟩
  unfold rMode
  rw [← hgb] at GV ⊢
  rw [← hpe] at PE ⊢
  rw [hbx]
  clear hgb hpe
  obtain ⟨V, hV⟩ : ∃ V, V = chA q u n p tk fl s := ⟨_, rfl⟩
  obtain ⟨w1, hw1⟩ : ∃ w1, w1 = w.alloc (.cells V 100) := ⟨_, rfl⟩
  obtain ⟨R, hR⟩ : ∃ R, R = w.heap.size := ⟨_, rfl⟩
  have C1 : Hid (Ch w1 R q u n p tk fl s) := by rw [hw1, hR, hV]; exact (MapKept.heap_alloc w _).1
  have K1 : Hid (Kept [] w w1) := by rw [hw1]; exact (Kept.refl _ _).alloc _
  have HW1 := Lib.hid hw1
  have HR := Lib.hid hR
  obtain ⟨x0, x5, x12, x28, x35, x38, x39, x41⟩ := C1.out.cells
  rw [← hV]
  clear hV hw1 hR h hu hg hg2 hnm hgd
  go_enter Tryz.func73, Tryz.ntmps73
  go_upto_region 1 with fail
  rw [← HW1.out, ← HR.out]
  go_wp2_with (first | (refine wpList_wmid (by rfl) _ rfl R 0 rfl [.pointer (some ⟨q, 0, none⟩), .string u] C1.out.who rfl ?_) | (refine wpList_nmid (by rfl) _ rfl R 2 rfl [.int .u64 n.path, .int .u64 n.parent, .string n.name, .int .u32 n.mode, .string n.uid, .string n.gid, .string n.muid, .int .u32 n.atime, .int .u32 n.mtime, .int .u32 n.vers, .int .u64 n.length, .int .i64 n.opens, .int .i64 n.kids] C1.out.node rfl ?_) | (go_at_call 118; refine (GV.out _ K1.out).mono ?_; rintro e w2 ⟨rfl, k2⟩; have K2 : Hid (Kept [] w w2) := K1.out.trans k2 (fun i hi => by cases hi); have C2 := Lib.hid (C1.out.kept k2 (by simp)); obtain ⟨y2_0, y2_5, y2_12, y2_28, y2_35, y2_38, y2_39, y2_41⟩ := C2.out.cells; clear k2 GV) | (go_at_call 98; refine (PE.out _).mono ?_; rintro e w3 ⟨rfl, rfl⟩))
  all_goals go_ret
  all_goals first | exact ⟨by simp_all, K4.out⟩ | exact ⟨by simp_all, K3.out⟩ | exact ⟨by simp_all, K2.out⟩ | exact ⟨by simp_all, K1.out⟩
set_option maxHeartbeats 16000000 in
set_option maxRecDepth 100000 in
theorem refLength_any {w : World} {B q : Nat} {T : List Acc} (h : Tb w B q T) (hT : T.length ≤ 1048576) (u : ByteArray) (n p : Nd) (tk fl : Bool) (s : Wn) (hu : u.size ≤ maxLen) (hg : n.gid.size ≤ maxLen) (hg2 : p.gid.size ≤ maxLen) (hnm : s.nm.size ≤ 140737488355328) (hgd : s.gd.size ≤ maxLen) :
    Calls Tryz.prog 77 #[.agg (chA q u n p tk fl s)] w fun e w' => e = .returned (.int .i64 (rLength T u n s.ln)) ∧ Kept [] w w' := by
  have DD : Hid (∀ w', Kept [] w w' → Calls Tryz.prog 42 #[.agg #[.int .u64 n.path, .int .u64 n.parent, .string n.name, .int .u32 n.mode, .string n.uid, .string n.gid, .string n.muid, .int .u32 n.atime, .int .u32 n.mtime, .int .u32 n.vers, .int .u64 n.length, .int .i64 n.opens, .int .i64 n.kids]] w' fun e w'' => e = .returned (.bool (dirV n)) ∧ Kept [] w' w'') := fun w' _ => isDir_any w' n
  have MW : Hid (∀ w', Kept [] w w' → Calls Tryz.prog 68 #[.agg #[.pointer (some ⟨q, 0, none⟩), .string u], .agg #[.int .u64 n.path, .int .u64 n.parent, .string n.name, .int .u32 n.mode, .string n.uid, .string n.gid, .string n.muid, .int .u32 n.atime, .int .u32 n.mtime, .int .u32 n.vers, .int .u64 n.length, .int .i64 n.opens, .int .i64 n.kids]] w' fun e w'' => e = .returned (.bool (mayV T u n 2)) ∧ Kept [] w' w'') := fun w' k => mayWrite_any (h.kept k) u n hu hg
  obtain ⟨db, hdb⟩ : ∃ b, b = dirV n := ⟨_, rfl⟩
  obtain ⟨mb, hmb⟩ : ∃ b, b = mayV T u n 2 := ⟨_, rfl⟩
  obtain ⟨bx, hbx⟩ : ∃ b, bits .and .u32 (n.mode : Int) 1073741824 = b := ⟨_, rfl⟩
  have l1 : ((65536 : Int) < (s.ln : Int)) = (65536 < s.ln) := propext ⟨fun h => by omega, fun h => by omega⟩
  have l2 : ((s.ln : Int) < (n.length : Int)) = (s.ln < n.length) := propext ⟨fun h => by omega, fun h => by omega⟩
  unfold rLength
  rw [← hdb] at DD ⊢
  rw [← hmb] at MW ⊢
  rw [hbx]
  clear hdb hmb
  obtain ⟨V, hV⟩ : ∃ V, V = chA q u n p tk fl s := ⟨_, rfl⟩
  obtain ⟨w1, hw1⟩ : ∃ w1, w1 = w.alloc (.cells V 100) := ⟨_, rfl⟩
  obtain ⟨R, hR⟩ : ∃ R, R = w.heap.size := ⟨_, rfl⟩
  have C1 : Hid (Ch w1 R q u n p tk fl s) := by rw [hw1, hR, hV]; exact (MapKept.heap_alloc w _).1
  have K1 : Hid (Kept [] w w1) := by rw [hw1]; exact (Kept.refl _ _).alloc _
  have HW1 := Lib.hid hw1
  have HR := Lib.hid hR
  obtain ⟨x0, x5, x12, x28, x35, x38, x39, x41⟩ := C1.out.cells
  rw [← hV]
  clear hV hw1 hR h hu hg hg2 hnm hgd
  go_enter Tryz.func77, Tryz.ntmps77
  go_upto_region 1 with fail
  rw [← HW1.out, ← HR.out]
  go_wp2_with (first | (refine wpList_wmid (by rfl) _ rfl R 0 rfl [.pointer (some ⟨q, 0, none⟩), .string u] C2.out.who rfl ?_) | (refine wpList_nmid (by rfl) _ rfl R 2 rfl [.int .u64 n.path, .int .u64 n.parent, .string n.name, .int .u32 n.mode, .string n.uid, .string n.gid, .string n.muid, .int .u32 n.atime, .int .u32 n.mtime, .int .u32 n.vers, .int .u64 n.length, .int .i64 n.opens, .int .i64 n.kids] C1.out.node rfl ?_) | (refine wpList_nmid (by rfl) _ rfl R 2 rfl [.int .u64 n.path, .int .u64 n.parent, .string n.name, .int .u32 n.mode, .string n.uid, .string n.gid, .string n.muid, .int .u32 n.atime, .int .u32 n.mtime, .int .u32 n.vers, .int .u64 n.length, .int .i64 n.opens, .int .i64 n.kids] C2.out.node rfl ?_) | (go_at_call 42; refine (DD.out _ K1.out).mono ?_; rintro e w2 ⟨rfl, k2⟩; have K2 : Hid (Kept [] w w2) := K1.out.trans k2 (fun i hi => by cases hi); have C2 := Lib.hid (C1.out.kept k2 (by simp)); obtain ⟨y2_0, y2_5, y2_12, y2_28, y2_35, y2_38, y2_39, y2_41⟩ := C2.out.cells; clear k2 DD) | (go_at_call 68; refine (MW.out _ K2.out).mono ?_; rintro e w3 ⟨rfl, k3⟩; have K3 : Hid (Kept [] w w3) := K2.out.trans k3 (fun i hi => by cases hi); have C3 := Lib.hid (C2.out.kept k3 (by simp)); obtain ⟨y3_0, y3_5, y3_12, y3_28, y3_35, y3_38, y3_39, y3_41⟩ := C3.out.cells; clear k3 MW))
  all_goals go_ret
  all_goals first | exact ⟨by simp_all, K4.out⟩ | exact ⟨by simp_all, K3.out⟩ | exact ⟨by simp_all, K2.out⟩ | exact ⟨by simp_all, K1.out⟩
set_option maxHeartbeats 16000000 in
set_option maxRecDepth 100000 in
theorem refName_any {w : World} {B q : Nat} {T : List Acc} (h : Tb w B q T) (hT : T.length ≤ 1048576) (u : ByteArray) (n p : Nd) (tk fl : Bool) (s : Wn) (hu : u.size ≤ maxLen) (hg : n.gid.size ≤ maxLen) (hg2 : p.gid.size ≤ maxLen) (hnm : s.nm.size ≤ 140737488355328) (hgd : s.gd.size ≤ maxLen) :
    Calls Tryz.prog 79 #[.agg (chA q u n p tk fl s)] w fun e w' => e = .returned (.int .i64 (rName T u n p tk s.nm)) ∧ Kept [] w w' := by
  have CK : Hid (∀ w', Kept [] w w' → Calls Tryz.prog 97 #[.string s.nm] w' fun e w'' => e = .returned (.int .i64 (if Nm.chk s.nm = true then 0 else 50)) ∧ Kept [] w' w'') := fun w' _ => Nm.check_any w' s.nm hnm
  have RT : Hid (∀ w', Kept [] w w' → Calls Tryz.prog 119 #[.agg #[.int .u64 n.path, .int .u64 n.parent, .string n.name, .int .u32 n.mode, .string n.uid, .string n.gid, .string n.muid, .int .u32 n.atime, .int .u32 n.mtime, .int .u32 n.vers, .int .u64 n.length, .int .i64 n.opens, .int .i64 n.kids]] w' fun e w'' => e = .returned (.bool ((n.path : Int) == 1)) ∧ Kept [] w' w'') := fun w' _ => isRoot_any w' n
  have MW : Hid (∀ w', Kept [] w w' → Calls Tryz.prog 68 #[.agg #[.pointer (some ⟨q, 0, none⟩), .string u], .agg #[.int .u64 p.path, .int .u64 p.parent, .string p.name, .int .u32 p.mode, .string p.uid, .string p.gid, .string p.muid, .int .u32 p.atime, .int .u32 p.mtime, .int .u32 p.vers, .int .u64 p.length, .int .i64 p.opens, .int .i64 p.kids]] w' fun e w'' => e = .returned (.bool (mayV T u p 2)) ∧ Kept [] w' w'') := fun w' k => mayWrite_any (h.kept k) u p hu hg2
  obtain ⟨cb, hcb⟩ : ∃ b, b = Nm.chk s.nm := ⟨_, rfl⟩
  obtain ⟨mb, hmb⟩ : ∃ b, b = mayV T u p 2 := ⟨_, rfl⟩
  obtain ⟨rb, hrb⟩ : ∃ b, b = ((n.path : Int) == 1) := ⟨_, rfl⟩
  have hr2 : (n.path = 1) = (rb = true) := by rw [hrb]; exact propext ⟨fun h => by simp [h], fun h => by simp at h; omega⟩
  unfold rName
  rw [← hcb] at CK ⊢
  rw [← hmb] at MW ⊢
  rw [← hrb] at RT
  simp only [hr2]
  obtain ⟨ck, hck⟩ : ∃ c : Int, c = if cb = true then 0 else 50 := ⟨_, rfl⟩
  rw [← hck] at CK
  have hc2 : (cb = false) = (¬ ck = 0) := by rw [hck]; cases cb <;> simp
  simp only [hc2]
  clear hcb hmb hrb hr2 hck hc2
  obtain ⟨V, hV⟩ : ∃ V, V = chA q u n p tk fl s := ⟨_, rfl⟩
  obtain ⟨w1, hw1⟩ : ∃ w1, w1 = w.alloc (.cells V 100) := ⟨_, rfl⟩
  obtain ⟨R, hR⟩ : ∃ R, R = w.heap.size := ⟨_, rfl⟩
  have C1 : Hid (Ch w1 R q u n p tk fl s) := by rw [hw1, hR, hV]; exact (MapKept.heap_alloc w _).1
  have K1 : Hid (Kept [] w w1) := by rw [hw1]; exact (Kept.refl _ _).alloc _
  have HW1 := Lib.hid hw1
  have HR := Lib.hid hR
  obtain ⟨x0, x5, x12, x28, x35, x38, x39, x41⟩ := C1.out.cells
  rw [← hV]
  clear hV hw1 hR h hu hg hg2 hnm hgd
  go_enter Tryz.func79, Tryz.ntmps79
  go_upto_region 1 with fail
  rw [← HW1.out, ← HR.out]
  go_wp2_with (first | (refine wpList_nmid (by rfl) _ rfl R 2 rfl [.int .u64 n.path, .int .u64 n.parent, .string n.name, .int .u32 n.mode, .string n.uid, .string n.gid, .string n.muid, .int .u32 n.atime, .int .u32 n.mtime, .int .u32 n.vers, .int .u64 n.length, .int .i64 n.opens, .int .i64 n.kids] C2.out.node rfl ?_) | (refine wpList_wmid (by rfl) _ rfl R 0 rfl [.pointer (some ⟨q, 0, none⟩), .string u] C3.out.who rfl ?_) | (refine wpList_nmid (by rfl) _ rfl R 15 rfl [.int .u64 p.path, .int .u64 p.parent, .string p.name, .int .u32 p.mode, .string p.uid, .string p.gid, .string p.muid, .int .u32 p.atime, .int .u32 p.mtime, .int .u32 p.vers, .int .u64 p.length, .int .i64 p.opens, .int .i64 p.kids] C3.out.parent rfl ?_) | (go_at_call 97; refine (CK.out _ K1.out).mono ?_; rintro e w2 ⟨rfl, k2⟩; have K2 : Hid (Kept [] w w2) := K1.out.trans k2 (fun i hi => by cases hi); have C2 := Lib.hid (C1.out.kept k2 (by simp)); obtain ⟨y2_0, y2_5, y2_12, y2_28, y2_35, y2_38, y2_39, y2_41⟩ := C2.out.cells; clear k2 CK) | (go_at_call 119; refine (RT.out _ K2.out).mono ?_; rintro e w3 ⟨rfl, k3⟩; have K3 : Hid (Kept [] w w3) := K2.out.trans k3 (fun i hi => by cases hi); have C3 := Lib.hid (C2.out.kept k3 (by simp)); obtain ⟨y3_0, y3_5, y3_12, y3_28, y3_35, y3_38, y3_39, y3_41⟩ := C3.out.cells; clear k3 RT) | (go_at_call 68; refine (MW.out _ K3.out).mono ?_; rintro e w4 ⟨rfl, k4⟩; have K4 : Hid (Kept [] w w4) := K3.out.trans k4 (fun i hi => by cases hi); have C4 := Lib.hid (C3.out.kept k4 (by simp)); obtain ⟨y4_0, y4_5, y4_12, y4_28, y4_35, y4_38, y4_39, y4_41⟩ := C4.out.cells; clear k4 MW))
  all_goals go_ret
  all_goals first | exact ⟨by simp_all, K4.out⟩ | exact ⟨by simp_all, K3.out⟩ | exact ⟨by simp_all, K2.out⟩ | exact ⟨by simp_all, K1.out⟩
set_option maxHeartbeats 16000000 in
set_option maxRecDepth 100000 in
theorem refGid_any {w : World} {B q : Nat} {T : List Acc} (h : Tb w B q T) (hT : T.length ≤ 1048576) (u : ByteArray) (n p : Nd) (tk fl : Bool) (s : Wn) (hu : u.size ≤ maxLen) (hg : n.gid.size ≤ maxLen) (hg2 : p.gid.size ≤ maxLen) (hnm : s.nm.size ≤ 140737488355328) (hgd : s.gd.size ≤ maxLen) :
    Calls Tryz.prog 81 #[.agg (chA q u n p tk fl s)] w fun e w' => e = .returned (.int .i64 (rGid T u n s.gd)) ∧ Kept [] w w' := by
  have KN : Hid (∀ w', Kept [] w w' → Calls Tryz.prog 13 #[.pointer (some ⟨q, 0, none⟩), .string s.gd] w' fun e w'' => e = .returned (.bool (known T s.gd)) ∧ Kept [] w' w'') := fun w' k => known_t (h.kept k) s.gd hgd
  have GI : Hid (∀ w', Kept [] w w' → Calls Tryz.prog 120 #[.agg #[.pointer (some ⟨q, 0, none⟩), .string u], .agg #[.int .u64 n.path, .int .u64 n.parent, .string n.name, .int .u32 n.mode, .string n.uid, .string n.gid, .string n.muid, .int .u32 n.atime, .int .u32 n.mtime, .int .u32 n.vers, .int .u64 n.length, .int .i64 n.opens, .int .i64 n.kids], .string s.gd] w' fun e w'' => e = .returned (.bool (giveV T u n s.gd)) ∧ Kept [] w' w'') := fun w' k => mayGive_any (h.kept k) hT u n s.gd hu hg hgd
  obtain ⟨kb, hkb⟩ : ∃ b, b = known T s.gd := ⟨_, rfl⟩
  obtain ⟨gb, hgb⟩ : ∃ b, b = giveV T u n s.gd := ⟨_, rfl⟩
  unfold rGid
  rw [← hkb] at KN ⊢
  rw [← hgb] at GI ⊢
  clear hkb hgb
  obtain ⟨V, hV⟩ : ∃ V, V = chA q u n p tk fl s := ⟨_, rfl⟩
  obtain ⟨w1, hw1⟩ : ∃ w1, w1 = w.alloc (.cells V 100) := ⟨_, rfl⟩
  obtain ⟨R, hR⟩ : ∃ R, R = w.heap.size := ⟨_, rfl⟩
  have C1 : Hid (Ch w1 R q u n p tk fl s) := by rw [hw1, hR, hV]; exact (MapKept.heap_alloc w _).1
  have K1 : Hid (Kept [] w w1) := by rw [hw1]; exact (Kept.refl _ _).alloc _
  have HW1 := Lib.hid hw1
  have HR := Lib.hid hR
  obtain ⟨x0, x5, x12, x28, x35, x38, x39, x41⟩ := C1.out.cells
  rw [← hV]
  clear hV hw1 hR h hu hg hg2 hnm hgd
  go_enter Tryz.func81, Tryz.ntmps81
  go_upto_region 1 with fail
  rw [← HW1.out, ← HR.out]
  go_wp2_with (first | (refine wpList_wmid (by rfl) _ rfl R 0 rfl [.pointer (some ⟨q, 0, none⟩), .string u] C2.out.who rfl ?_) | (refine wpList_nmid (by rfl) _ rfl R 2 rfl [.int .u64 n.path, .int .u64 n.parent, .string n.name, .int .u32 n.mode, .string n.uid, .string n.gid, .string n.muid, .int .u32 n.atime, .int .u32 n.mtime, .int .u32 n.vers, .int .u64 n.length, .int .i64 n.opens, .int .i64 n.kids] C2.out.node rfl ?_) | (go_at_call 13; refine (KN.out _ K1.out).mono ?_; rintro e w2 ⟨rfl, k2⟩; have K2 : Hid (Kept [] w w2) := K1.out.trans k2 (fun i hi => by cases hi); have C2 := Lib.hid (C1.out.kept k2 (by simp)); obtain ⟨y2_0, y2_5, y2_12, y2_28, y2_35, y2_38, y2_39, y2_41⟩ := C2.out.cells; clear k2 KN) | (go_at_call 120; refine (GI.out _ K2.out).mono ?_; rintro e w3 ⟨rfl, k3⟩; have K3 : Hid (Kept [] w w3) := K2.out.trans k3 (fun i hi => by cases hi); have C3 := Lib.hid (C2.out.kept k3 (by simp)); obtain ⟨y3_0, y3_5, y3_12, y3_28, y3_35, y3_38, y3_39, y3_41⟩ := C3.out.cells; clear k3 GI))
  all_goals go_ret
  all_goals first | exact ⟨by simp_all, K4.out⟩ | exact ⟨by simp_all, K3.out⟩ | exact ⟨by simp_all, K2.out⟩ | exact ⟨by simp_all, K1.out⟩
end Ru
end Go.Proofs.YteeheapenfklcaaGreatDoor
