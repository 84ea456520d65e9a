/- rules: a case as it lies; much, table. -/
import Derived.Test.YteeheapenfklcaaGreatDoorRcn
import Derived.Test.YteeheapenfklcaaGreatDoorRu6
namespace Go.Proofs.YteeheapenfklcaaGreatDoor
set_option linter.unusedVariables false
open Go.RowKit Go.Shelf
attribute [local go_sem] Oper.semAt_some
namespace Ru
open Go.Proofs.YteeheapenfklcaaGreatDoor.Utf Go.Proofs.YteeheapenfklcaaGreatDoor.Txt Go.PlainAid Go.Proofs.YteeheapenfklcaaGreatDoor.Mpf Go.Proofs.YteeheapenfklcaaGreatDoor.Us

/-- An operation that is wanted. -/
theorem wpList_want {P : Program} {ops : Array Oper} {Q : Exit → Act → World → Prop} {a : Act} {w : World} {rest : List Oper} {o : Oper} (hw : Region.wanted o (yielded ops a.tmps) = true)
    (h : ∀ K : Act → World → Prop, (∀ a w, wpList P ops Q rest a w → K a w) → o.wp P a w K Q) : wpList P ops Q (o :: rest) a w := by
  unfold wpList
  rw [if_pos hw]
  exact Or.inl (h _ fun _ _ h => h)
theorem size_n8 : (Tryz.prog.info? 46).map (·.size) = some 13 := by kernel_rfl
theorem size_f8 : (Tryz.prog.info? 48).map (·.size) = some 28 := by kernel_rfl
theorem size_c8 : (Tryz.prog.info? 50).map (·.size) = some 33 := by kernel_rfl
theorem wpList_nmid {ops : Array Oper} {Q : Exit → Act → World → Prop} {a : Act} {w : World} {rest : List Oper} {op : Oper} (hw : Region.wanted op (yielded ops a.tmps) = true) (x : Operand) (ho : op.op = .load 46 x) (b o : Nat) (hx : a.eval x = .pointer (some ⟨b, o, none⟩)) (cs : List Value) (hc : w.rangeAt b o cs) (hl : cs.length = 13)
    (h : wpList Tryz.prog ops Q rest (a.put op.dst (.agg cs.toArray)) w) : wpList Tryz.prog ops Q (op :: rest) a w :=
  wpList_want hw fun _ hK => wp_load_mid 46 x ho b o hx cs _ hc Tryz.underlying46 rfl (by rw [hl]; exact size_n8) (hK _ _ h)
theorem wpList_fmid {ops : Array Oper} {Q : Exit → Act → World → Prop} {a : Act} {w : World} {rest : List Oper} {op : Oper} (hw : Region.wanted op (yielded ops a.tmps) = true) (x : Operand) (ho : op.op = .load 48 x) (b o : Nat) (hx : a.eval x = .pointer (some ⟨b, o, none⟩)) (cs : List Value) (hc : w.rangeAt b o cs) (hl : cs.length = 28)
    (h : wpList Tryz.prog ops Q rest (a.put op.dst (.agg cs.toArray)) w) : wpList Tryz.prog ops Q (op :: rest) a w :=
  wpList_want hw fun _ hK => wp_load_mid 48 x ho b o hx cs _ hc Tryz.underlying48 rfl (by rw [hl]; exact size_f8) (hK _ _ h)
theorem wpList_cmid {ops : Array Oper} {Q : Exit → Act → World → Prop} {a : Act} {w : World} {rest : List Oper} {op : Oper} (hw : Region.wanted op (yielded ops a.tmps) = true) (x : Operand) (ho : op.op = .load 50 x) (b : Nat) (hx : a.eval x = .pointer (some ⟨b, 0, none⟩)) (V : Array Value) (hc : w.heap[b]? = some (.cells V 50 (0, 0))) (hl : V.size = 33)
    (h : wpList Tryz.prog ops Q rest (a.put op.dst (.agg V)) w) : wpList Tryz.prog ops Q (op :: rest) a w :=
  wpList_want hw fun _ hK => wp_load_row 50 x ho b hx 50 _ (0, 0) _ hc Tryz.underlying50 rfl (by rw [hl]; exact size_c8) (hK _ _ h)
/-- A case: a text of users, a user, facts, a name, a permission, a mode. -/
def caseA (text u : ByteArray) (n p : Nd) (tk fl : Bool) (name : ByteArray) (pm mode : Int) : Array Value := #[.string text, .string u, .int .u64 n.path, .int .u64 n.parent, .string n.name, .int .u32 n.mode, .string n.uid, .string n.gid, .string n.muid, .int .u32 n.atime, .int .u32 n.mtime, .int .u32 n.vers, .int .u64 n.length, .int .i64 n.opens, .int .i64 n.kids, .int .u64 p.path, .int .u64 p.parent, .string p.name, .int .u32 p.mode, .string p.uid, .string p.gid, .string p.muid, .int .u32 p.atime, .int .u32 p.mtime, .int .u32 p.vers, .int .u64 p.length, .int .i64 p.opens, .int .i64 p.kids, .bool tk, .bool fl, .string name, .int .u32 pm, .int .u8 mode]
def Bc (w : World) (R : Nat) (text u : ByteArray) (n p : Nd) (tk fl : Bool) (name : ByteArray) (pm mode : Int) : Prop := w.heap[R]? = some (.cells #[.string text, .string u, .int .u64 n.path, .int .u64 n.parent, .string n.name, .int .u32 n.mode, .string n.uid, .string n.gid, .string n.muid, .int .u32 n.atime, .int .u32 n.mtime, .int .u32 n.vers, .int .u64 n.length, .int .i64 n.opens, .int .i64 n.kids, .int .u64 p.path, .int .u64 p.parent, .string p.name, .int .u32 p.mode, .string p.uid, .string p.gid, .string p.muid, .int .u32 p.atime, .int .u32 p.mtime, .int .u32 p.vers, .int .u64 p.length, .int .i64 p.opens, .int .i64 p.kids, .bool tk, .bool fl, .string name, .int .u32 pm, .int .u8 mode] 50 (0, 0))
section
variable {S : List Nat} {w w' : World} {R : Nat} {text u : ByteArray} {n p : Nd} {tk fl : Bool} {name : ByteArray} {pm mode : Int}
theorem Bc.lt (h : Bc w R text u n p tk fl name pm mode) : R < w.heap.size := block_lt h
theorem Bc.kept (h : Bc w R text u n p tk fl name pm mode) (k : Kept S w w') (hn : R ∉ S) : Bc w' R text u n p tk fl name pm mode := (k.block R (block_lt h) hn).trans h
set_option maxRecDepth 100000 in
theorem Bc.five (h : Bc w R text u n p tk fl name pm mode) : w.cell? ⟨R, 0, none⟩ = some (Value.string text) ∧ w.cell? ⟨R, 1, none⟩ = some (Value.string u) ∧ w.cell? ⟨R, 30, none⟩ = some (Value.string name) ∧ w.cell? ⟨R, 31, none⟩ = some (Value.int .u32 pm) ∧ w.cell? ⟨R, 32, none⟩ = some (Value.int .u8 mode) := by
  refine ⟨?_, ?_, ?_, ?_, ?_⟩ <;> (rw [cell_of_row w R _ _ _ (0, 0) h]; rfl)
end
set_option maxRecDepth 100000 in
theorem Bc.facts {w : World} {R : Nat} {text u : ByteArray} {n p : Nd} {tk fl : Bool} {name : ByteArray} {pm mode : Int} (h : Bc w R text u n p tk fl name pm mode) : w.rangeAt R 2 [.int .u64 n.path, .int .u64 n.parent, .string n.name, .int .u32 n.mode, .string n.uid, .string n.gid, .string n.muid, .int .u32 n.atime, .int .u32 n.mtime, .int .u32 n.vers, .int .u64 n.length, .int .i64 n.opens, .int .i64 n.kids, .int .u64 p.path, .int .u64 p.parent, .string p.name, .int .u32 p.mode, .string p.uid, .string p.gid, .string p.muid, .int .u32 p.atime, .int .u32 p.mtime, .int .u32 p.vers, .int .u64 p.length, .int .i64 p.opens, .int .i64 p.kids, .bool tk, .bool fl] := fun j v hj => by
  rw [cell_of_row w R _ _ _ (0, 0) h]
  have : j < 28 := by
    have := (List.getElem?_eq_some_iff.1 hj).1
    simpa using this
  rcases (by omega : j = 0 ∨ j = 1 ∨ j = 2 ∨ j = 3 ∨ j = 4 ∨ j = 5 ∨ j = 6 ∨ j = 7 ∨ j = 8 ∨ j = 9 ∨ j = 10 ∨ j = 11 ∨ j = 12 ∨ j = 13 ∨ j = 14 ∨ j = 15 ∨ j = 16 ∨ j = 17 ∨ j = 18 ∨ j = 19 ∨ j = 20 ∨ j = 21 ∨ j = 22 ∨ j = 23 ∨ j = 24 ∨ j = 25 ∨ j = 26 ∨ j = 27) with rfl | rfl | rfl | rfl | rfl | rfl | rfl | rfl | rfl | rfl | rfl | rfl | rfl | rfl | rfl | rfl | rfl | rfl | rfl | rfl | rfl | rfl | rfl | rfl | rfl | rfl | rfl | rfl <;> exact hj
set_option maxRecDepth 100000 in
theorem Bc.node {w : World} {R : Nat} {text u : ByteArray} {n p : Nd} {tk fl : Bool} {name : ByteArray} {pm mode : Int} (h : Bc w R text u n p tk fl name pm mode) : w.rangeAt R 2 [.int .u64 n.path, .int .u64 n.parent, .string n.name, .int .u32 n.mode, .string n.uid, .string n.gid, .string n.muid, .int .u32 n.atime, .int .u32 n.mtime, .int .u32 n.vers, .int .u64 n.length, .int .i64 n.opens, .int .i64 n.kids] := fun j v hj => by
  rw [cell_of_row w R _ _ _ (0, 0) h]
  have : j < 13 := by
    have := (List.getElem?_eq_some_iff.1 hj).1
    simpa using this
  rcases (by omega : j = 0 ∨ j = 1 ∨ j = 2 ∨ j = 3 ∨ j = 4 ∨ j = 5 ∨ j = 6 ∨ j = 7 ∨ j = 8 ∨ j = 9 ∨ j = 10 ∨ j = 11 ∨ j = 12) with rfl | rfl | rfl | rfl | rfl | rfl | rfl | rfl | rfl | rfl | rfl | rfl | rfl <;> exact hj
set_option maxRecDepth 100000 in
theorem Bc.parent {w : World} {R : Nat} {text u : ByteArray} {n p : Nd} {tk fl : Bool} {name : ByteArray} {pm mode : Int} (h : Bc w R text u n p tk fl name pm mode) : w.rangeAt R 15 [.int .u64 p.path, .int .u64 p.parent, .string p.name, .int .u32 p.mode, .string p.uid, .string p.gid, .string p.muid, .int .u32 p.atime, .int .u32 p.mtime, .int .u32 p.vers, .int .u64 p.length, .int .i64 p.opens, .int .i64 p.kids] := fun j v hj => by
  rw [cell_of_row w R _ _ _ (0, 0) h]
  have : j < 13 := by
    have := (List.getElem?_eq_some_iff.1 hj).1
    simpa using this
  rcases (by omega : j = 0 ∨ j = 1 ∨ j = 2 ∨ j = 3 ∨ j = 4 ∨ j = 5 ∨ j = 6 ∨ j = 7 ∨ j = 8 ∨ j = 9 ∨ j = 10 ∨ j = 11 ∨ j = 12) with rfl | rfl | rfl | rfl | rfl | rfl | rfl | rfl | rfl | rfl | rfl | rfl | rfl <;> exact hj

theorem Bf.whole {w : World} {R : Nat} {n p : Nd} {tk fl : Bool} (h : Bf w R n p tk fl) : w.rangeAt R 0 [.int .u64 n.path, .int .u64 n.parent, .string n.name, .int .u32 n.mode, .string n.uid, .string n.gid, .string n.muid, .int .u32 n.atime, .int .u32 n.mtime, .int .u32 n.vers, .int .u64 n.length, .int .i64 n.opens, .int .i64 n.kids, .int .u64 p.path, .int .u64 p.parent, .string p.name, .int .u32 p.mode, .string p.uid, .string p.gid, .string p.muid, .int .u32 p.atime, .int .u32 p.mtime, .int .u32 p.vers, .int .u64 p.length, .int .i64 p.opens, .int .i64 p.kids, .bool tk, .bool fl] := fun j v hj => by
  rw [Nat.zero_add, cell_of_row w R j _ _ (0, 0) h]
  simpa using hj
set_option maxRecDepth 100000 in
theorem Bf.node {w : World} {R : Nat} {n p : Nd} {tk fl : Bool} (h : Bf w R n p tk fl) : w.rangeAt R 0 [.int .u64 n.path, .int .u64 n.parent, .string n.name, .int .u32 n.mode, .string n.uid, .string n.gid, .string n.muid, .int .u32 n.atime, .int .u32 n.mtime, .int .u32 n.vers, .int .u64 n.length, .int .i64 n.opens, .int .i64 n.kids] := fun j v hj => by
  rw [Nat.zero_add, cell_of_row w R j _ _ (0, 0) h]
  have : j < 13 := by
    have := (List.getElem?_eq_some_iff.1 hj).1
    simpa using this
  rcases (by omega : j = 0 ∨ j = 1 ∨ j = 2 ∨ j = 3 ∨ j = 4 ∨ j = 5 ∨ j = 6 ∨ j = 7 ∨ j = 8 ∨ j = 9 ∨ j = 10 ∨ j = 11 ∨ j = 12) with rfl | rfl | rfl | rfl | rfl | rfl | rfl | rfl | rfl | rfl | rfl | rfl | rfl <;> exact hj
/-- How many bytes a case has. -/
def weightC (text u : ByteArray) (n p : Nd) (name : ByteArray) : Nat := text.size + u.size + name.size + n.name.size + n.uid.size + n.gid.size + n.muid.size + p.name.size + p.uid.size + p.gid.size + p.muid.size
set_option maxHeartbeats 8000000 in
set_option maxRecDepth 100000 in
theorem much_any (w : World) (text u : ByteArray) (n p : Nd) (tk fl : Bool) (name : ByteArray) (pm mode : Int) (h0 : text.size ≤ 140737488355328) (h1 : u.size ≤ 140737488355328) (h2 : name.size ≤ 140737488355328) (n1 : n.name.size ≤ 140737488355328) (n2 : n.uid.size ≤ 140737488355328) (n3 : n.gid.size ≤ 140737488355328) (n4 : n.muid.size ≤ 140737488355328) (p1 : p.name.size ≤ 140737488355328) (p2 : p.uid.size ≤ 140737488355328) (p3 : p.gid.size ≤ 140737488355328) (p4 : p.muid.size ≤ 140737488355328) :
    Calls Tryz.prog 14 #[.agg #[.string text, .string u, .int .u64 n.path, .int .u64 n.parent, .string n.name, .int .u32 n.mode, .string n.uid, .string n.gid, .string n.muid, .int .u32 n.atime, .int .u32 n.mtime, .int .u32 n.vers, .int .u64 n.length, .int .i64 n.opens, .int .i64 n.kids, .int .u64 p.path, .int .u64 p.parent, .string p.name, .int .u32 p.mode, .string p.uid, .string p.gid, .string p.muid, .int .u32 p.atime, .int .u32 p.mtime, .int .u32 p.vers, .int .u64 p.length, .int .i64 p.opens, .int .i64 p.kids, .bool tk, .bool fl, .string name, .int .u32 pm, .int .u8 mode]] w fun e w' => e = .returned (.int .i64 (weightC text u n p name)) ∧ Kept [] w w' := by
  go_enter Tryz.func14, Tryz.ntmps14
  go_wp2_with fail
  go_ret
  refine ⟨?_, (Kept.refl _ _).alloc _⟩
  unfold weightC
  simp only [Int.natCast_add]
  rfl
/-- The table that the laws ask. -/
def tableT (text : ByteArray) : List Acc := match parse text with
  | (some T, _, _) => T
  | _ => peopleT
theorem table_any (w : World) (text : ByteArray) (hm : Ml w) (hs : text.size ≤ 140737488355328) :
    Calls Tryz.prog 16 #[.string text] w fun e w' => ∃ B p, e = .returned (.pointer (some ⟨p, 0, none⟩)) ∧ Tb w' B p (tableT text) ∧ Kept [] w w' := by
  have PAR := Lib.hid (parse_any w text hm hs)
  have PEX : Hid (∀ w', Kept [] w w' → Calls Tryz.prog 20 #[.string ⟨#[103, 108, 101, 110, 100, 97, 58, 58, 58, 10, 115, 121, 115, 58, 103, 108, 101, 110, 100, 97, 58, 98, 111, 98, 58, 10, 98, 111, 98, 58, 58, 58, 10, 101, 118, 101, 58, 58, 58, 10]⟩] w' fun e w'' => ∃ B p, e = .returned (.tuple #[.pointer (some ⟨p, 0, none⟩), .int .i64 0, .int .i64 0]) ∧ Tb w'' B p peopleT ∧ Kept [] w' w'') := fun w' k => parse_example w' (by
    obtain ⟨m, hc⟩ := hm
    exact ⟨m, by rw [← hc]; exact World.cell?_of_block (k.block _ (World.block_lt_of_cell? w _ hc) (by simp))⟩)
  clear hm hs
  go_enter Tryz.func16, Tryz.ntmps16
  go_wp2_with fail
  refine PAR.out.mono ?_
  rintro e w2 (⟨T, B, p, h1, rfl, h3, -, -, h4⟩ | ⟨er, ln, h1, h2, rfl, h4⟩)
  · have HT : Hid (tableT text = T) := by show _ = _; unfold tableT; rw [h1]
    clear h1
    go_wp2_with fail
    go_ret
    exact ⟨B, p, rfl, by rw [HT.out]; exact h3, h4⟩
  · have HT : Hid (tableT text = peopleT) := by show _ = _; unfold tableT; rw [h1]
    have e1 : ((er : Int) == 0) = false := by simp; omega
    have e2 : ((er : Int) != 0) = true := by simp; omega
    have H4 := Lib.hid h4
    clear h1 h2 h4
    go_wp2_with fail
    refine (PEX.out w2 H4.out).mono ?_
    rintro e w3 ⟨B, p, rfl, h3, h5⟩
    go_wp2_with fail
    go_ret
    exact ⟨B, p, rfl, by rw [HT.out]; exact h3, H4.out.trans h5 (fun i hi => by cases hi)⟩
end Ru
end Go.Proofs.YteeheapenfklcaaGreatDoor
