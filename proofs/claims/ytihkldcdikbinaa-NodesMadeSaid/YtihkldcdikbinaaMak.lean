/- What doMake of nodes does. -/
import Derived.Test.YtihkldcdikbinaaSto
import Derived.Test.YtihkldcdikbinaaNkc
import Derived.Deep.QuietTactic
import Derived.BigQuiet
import Derived.Deep.RegionHeld3
namespace Go.Proofs.Ytihkldcdikbinaa
set_option linter.unusedVariables false
open Go.RowKit
namespace Nd
open Go.Proofs.Ytihkldcdikbinaa.Utf Go.Proofs.Ytihkldcdikbinaa.Txt Go.PlainAid Go.Proofs.Ytihkldcdikbinaa.Mpf

/-- An operation. -/
structure OpV where
  kind : Nat
  path : Nat
  name : ByteArray
  mask : Nat
  is : Is
  ik : Int
  offset : Nat
  data : Value
  n : Int
def opL (o : OpV) : List Value := [.int .u8 o.kind, .int .u64 o.path, .string o.name, .int .u8 o.mask, .int .u64 o.is.path, .int .u64 o.is.parent, .string o.is.name, .int .u32 o.is.mode, .string o.is.uid, .string o.is.gid, .string o.is.muid, .int .u32 o.is.atime, .int .u32 o.is.mtime, .int .u32 o.is.vers, .int .u64 o.is.length, .int .i64 o.is.opens, .int .i64 o.ik, .int .u64 o.offset, o.data, .int .i64 o.n]
theorem zero_u64 (w : World) : (zeroValue 30).run Try.prog w = .ok (.int .u64 0) w := by kernel_rfl

/-- What doMake has in its hands. -/
structure MkW (w W : World) (p : Nat) (lk : Int) (most next bn bc : Nat) (ps : Value) (nc : Nat) (fc : Nat × ByteArray → Option Value) (n1 : Nat) (f : Nat → Option Value) (b : Nat) (d : Is) (lb : Int) (ks : Value) (m : Nat) (o : OpV) : Prop where
  op : Bx W w.heap.size 55 (opL o).toArray
  pl : Bx W (w.heap.size + 1) 123 #[.int .u64 o.path, .string o.is.name]
  st : StAt W p lk most next bn ps bc
  nd : NdAt W b d lb ks m
  mc : Mp pK W bc nc fc
  mn : Mp nK W bn n1 f
  k : Kept [] w W
theorem MkW.kept {w W W' : World} {p : Nat} {lk : Int} {most next bn bc : Nat} {ps : Value} {nc : Nat} {fc : Nat × ByteArray → Option Value} {n1 : Nat} {f : Nat → Option Value} {b : Nat} {d : Is} {lb : Int} {ks : Value} {m : Nat} {o : OpV}
    (h : MkW w W p lk most next bn bc ps nc fc n1 f b d lb ks m o) (k : Kept [] W W') : MkW w W' p lk most next bn bc ps nc fc n1 f b d lb ks m o :=
  ⟨h.op.kept k (by simp), h.pl.kept k (by simp), h.st.kept k (by simp), h.nd.kept k (by simp), h.mc.kept k (by simp), h.mn.kept k (by simp), h.k.trans k (fun i hi => by cases hi)⟩
theorem MkW.drew {w W : World} {p : Nat} {lk : Int} {most next bn bc : Nat} {ps : Value} {nc : Nat} {fc : Nat × ByteArray → Option Value} {n1 : Nat} {f : Nat → Option Value} {b : Nat} {d : Is} {lb : Int} {ks : Value} {m : Nat} {o : OpV}
    (h : MkW w W p lk most next bn bc ps nc fc n1 f b d lb ks m o) : MkW w W.drew p lk most next bn bc ps nc fc n1 f b d lb ks m o :=
  ⟨h.op, h.pl, h.st, h.nd, h.mc, h.mn, h.k.drew⟩
/-- .. and reads. -/
structure MkC (w W' : World) (p most bn bc : Nat) (o : OpV) : Prop where
  o0 : W'.cell? ⟨w.heap.size, 0, none⟩ = some (Value.int .u8 o.kind)
  o1 : W'.cell? ⟨w.heap.size, 1, none⟩ = some (Value.int .u64 o.path)
  o2 : W'.cell? ⟨w.heap.size, 2, none⟩ = some (Value.string o.name)
  o3 : W'.cell? ⟨w.heap.size, 3, none⟩ = some (Value.int .u8 o.mask)
  o4 : W'.cell? ⟨w.heap.size, 4, none⟩ = some (Value.int .u64 o.is.path)
  o5 : W'.cell? ⟨w.heap.size, 5, none⟩ = some (Value.int .u64 o.is.parent)
  o6 : W'.cell? ⟨w.heap.size, 6, none⟩ = some (Value.string o.is.name)
  o7 : W'.cell? ⟨w.heap.size, 7, none⟩ = some (Value.int .u32 o.is.mode)
  o8 : W'.cell? ⟨w.heap.size, 8, none⟩ = some (Value.string o.is.uid)
  o9 : W'.cell? ⟨w.heap.size, 9, none⟩ = some (Value.string o.is.gid)
  o10 : W'.cell? ⟨w.heap.size, 10, none⟩ = some (Value.string o.is.muid)
  o11 : W'.cell? ⟨w.heap.size, 11, none⟩ = some (Value.int .u32 o.is.atime)
  o12 : W'.cell? ⟨w.heap.size, 12, none⟩ = some (Value.int .u32 o.is.mtime)
  o13 : W'.cell? ⟨w.heap.size, 13, none⟩ = some (Value.int .u32 o.is.vers)
  o14 : W'.cell? ⟨w.heap.size, 14, none⟩ = some (Value.int .u64 o.is.length)
  o15 : W'.cell? ⟨w.heap.size, 15, none⟩ = some (Value.int .i64 o.is.opens)
  o16 : W'.cell? ⟨w.heap.size, 16, none⟩ = some (Value.int .i64 o.ik)
  o17 : W'.cell? ⟨w.heap.size, 17, none⟩ = some (Value.int .u64 o.offset)
  o18 : W'.cell? ⟨w.heap.size, 18, none⟩ = some (o.data)
  o19 : W'.cell? ⟨w.heap.size, 19, none⟩ = some (Value.int .i64 o.n)
  a0 : W'.cell? ⟨w.heap.size + 1, 0, none⟩ = some (Value.int .u64 o.path)
  a1 : W'.cell? ⟨w.heap.size + 1, 1, none⟩ = some (Value.string o.is.name)
  s2 : W'.cell? ⟨p, 2, none⟩ = some (Value.int .i64 most)
  s4 : W'.cell? ⟨p, 4, none⟩ = some (Value.map (some bn))
  s6 : W'.cell? ⟨p, 6, none⟩ = some (Value.map (some bc))
theorem MkW.cells {w W : World} {p : Nat} {lk : Int} {most next bn bc : Nat} {ps : Value} {nc : Nat} {fc : Nat × ByteArray → Option Value} {n1 : Nat} {f : Nat → Option Value} {b : Nat} {d : Is} {lb : Int} {ks : Value} {m : Nat} {o : OpV}
    (h : MkW w W p lk most next bn bc ps nc fc n1 f b d lb ks m o) : MkC w W p most bn bc o := ⟨h.op.cell 0 rfl, h.op.cell 1 rfl, h.op.cell 2 rfl, h.op.cell 3 rfl, h.op.cell 4 rfl, h.op.cell 5 rfl, h.op.cell 6 rfl, h.op.cell 7 rfl, h.op.cell 8 rfl, h.op.cell 9 rfl, h.op.cell 10 rfl, h.op.cell 11 rfl, h.op.cell 12 rfl, h.op.cell 13 rfl, h.op.cell 14 rfl, h.op.cell 15 rfl, h.op.cell 16 rfl, h.op.cell 17 rfl, h.op.cell 18 rfl, h.op.cell 19 rfl, h.pl.cell 0 rfl, h.pl.cell 1 rfl, h.st.cell 2 rfl, h.st.cell 4 rfl, h.st.cell 6 rfl⟩
set_option maxRecDepth 100000 in
set_option maxHeartbeats 8000000 in
theorem make_81 (w : World) (p : Nat) (lk : Int) (most next bn bc : Nat) (ps : Value) (nc : Nat) (fc : Nat × ByteArray → Option Value) (n1 : Nat) (f : Nat → Option Value) (b : Nat) (d : Is) (lb : Int) (ks : Value) (m : Nat) (o : OpV)
    (hp : StAt w p lk most next bn ps bc) (hc : Mp pK w bc nc fc) (hmn : Mp nK w bn n1 f) (hn : NdAt w b d lb ks m) (hx : o.path < 18446744073709551616) (hs : o.is.name.size ≤ maxLen) (hz : o.is.name.size ≤ 140737488355328) (u1 : o.is.uid.size ≤ 140737488355328) (u2 : o.is.gid.size ≤ 140737488355328) (u3 : o.is.muid.size ≤ 140737488355328) (tk : Bool) (hd : isDirM d.mode = false) (htk : (fc (o.path, o.is.name)).isSome = tk) :
    Calls Try.prog 43 #[.pointer (some ⟨p, 0, none⟩), .pointer (some ⟨b, 0, none⟩), .agg (opL o).toArray] w fun e w' => e = .returned (.tuple #[.int .u64 0, .int .i64 81]) ∧ Kept [] w w' := by
  have ISD := Lib.hid (fun W h => isDir_any W b d lb ks m h)
  have MAY := Lib.hid (fun W => maySet15_any W o.is o.ik u1 u2 u3)
  have CHK := Lib.hid (fun W => Nm.check_any W o.is.name hz)
  simp only [hd] at ISD
  simp only [isL] at MAY
  unfold opL
  obtain ⟨-, c2, c3, c4, c5, c6⟩ := StAt.cells hp
  go_enter Try.func43, Try.ntmps43
  go_wp2_with fail
  obtain ⟨w1, hw1⟩ : ∃ w1, w1 = (w.alloc (.cells #[.int .u8 o.kind, .int .u64 o.path, .string o.name, .int .u8 o.mask, .int .u64 o.is.path, .int .u64 o.is.parent, .string o.is.name, .int .u32 o.is.mode, .string o.is.uid, .string o.is.gid, .string o.is.muid, .int .u32 o.is.atime, .int .u32 o.is.mtime, .int .u32 o.is.vers, .int .u64 o.is.length, .int .i64 o.is.opens, .int .i64 o.ik, .int .u64 o.offset, o.data, .int .i64 o.n] 55)).alloc (.cells #[.int .u64 o.path, .string o.is.name] 123) := ⟨_, rfl⟩
  have W1 : Hid (MkW w w1 p lk most next bn bc ps nc fc n1 f b d lb ks m o) := by
    rw [hw1]
    exact ⟨Bx.alloc (Bx.made w _ _) _, alloc_new _ _ _ (by simp), (Bx.alloc hp _).alloc _, (Bx.alloc hn _).alloc _, (hc.alloc _).alloc _, (hmn.alloc _).alloc _, ((Kept.refl [] w).alloc _).alloc _⟩
  rw [← hw1]
  clear hw1 c2 c3 c4 c5 c6
  have SL : Hid (∀ w', MkW w w' p lk most next bn bc ps nc fc n1 f b d lb ks m o → w'.cell? ⟨p, 6, none⟩ = some (Value.map (some bc)) ∧ w'.cell? ⟨w.heap.size + 1, 0, none⟩ = some (Value.int .u64 o.path) ∧ w'.cell? ⟨w.heap.size + 1, 1, none⟩ = some (Value.string o.is.name)) := fun w' h => ⟨h.cells.s6, h.cells.a0, h.cells.a1⟩
  obtain ⟨tv, htv⟩ : ∃ tv, tv = (fc (o.path, o.is.name)).getD (.int .u64 0) := ⟨_, rfl⟩
  have hL : (Instr.lookup 84 (.map (some bc)) (.agg #[.int .u64 o.path, .string o.is.name]) true).run Try.prog w1.drew = .ok (.tuple #[tv, .bool tk]) w1.drew := by
    have h := W1.out.drew.mc.look Try.underlying84 (zero_u64 _) (x := (o.path, o.is.name)) ⟨hx, hs⟩ true
    rw [if_pos rfl, ← htv, htk] at h
    exact h
  clear htv
  go_region_held3 (fun w' => w'.cell? ⟨p, 6, none⟩ = some (Value.map (some bc)) ∧ w'.cell? ⟨w.heap.size + 1, 0, none⟩ = some (Value.int .u64 o.path) ∧ w'.cell? ⟨w.heap.size + 1, 1, none⟩ = some (Value.string o.is.name)) (first | exact SL.out _ W1.out.drew) (first | fail)
  rename_i hh
  clear hh
  have W2 := Lib.hid W1.out.drew
  clear W1 SL hL
  obtain ⟨w2, hw2⟩ : ∃ w2, w2 = w1.drew := ⟨_, rfl⟩
  rw [← hw2] at W2 ⊢
  clear hw2
  obtain ⟨o0, o1, o2, o3, o4, o5, o6, o7, o8, o9, o10, o11, o12, o13, o14, o15, o16, o17, o18, o19, a0, a1, s2, s4, s6⟩ := W2.out.cells
  go_wp2_with (first | (go_at_call 66; refine (ISD.out _ W2.out.nd).mono ?_; rintro e w3 ⟨rfl, rfl⟩) | (go_at_call 67; refine (MAY.out _).mono ?_; rintro e w4 ⟨rfl, k4⟩; have W4 := Lib.hid (W2.out.kept k4); obtain ⟨o0, o1, o2, o3, o4, o5, o6, o7, o8, o9, o10, o11, o12, o13, o14, o15, o16, o17, o18, o19, a0, a1, s2, s4, s6⟩ := W4.out.cells) | (go_at_call 68; refine (CHK.out _).mono ?_; rintro e w5 ⟨rfl, k5⟩; have W5 := Lib.hid (W4.out.kept k5); obtain ⟨o0, o1, o2, o3, o4, o5, o6, o7, o8, o9, o10, o11, o12, o13, o14, o15, o16, o17, o18, o19, a0, a1, s2, s4, s6⟩ := W5.out.cells))
  go_ret2
  exact ⟨rfl, W2.out.k⟩
set_option maxRecDepth 100000 in
set_option maxHeartbeats 8000000 in
theorem make_1 (w : World) (p : Nat) (lk : Int) (most next bn bc : Nat) (ps : Value) (nc : Nat) (fc : Nat × ByteArray → Option Value) (n1 : Nat) (f : Nat → Option Value) (b : Nat) (d : Is) (lb : Int) (ks : Value) (m : Nat) (o : OpV)
    (hp : StAt w p lk most next bn ps bc) (hc : Mp pK w bc nc fc) (hmn : Mp nK w bn n1 f) (hn : NdAt w b d lb ks m) (hx : o.path < 18446744073709551616) (hs : o.is.name.size ≤ maxLen) (hz : o.is.name.size ≤ 140737488355328) (u1 : o.is.uid.size ≤ 140737488355328) (u2 : o.is.gid.size ≤ 140737488355328) (u3 : o.is.muid.size ≤ 140737488355328) (tk : Bool) (hd : isDirM d.mode = true) (hok : newOk o.is = false) (htk : (fc (o.path, o.is.name)).isSome = tk) :
    Calls Try.prog 43 #[.pointer (some ⟨p, 0, none⟩), .pointer (some ⟨b, 0, none⟩), .agg (opL o).toArray] w fun e w' => e = .returned (.tuple #[.int .u64 0, .int .i64 1]) ∧ Kept [] w w' := by
  have ISD := Lib.hid (fun W h => isDir_any W b d lb ks m h)
  have MAY := Lib.hid (fun W => maySet15_any W o.is o.ik u1 u2 u3)
  have CHK := Lib.hid (fun W => Nm.check_any W o.is.name hz)
  simp only [hd] at ISD
  simp only [hok] at MAY
  simp only [isL] at MAY
  unfold opL
  obtain ⟨-, c2, c3, c4, c5, c6⟩ := StAt.cells hp
  go_enter Try.func43, Try.ntmps43
  go_wp2_with fail
  obtain ⟨w1, hw1⟩ : ∃ w1, w1 = (w.alloc (.cells #[.int .u8 o.kind, .int .u64 o.path, .string o.name, .int .u8 o.mask, .int .u64 o.is.path, .int .u64 o.is.parent, .string o.is.name, .int .u32 o.is.mode, .string o.is.uid, .string o.is.gid, .string o.is.muid, .int .u32 o.is.atime, .int .u32 o.is.mtime, .int .u32 o.is.vers, .int .u64 o.is.length, .int .i64 o.is.opens, .int .i64 o.ik, .int .u64 o.offset, o.data, .int .i64 o.n] 55)).alloc (.cells #[.int .u64 o.path, .string o.is.name] 123) := ⟨_, rfl⟩
  have W1 : Hid (MkW w w1 p lk most next bn bc ps nc fc n1 f b d lb ks m o) := by
    rw [hw1]
    exact ⟨Bx.alloc (Bx.made w _ _) _, alloc_new _ _ _ (by simp), (Bx.alloc hp _).alloc _, (Bx.alloc hn _).alloc _, (hc.alloc _).alloc _, (hmn.alloc _).alloc _, ((Kept.refl [] w).alloc _).alloc _⟩
  rw [← hw1]
  clear hw1 c2 c3 c4 c5 c6
  have SL : Hid (∀ w', MkW w w' p lk most next bn bc ps nc fc n1 f b d lb ks m o → w'.cell? ⟨p, 6, none⟩ = some (Value.map (some bc)) ∧ w'.cell? ⟨w.heap.size + 1, 0, none⟩ = some (Value.int .u64 o.path) ∧ w'.cell? ⟨w.heap.size + 1, 1, none⟩ = some (Value.string o.is.name)) := fun w' h => ⟨h.cells.s6, h.cells.a0, h.cells.a1⟩
  obtain ⟨tv, htv⟩ : ∃ tv, tv = (fc (o.path, o.is.name)).getD (.int .u64 0) := ⟨_, rfl⟩
  have hL : (Instr.lookup 84 (.map (some bc)) (.agg #[.int .u64 o.path, .string o.is.name]) true).run Try.prog w1.drew = .ok (.tuple #[tv, .bool tk]) w1.drew := by
    have h := W1.out.drew.mc.look Try.underlying84 (zero_u64 _) (x := (o.path, o.is.name)) ⟨hx, hs⟩ true
    rw [if_pos rfl, ← htv, htk] at h
    exact h
  clear htv
  go_region_held3 (fun w' => w'.cell? ⟨p, 6, none⟩ = some (Value.map (some bc)) ∧ w'.cell? ⟨w.heap.size + 1, 0, none⟩ = some (Value.int .u64 o.path) ∧ w'.cell? ⟨w.heap.size + 1, 1, none⟩ = some (Value.string o.is.name)) (first | exact SL.out _ W1.out.drew) (first | fail)
  rename_i hh
  clear hh
  have W2 := Lib.hid W1.out.drew
  clear W1 SL hL
  obtain ⟨w2, hw2⟩ : ∃ w2, w2 = w1.drew := ⟨_, rfl⟩
  rw [← hw2] at W2 ⊢
  clear hw2
  obtain ⟨o0, o1, o2, o3, o4, o5, o6, o7, o8, o9, o10, o11, o12, o13, o14, o15, o16, o17, o18, o19, a0, a1, s2, s4, s6⟩ := W2.out.cells
  go_wp2_with (first | (go_at_call 66; refine (ISD.out _ W2.out.nd).mono ?_; rintro e w3 ⟨rfl, rfl⟩) | (go_at_call 67; refine (MAY.out _).mono ?_; rintro e w4 ⟨rfl, k4⟩; have W4 := Lib.hid (W2.out.kept k4); obtain ⟨o0, o1, o2, o3, o4, o5, o6, o7, o8, o9, o10, o11, o12, o13, o14, o15, o16, o17, o18, o19, a0, a1, s2, s4, s6⟩ := W4.out.cells) | (go_at_call 68; refine (CHK.out _).mono ?_; rintro e w5 ⟨rfl, k5⟩; have W5 := Lib.hid (W4.out.kept k5); obtain ⟨o0, o1, o2, o3, o4, o5, o6, o7, o8, o9, o10, o11, o12, o13, o14, o15, o16, o17, o18, o19, a0, a1, s2, s4, s6⟩ := W5.out.cells))
  go_ret2
  exact ⟨rfl, W4.out.k⟩
set_option maxRecDepth 100000 in
set_option maxHeartbeats 8000000 in
theorem make_50 (w : World) (p : Nat) (lk : Int) (most next bn bc : Nat) (ps : Value) (nc : Nat) (fc : Nat × ByteArray → Option Value) (n1 : Nat) (f : Nat → Option Value) (b : Nat) (d : Is) (lb : Int) (ks : Value) (m : Nat) (o : OpV)
    (hp : StAt w p lk most next bn ps bc) (hc : Mp pK w bc nc fc) (hmn : Mp nK w bn n1 f) (hn : NdAt w b d lb ks m) (hx : o.path < 18446744073709551616) (hs : o.is.name.size ≤ maxLen) (hz : o.is.name.size ≤ 140737488355328) (u1 : o.is.uid.size ≤ 140737488355328) (u2 : o.is.gid.size ≤ 140737488355328) (u3 : o.is.muid.size ≤ 140737488355328) (tk : Bool) (hd : isDirM d.mode = true) (hok : newOk o.is = true) (hch : Nm.chk o.is.name = false) (htk : (fc (o.path, o.is.name)).isSome = tk) :
    Calls Try.prog 43 #[.pointer (some ⟨p, 0, none⟩), .pointer (some ⟨b, 0, none⟩), .agg (opL o).toArray] w fun e w' => e = .returned (.tuple #[.int .u64 0, .int .i64 50]) ∧ Kept [] w w' := by
  have ISD := Lib.hid (fun W h => isDir_any W b d lb ks m h)
  have MAY := Lib.hid (fun W => maySet15_any W o.is o.ik u1 u2 u3)
  have CHK := Lib.hid (fun W => Nm.check_any W o.is.name hz)
  simp only [hd] at ISD
  simp only [hok] at MAY
  simp only [hch] at CHK
  simp only [isL] at MAY
  unfold opL
  obtain ⟨-, c2, c3, c4, c5, c6⟩ := StAt.cells hp
  go_enter Try.func43, Try.ntmps43
  go_wp2_with fail
  obtain ⟨w1, hw1⟩ : ∃ w1, w1 = (w.alloc (.cells #[.int .u8 o.kind, .int .u64 o.path, .string o.name, .int .u8 o.mask, .int .u64 o.is.path, .int .u64 o.is.parent, .string o.is.name, .int .u32 o.is.mode, .string o.is.uid, .string o.is.gid, .string o.is.muid, .int .u32 o.is.atime, .int .u32 o.is.mtime, .int .u32 o.is.vers, .int .u64 o.is.length, .int .i64 o.is.opens, .int .i64 o.ik, .int .u64 o.offset, o.data, .int .i64 o.n] 55)).alloc (.cells #[.int .u64 o.path, .string o.is.name] 123) := ⟨_, rfl⟩
  have W1 : Hid (MkW w w1 p lk most next bn bc ps nc fc n1 f b d lb ks m o) := by
    rw [hw1]
    exact ⟨Bx.alloc (Bx.made w _ _) _, alloc_new _ _ _ (by simp), (Bx.alloc hp _).alloc _, (Bx.alloc hn _).alloc _, (hc.alloc _).alloc _, (hmn.alloc _).alloc _, ((Kept.refl [] w).alloc _).alloc _⟩
  rw [← hw1]
  clear hw1 c2 c3 c4 c5 c6
  have SL : Hid (∀ w', MkW w w' p lk most next bn bc ps nc fc n1 f b d lb ks m o → w'.cell? ⟨p, 6, none⟩ = some (Value.map (some bc)) ∧ w'.cell? ⟨w.heap.size + 1, 0, none⟩ = some (Value.int .u64 o.path) ∧ w'.cell? ⟨w.heap.size + 1, 1, none⟩ = some (Value.string o.is.name)) := fun w' h => ⟨h.cells.s6, h.cells.a0, h.cells.a1⟩
  obtain ⟨tv, htv⟩ : ∃ tv, tv = (fc (o.path, o.is.name)).getD (.int .u64 0) := ⟨_, rfl⟩
  have hL : (Instr.lookup 84 (.map (some bc)) (.agg #[.int .u64 o.path, .string o.is.name]) true).run Try.prog w1.drew = .ok (.tuple #[tv, .bool tk]) w1.drew := by
    have h := W1.out.drew.mc.look Try.underlying84 (zero_u64 _) (x := (o.path, o.is.name)) ⟨hx, hs⟩ true
    rw [if_pos rfl, ← htv, htk] at h
    exact h
  clear htv
  go_region_held3 (fun w' => w'.cell? ⟨p, 6, none⟩ = some (Value.map (some bc)) ∧ w'.cell? ⟨w.heap.size + 1, 0, none⟩ = some (Value.int .u64 o.path) ∧ w'.cell? ⟨w.heap.size + 1, 1, none⟩ = some (Value.string o.is.name)) (first | exact SL.out _ W1.out.drew) (first | fail)
  rename_i hh
  clear hh
  have W2 := Lib.hid W1.out.drew
  clear W1 SL hL
  obtain ⟨w2, hw2⟩ : ∃ w2, w2 = w1.drew := ⟨_, rfl⟩
  rw [← hw2] at W2 ⊢
  clear hw2
  obtain ⟨o0, o1, o2, o3, o4, o5, o6, o7, o8, o9, o10, o11, o12, o13, o14, o15, o16, o17, o18, o19, a0, a1, s2, s4, s6⟩ := W2.out.cells
  go_wp2_with (first | (go_at_call 66; refine (ISD.out _ W2.out.nd).mono ?_; rintro e w3 ⟨rfl, rfl⟩) | (go_at_call 67; refine (MAY.out _).mono ?_; rintro e w4 ⟨rfl, k4⟩; have W4 := Lib.hid (W2.out.kept k4); obtain ⟨o0, o1, o2, o3, o4, o5, o6, o7, o8, o9, o10, o11, o12, o13, o14, o15, o16, o17, o18, o19, a0, a1, s2, s4, s6⟩ := W4.out.cells) | (go_at_call 68; refine (CHK.out _).mono ?_; rintro e w5 ⟨rfl, k5⟩; have W5 := Lib.hid (W4.out.kept k5); obtain ⟨o0, o1, o2, o3, o4, o5, o6, o7, o8, o9, o10, o11, o12, o13, o14, o15, o16, o17, o18, o19, a0, a1, s2, s4, s6⟩ := W5.out.cells))
  go_ret2
  exact ⟨rfl, W5.out.k⟩
set_option maxRecDepth 100000 in
set_option maxHeartbeats 8000000 in
theorem make_82 (w : World) (p : Nat) (lk : Int) (most next bn bc : Nat) (ps : Value) (nc : Nat) (fc : Nat × ByteArray → Option Value) (n1 : Nat) (f : Nat → Option Value) (b : Nat) (d : Is) (lb : Int) (ks : Value) (m : Nat) (o : OpV)
    (hp : StAt w p lk most next bn ps bc) (hc : Mp pK w bc nc fc) (hmn : Mp nK w bn n1 f) (hn : NdAt w b d lb ks m) (hx : o.path < 18446744073709551616) (hs : o.is.name.size ≤ maxLen) (hz : o.is.name.size ≤ 140737488355328) (u1 : o.is.uid.size ≤ 140737488355328) (u2 : o.is.gid.size ≤ 140737488355328) (u3 : o.is.muid.size ≤ 140737488355328) (hd : isDirM d.mode = true) (hok : newOk o.is = true) (hch : Nm.chk o.is.name = true) (htk : (fc (o.path, o.is.name)).isSome = true) :
    Calls Try.prog 43 #[.pointer (some ⟨p, 0, none⟩), .pointer (some ⟨b, 0, none⟩), .agg (opL o).toArray] w fun e w' => e = .returned (.tuple #[.int .u64 0, .int .i64 82]) ∧ Kept [] w w' := by
  have ISD := Lib.hid (fun W h => isDir_any W b d lb ks m h)
  have MAY := Lib.hid (fun W => maySet15_any W o.is o.ik u1 u2 u3)
  have CHK := Lib.hid (fun W => Nm.check_any W o.is.name hz)
  simp only [hd] at ISD
  simp only [hok] at MAY
  simp only [hch] at CHK
  simp only [isL] at MAY
  unfold opL
  obtain ⟨-, c2, c3, c4, c5, c6⟩ := StAt.cells hp
  go_enter Try.func43, Try.ntmps43
  go_wp2_with fail
  obtain ⟨w1, hw1⟩ : ∃ w1, w1 = (w.alloc (.cells #[.int .u8 o.kind, .int .u64 o.path, .string o.name, .int .u8 o.mask, .int .u64 o.is.path, .int .u64 o.is.parent, .string o.is.name, .int .u32 o.is.mode, .string o.is.uid, .string o.is.gid, .string o.is.muid, .int .u32 o.is.atime, .int .u32 o.is.mtime, .int .u32 o.is.vers, .int .u64 o.is.length, .int .i64 o.is.opens, .int .i64 o.ik, .int .u64 o.offset, o.data, .int .i64 o.n] 55)).alloc (.cells #[.int .u64 o.path, .string o.is.name] 123) := ⟨_, rfl⟩
  have W1 : Hid (MkW w w1 p lk most next bn bc ps nc fc n1 f b d lb ks m o) := by
    rw [hw1]
    exact ⟨Bx.alloc (Bx.made w _ _) _, alloc_new _ _ _ (by simp), (Bx.alloc hp _).alloc _, (Bx.alloc hn _).alloc _, (hc.alloc _).alloc _, (hmn.alloc _).alloc _, ((Kept.refl [] w).alloc _).alloc _⟩
  rw [← hw1]
  clear hw1 c2 c3 c4 c5 c6
  have SL : Hid (∀ w', MkW w w' p lk most next bn bc ps nc fc n1 f b d lb ks m o → w'.cell? ⟨p, 6, none⟩ = some (Value.map (some bc)) ∧ w'.cell? ⟨w.heap.size + 1, 0, none⟩ = some (Value.int .u64 o.path) ∧ w'.cell? ⟨w.heap.size + 1, 1, none⟩ = some (Value.string o.is.name)) := fun w' h => ⟨h.cells.s6, h.cells.a0, h.cells.a1⟩
  obtain ⟨tv, htv⟩ : ∃ tv, tv = (fc (o.path, o.is.name)).getD (.int .u64 0) := ⟨_, rfl⟩
  have hL : (Instr.lookup 84 (.map (some bc)) (.agg #[.int .u64 o.path, .string o.is.name]) true).run Try.prog w1.drew = .ok (.tuple #[tv, .bool true]) w1.drew := by
    have h := W1.out.drew.mc.look Try.underlying84 (zero_u64 _) (x := (o.path, o.is.name)) ⟨hx, hs⟩ true
    rw [if_pos rfl, ← htv, htk] at h
    exact h
  clear htv
  go_region_held3 (fun w' => w'.cell? ⟨p, 6, none⟩ = some (Value.map (some bc)) ∧ w'.cell? ⟨w.heap.size + 1, 0, none⟩ = some (Value.int .u64 o.path) ∧ w'.cell? ⟨w.heap.size + 1, 1, none⟩ = some (Value.string o.is.name)) (first | exact SL.out _ W1.out.drew) (first | fail)
  rename_i hh
  clear hh
  have W2 := Lib.hid W1.out.drew
  clear W1 SL hL
  obtain ⟨w2, hw2⟩ : ∃ w2, w2 = w1.drew := ⟨_, rfl⟩
  rw [← hw2] at W2 ⊢
  clear hw2
  obtain ⟨o0, o1, o2, o3, o4, o5, o6, o7, o8, o9, o10, o11, o12, o13, o14, o15, o16, o17, o18, o19, a0, a1, s2, s4, s6⟩ := W2.out.cells
  go_wp2_with (first | (go_at_call 66; refine (ISD.out _ W2.out.nd).mono ?_; rintro e w3 ⟨rfl, rfl⟩) | (go_at_call 67; refine (MAY.out _).mono ?_; rintro e w4 ⟨rfl, k4⟩; have W4 := Lib.hid (W2.out.kept k4); obtain ⟨o0, o1, o2, o3, o4, o5, o6, o7, o8, o9, o10, o11, o12, o13, o14, o15, o16, o17, o18, o19, a0, a1, s2, s4, s6⟩ := W4.out.cells) | (go_at_call 68; refine (CHK.out _).mono ?_; rintro e w5 ⟨rfl, k5⟩; have W5 := Lib.hid (W4.out.kept k5); obtain ⟨o0, o1, o2, o3, o4, o5, o6, o7, o8, o9, o10, o11, o12, o13, o14, o15, o16, o17, o18, o19, a0, a1, s2, s4, s6⟩ := W5.out.cells))
  go_ret2
  exact ⟨rfl, W5.out.k⟩
end Nd
end Go.Proofs.Ytihkldcdikbinaa
