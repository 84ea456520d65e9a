/- rules: mayCreate, isRoot, modeIn, Step of whatever arguments. -/
import Derived.Test.YteeheapenfklcaaGreatDoorRop
import Derived.Test.YteeheapenfklcaaGreatDoorNkr
namespace Go.Proofs.YteeheapenfklcaaGreatDoor
set_option linter.unusedVariables false
open Go.RowKit Go.Shelf
attribute [local go_sem] Oper.semAt_some
namespace Ru
open Go.Proofs.YteeheapenfklcaaGreatDoor.Utf Go.Proofs.YteeheapenfklcaaGreatDoor.Txt Go.PlainAid Go.Proofs.YteeheapenfklcaaGreatDoor.Mpf Go.Proofs.YteeheapenfklcaaGreatDoor.Us

theorem isRoot_any (w : World) (d : Nd) : Calls Tryz.prog 119 #[.agg #[.int .u64 d.path, .int .u64 d.parent, .string d.name, .int .u32 d.mode, .string d.uid, .string d.gid, .string d.muid, .int .u32 d.atime, .int .u32 d.mtime, .int .u32 d.vers, .int .u64 d.length, .int .i64 d.opens, .int .i64 d.kids]] w fun e w' => e = .returned (.bool ((d.path : Int) == 1)) ∧ Kept [] w w' := by
  go_enter Tryz.func119, Tryz.ntmps119
  go_wp2_with fail
  go_ret
  exact ⟨rfl, (Kept.refl _ _).alloc _⟩
/-- The error of mayCreate. -/
def makeE (T : List Acc) (u : ByteArray) (n : Nd) (tk fl : Bool) (name : ByteArray) (pm mode : Int) : Int :=
  if dirV n = false then 93
  else if Nm.chk name = false then 50
  else if permE pm ≠ 0 ∨ wantsE mode ≠ 0 then 91
  else if bits .and .u32 pm 2147483648 ≠ 0 ∧ mode ≠ 0 then 92
  else if mayV T u n 2 = false then 90
  else if tk = true then 95 else if fl = true then 83 else 0
set_option maxHeartbeats 16000000 in
set_option maxRecDepth 100000 in
theorem mayCreate_any {w : World} {B q : Nat} {T : List Acc} (h : Tb w B q T) (u : ByteArray) (n p : Nd) (tk fl : Bool) (name : ByteArray) (pm mode : Int) (hu : u.size ≤ maxLen) (hg : n.gid.size ≤ maxLen) (hn : name.size ≤ 140737488355328) :
    Calls Tryz.prog 64 #[whoV q u, factsV n p tk fl, .string name, .int .u32 pm, .int .u8 mode] w fun e w' => e = .returned (.int .i64 (makeE T u n tk fl name pm mode)) ∧ Kept [] w w' := by
  obtain ⟨z, hz⟩ : ∃ z, z = makeE T u n tk fl name pm mode := ⟨_, rfl⟩
  rw [← hz]
  unfold makeE at hz
  obtain ⟨wv, hwv⟩ : ∃ x, x = wantsV mode := ⟨_, rfl⟩
  obtain ⟨we, hwe⟩ : ∃ x, x = wantsE mode := ⟨_, rfl⟩
  obtain ⟨dv, hdv⟩ : ∃ x, x = dirV n := ⟨_, rfl⟩
  obtain ⟨ck, hck⟩ : ∃ x, x = Nm.chk name := ⟨_, rfl⟩
  obtain ⟨ce, hce⟩ : ∃ x : Int, x = if ck = true then 0 else 50 := ⟨_, rfl⟩
  obtain ⟨pe, hpe⟩ : ∃ x, x = permE pm := ⟨_, rfl⟩
  obtain ⟨m2, hm2⟩ : ∃ x, x = mayV T u n 2 := ⟨_, rfl⟩
  obtain ⟨bd, hbd⟩ : ∃ x, bits .and .u32 pm 2147483648 = x := ⟨_, rfl⟩
  rw [← hwe, ← hdv, ← hck, ← hpe, ← hm2, hbd] at hz
  have hz2 : z = if dv = false then 93 else if ce ≠ 0 then 50 else if pe ≠ 0 ∨ we ≠ 0 then 91 else if bd ≠ 0 ∧ mode ≠ 0 then 92 else if m2 = false then 90 else if tk = true then 95 else if fl = true then 83 else 0 := by
    rw [hz, hce]
    cases ck <;> rfl
  have CC : Hid (∀ w', Calls Tryz.prog 97 #[.string name] w' fun e w'' => e = .returned (.int .i64 ce) ∧ Kept [] w' w'') := fun w' => by rw [hce, hck]; exact Nm.check_any w' name hn
  have WW : Hid (∀ w, Calls Tryz.prog 36 #[.int .u8 mode] w fun e w' => e = .returned (.tuple #[.int .u8 wv, .int .i64 we]) ∧ Kept [] w w') := fun w => by rw [hwv, hwe]; exact (Wants_any w mode).mono fun e w' h => ⟨h.1, by rw [← h.2]; exact Kept.refl _ _⟩
  have PP : Hid (∀ w, Calls Tryz.prog 98 #[.int .u32 pm] w fun e w' => e = .returned (.int .i64 pe) ∧ Kept [] w w') := fun w => by rw [hpe]; exact (Perm_any w pm).mono fun e w' h => ⟨h.1, by rw [← h.2]; exact Kept.refl _ _⟩
  have DD : Hid (∀ w', Calls Tryz.prog 42 #[.agg #[.int .u64 n.path, .int .u64 n.parent, .string n.name, .int .u32 n.mode, .string n.uid, .string n.gid, .string n.muid, .int .u32 n.atime, .int .u32 n.mtime, .int .u32 n.vers, .int .u64 n.length, .int .i64 n.opens, .int .i64 n.kids]] w' fun e w'' => e = .returned (.bool dv) ∧ Kept [] w' w'') := fun w' => by rw [hdv]; exact isDir_any w' n
  have MX : Hid (∀ w', Kept [] w w' → Calls Tryz.prog 68 #[.agg #[.pointer (some ⟨q, 0, none⟩), .string u], .agg #[.int .u64 n.path, .int .u64 n.parent, .string n.name, .int .u32 n.mode, .string n.uid, .string n.gid, .string n.muid, .int .u32 n.atime, .int .u32 n.mtime, .int .u32 n.vers, .int .u64 n.length, .int .i64 n.opens, .int .i64 n.kids]] w' fun e w'' => e = .returned (.bool m2) ∧ Kept [] w' w'') := fun w' k => by rw [hm2]; exact mayWrite_any (h.kept k) u n hu hg
  have HZ := Lib.hid hz2
  obtain ⟨w1, hw1⟩ : ∃ w1, w1 = (w.alloc (.cells #[.pointer (some ⟨q, 0, none⟩), .string u] 97)).alloc (.cells #[.int .u64 n.path, .int .u64 n.parent, .string n.name, .int .u32 n.mode, .string n.uid, .string n.gid, .string n.muid, .int .u32 n.atime, .int .u32 n.mtime, .int .u32 n.vers, .int .u64 n.length, .int .i64 n.opens, .int .i64 n.kids, .int .u64 p.path, .int .u64 p.parent, .string p.name, .int .u32 p.mode, .string p.uid, .string p.gid, .string p.muid, .int .u32 p.atime, .int .u32 p.mtime, .int .u32 p.vers, .int .u64 p.length, .int .i64 p.opens, .int .i64 p.kids, .bool tk, .bool fl] 48) := ⟨_, rfl⟩
  obtain ⟨R, hR⟩ : ∃ R, R = w.heap.size + 1 := ⟨_, rfl⟩
  obtain ⟨R9, hR9⟩ : ∃ R, R = w.heap.size := ⟨_, rfl⟩
  have F1 : Hid (Bf w1 R n p tk fl) := by
    rw [hw1, hR]
    have := (MapKept.heap_alloc (w.alloc (.cells #[.pointer (some ⟨q, 0, none⟩), .string u] 97)) (.cells #[.int .u64 n.path, .int .u64 n.parent, .string n.name, .int .u32 n.mode, .string n.uid, .string n.gid, .string n.muid, .int .u32 n.atime, .int .u32 n.mtime, .int .u32 n.vers, .int .u64 n.length, .int .i64 n.opens, .int .i64 n.kids, .int .u64 p.path, .int .u64 p.parent, .string p.name, .int .u32 p.mode, .string p.uid, .string p.gid, .string p.muid, .int .u32 p.atime, .int .u32 p.mtime, .int .u32 p.vers, .int .u64 p.length, .int .i64 p.opens, .int .i64 p.kids, .bool tk, .bool fl] 48)).1
    rwa [World.size_alloc] at this
  have W1 : Hid (Bwh w1 R9 q u) := by rw [hw1, hR9]; exact (Below.heap_alloc _ _ _ (by simp)).trans (MapKept.heap_alloc w _).1
  have K1 : Hid (Kept [] w w1) := by rw [hw1]; exact ((Kept.refl _ _).alloc _).alloc _
  have HW1 := Lib.hid hw1
  have HR := Lib.hid hR
  have HR9 := Lib.hid hR9
  unfold factsV whoV
  clear hz hz2 hwv hwe hdv hck hce hpe hm2 h hu hg hn hw1 hR hR9
  go_enter Tryz.func64, Tryz.ntmps64
  go_wp2_with fail
  rw [← HW1.out, ← HR.out, ← HR9.out]
  obtain ⟨c0, c1, c2, c3, c4, c5, c6, c7, c8, c9, c10, c11, c12, c13, c14, c15, c16, c17, c18, c19, c20, c21, c22, c23, c24, c25, c26, c27⟩ := F1.out.cells
  obtain ⟨d0, d1⟩ := W1.out.cells
  refine (WW.out w1).mono ?_
  rintro e w2 ⟨rfl, kw2⟩
  clear c0 c1 c2 c3 c4 c5 c6 c7 c8 c9 c10 c11 c12 c13 c14 c15 c16 c17 c18 c19 c20 c21 c22 c23 c24 c25 c26 c27 d0 d1
  have Kw2 : Hid (Kept [] w w2) := K1.out.trans kw2 (fun i hi => by cases hi)
  have Fw2 := Lib.hid (F1.out.kept kw2 (by simp))
  have Ww2 := Lib.hid (W1.out.kept kw2 (by simp))
  obtain ⟨c0, c1, c2, c3, c4, c5, c6, c7, c8, c9, c10, c11, c12, c13, c14, c15, c16, c17, c18, c19, c20, c21, c22, c23, c24, c25, c26, c27⟩ := Fw2.out.cells
  obtain ⟨d0, d1⟩ := Ww2.out.cells
  clear kw2
  go_wp2_with (first | (go_at_call 42; refine (DD.out _).mono ?_; rintro e w3 ⟨rfl, kw3⟩; clear c0 c1 c2 c3 c4 c5 c6 c7 c8 c9 c10 c11 c12 c13 c14 c15 c16 c17 c18 c19 c20 c21 c22 c23 c24 c25 c26 c27 d0 d1; have Kw3 : Hid (Kept [] w w3) := Kw2.out.trans kw3 (fun i hi => by cases hi); have Fw3 := Lib.hid (Fw2.out.kept kw3 (by simp)); have Ww3 := Lib.hid (Ww2.out.kept kw3 (by simp)); obtain ⟨c0, c1, c2, c3, c4, c5, c6, c7, c8, c9, c10, c11, c12, c13, c14, c15, c16, c17, c18, c19, c20, c21, c22, c23, c24, c25, c26, c27⟩ := Fw3.out.cells; obtain ⟨d0, d1⟩ := Ww3.out.cells; clear kw3) | (go_at_call 97; refine (CC.out _).mono ?_; rintro e w4 ⟨rfl, kw4⟩; clear c0 c1 c2 c3 c4 c5 c6 c7 c8 c9 c10 c11 c12 c13 c14 c15 c16 c17 c18 c19 c20 c21 c22 c23 c24 c25 c26 c27 d0 d1; have Kw4 : Hid (Kept [] w w4) := Kw3.out.trans kw4 (fun i hi => by cases hi); have Fw4 := Lib.hid (Fw3.out.kept kw4 (by simp)); have Ww4 := Lib.hid (Ww3.out.kept kw4 (by simp)); obtain ⟨c0, c1, c2, c3, c4, c5, c6, c7, c8, c9, c10, c11, c12, c13, c14, c15, c16, c17, c18, c19, c20, c21, c22, c23, c24, c25, c26, c27⟩ := Fw4.out.cells; obtain ⟨d0, d1⟩ := Ww4.out.cells; clear kw4) | (go_at_call 98; refine (PP.out _).mono ?_; rintro e w5 ⟨rfl, kw5⟩; clear c0 c1 c2 c3 c4 c5 c6 c7 c8 c9 c10 c11 c12 c13 c14 c15 c16 c17 c18 c19 c20 c21 c22 c23 c24 c25 c26 c27 d0 d1; have Kw5 : Hid (Kept [] w w5) := Kw4.out.trans kw5 (fun i hi => by cases hi); have Fw5 := Lib.hid (Fw4.out.kept kw5 (by simp)); have Ww5 := Lib.hid (Ww4.out.kept kw5 (by simp)); obtain ⟨c0, c1, c2, c3, c4, c5, c6, c7, c8, c9, c10, c11, c12, c13, c14, c15, c16, c17, c18, c19, c20, c21, c22, c23, c24, c25, c26, c27⟩ := Fw5.out.cells; obtain ⟨d0, d1⟩ := Ww5.out.cells; clear kw5) | (go_at_call 68; refine (MX.out _ Kw5.out).mono ?_; rintro e w6 ⟨rfl, kw6⟩; clear c0 c1 c2 c3 c4 c5 c6 c7 c8 c9 c10 c11 c12 c13 c14 c15 c16 c17 c18 c19 c20 c21 c22 c23 c24 c25 c26 c27 d0 d1; have Kw6 : Hid (Kept [] w w6) := Kw5.out.trans kw6 (fun i hi => by cases hi); have Fw6 := Lib.hid (Fw5.out.kept kw6 (by simp)); have Ww6 := Lib.hid (Ww5.out.kept kw6 (by simp)); obtain ⟨c0, c1, c2, c3, c4, c5, c6, c7, c8, c9, c10, c11, c12, c13, c14, c15, c16, c17, c18, c19, c20, c21, c22, c23, c24, c25, c26, c27⟩ := Fw6.out.cells; obtain ⟨d0, d1⟩ := Ww6.out.cells; clear kw6))
  all_goals
    go_ret
    refine ⟨?_, by first | exact Kw6.out | exact Kw5.out | exact Kw4.out | exact Kw3.out⟩
    have hz := HZ.out
    clear HZ CC WW PP DD MX F1 W1 HW1 HR HR9 K1 c0 c1 c2 c3 c4 c5 c6 c7 c8 c9 c10 c11 c12 c13 c14 c15 c16 c17 c18 c19 c20 c21 c22 c23 c24 c25 c26 c27 d0 d1
    simp_all
end Ru
end Go.Proofs.YteeheapenfklcaaGreatDoor
