/- rules: who asks, and what they may (asks, classes, rights, may, mayWrite). -/
import Derived.Test.YteeheapenfklcaaGreatDoorUtx
namespace Go.Proofs.YteeheapenfklcaaGreatDoor
set_option linter.unusedVariables false
open Go.RowKit Go.Shelf
attribute [local go_sem] Oper.semAt_some
namespace Ru
open Go.Proofs.YteeheapenfklcaaGreatDoor.Utf Go.Proofs.YteeheapenfklcaaGreatDoor.Txt Go.PlainAid Go.Proofs.YteeheapenfklcaaGreatDoor.Mpf Go.Proofs.YteeheapenfklcaaGreatDoor.Us

/-- A node's fields. -/
structure Nd where
  path : Nat
  parent : Nat
  name : ByteArray
  mode : Nat
  uid : ByteArray
  gid : ByteArray
  muid : ByteArray
  atime : Nat
  mtime : Nat
  vers : Nat
  length : Nat
  opens : Int
  kids : Int
def Nd.L (d : Nd) : List Value := [.int .u64 d.path, .int .u64 d.parent, .string d.name, .int .u32 d.mode, .string d.uid, .string d.gid, .string d.muid, .int .u32 d.atime, .int .u32 d.mtime, .int .u32 d.vers, .int .u64 d.length, .int .i64 d.opens, .int .i64 d.kids]
def Nd.V (d : Nd) : Value := .agg d.L.toArray
def whoV (p : Nat) (u : ByteArray) : Value := .agg #[.pointer (some ⟨p, 0, none⟩), .string u]

theorem member_t {w : World} {B p : Nat} {T : List Acc} (h : Tb w B p T) (u g : ByteArray) (hu : u.size ≤ maxLen) (hg : g.size ≤ maxLen) :
    Calls Tryz.prog 23 #[.pointer (some ⟨p, 0, none⟩), .string u, .string g] w fun e w' => e = .returned (.bool (member T u g)) ∧ Kept [] w w' := by
  obtain ⟨sl, m1, m2, n2, L, h, rfl⟩ := h
  exact member_x h u g hu hg
theorem asks_any (w : World) (p : Nat) (u : ByteArray) : Calls Tryz.prog 39 #[.pointer (some ⟨p, 0, none⟩), .string u] w fun e w' => e = .returned (whoV p u) ∧ Kept [] w w' := by
  unfold whoV
  go_enter Tryz.func39, Tryz.ntmps39
  go_wp2_with fail
  refine bodyPost_ret (v := .agg #[.pointer (some ⟨p, 0, none⟩), .string u]) (by simp [results, Tryz.results39, go_sem]) rfl ⟨rfl, (Kept.refl _ _).alloc _⟩
set_option maxHeartbeats 4000000 in
set_option maxRecDepth 100000 in
theorem classes_any {w : World} {B p : Nat} {T : List Acc} (h : Tb w B p T) (u : ByteArray) (d : Nd) (hu : u.size ≤ maxLen) (hg : d.gid.size ≤ maxLen) :
    Calls Tryz.prog 99 #[whoV p u, d.V] w fun e w' => ∃ G, e = .returned (.slice (some ⟨G, 0, none⟩) 3 3) ∧ w'.heap[G]? = some (.cells #[.int .i64 6, .bool (decide (u = d.uid)), .int .i64 3, .bool (member T u d.gid), .int .i64 0, .bool true] 160 (0, 0)) ∧ Kept [] w w' := by
  obtain ⟨path, parent, name, mode, uid, gid, muid, atime, mtime, vers, length, opens, kids⟩ := d
  simp only [Nd.V, Nd.L, whoV] at hg ⊢
  have ME : Hid (∀ w', Kept [] w w' → _) := fun w' k => member_t (h.kept k) u gid hu hg
  have BQ := beq_str u uid
  obtain ⟨q, hq⟩ : ∃ q, q = member T u gid := ⟨_, rfl⟩
  obtain ⟨y, hy⟩ : ∃ y, y = decide (u = uid) := ⟨_, rfl⟩
  rw [← hq] at ME ⊢
  rw [← hy] at BQ ⊢
  clear hq hy h
  go_enter Tryz.func99, Tryz.ntmps99
  go_wp2_with fail
  obtain ⟨w1, hw1⟩ : ∃ w1, w1 = ((w.alloc (.cells #[.pointer (some ⟨p, 0, none⟩), .string u] 97)).alloc (.cells #[.int .u64 path, .int .u64 parent, .string name, .int .u32 mode, .string uid, .string gid, .string muid, .int .u32 atime, .int .u32 mtime, .int .u32 vers, .int .u64 length, .int .i64 opens, .int .i64 kids] 46)) := ⟨_, rfl⟩
  obtain ⟨R2, hR2⟩ : ∃ R, R = w.heap.size + 1 := ⟨_, rfl⟩
  obtain ⟨R1, hR1⟩ : ∃ R, R = w.heap.size := ⟨_, rfl⟩
  have k1 : Kept [] w w1 := by rw [hw1]; exact ((Kept.refl _ _).alloc _).alloc _
  have b1 : w1.heap[R1]? = some (.cells #[.pointer (some ⟨p, 0, none⟩), .string u] 97 (0, 0)) := by
    rw [hw1, hR1]
    exact (Below.heap_alloc _ _ _ (by simp)).trans (MapKept.heap_alloc w _).1
  have b2 : w1.heap[R2]? = some (.cells #[.int .u64 path, .int .u64 parent, .string name, .int .u32 mode, .string uid, .string gid, .string muid, .int .u32 atime, .int .u32 mtime, .int .u32 vers, .int .u64 length, .int .i64 opens, .int .i64 kids] 46 (0, 0)) := by
    rw [hw1, hR2]
    have := (MapKept.heap_alloc (w.alloc (.cells #[.pointer (some ⟨p, 0, none⟩), .string u] 97)) (.cells #[.int .u64 path, .int .u64 parent, .string name, .int .u32 mode, .string uid, .string gid, .string muid, .int .u32 atime, .int .u32 mtime, .int .u32 vers, .int .u64 length, .int .i64 opens, .int .i64 kids] 46)).1
    rwa [World.size_alloc] at this
  rw [← hw1, ← hR2, ← hR1]
  have CELLS : Hid (∀ wr, Kept [] w1 wr → wr.cell? ⟨R1, 0, none⟩ = some (.pointer (some ⟨p, 0, none⟩)) ∧ wr.cell? ⟨R1, 1, none⟩ = some (.string u) ∧ wr.cell? ⟨R2, 4, none⟩ = some (.string uid) ∧ wr.cell? ⟨R2, 5, none⟩ = some (.string gid)) := fun wr k => by
    have x1 := (k.block _ (block_lt b1) (by simp)).trans b1
    have x2 := (k.block _ (block_lt b2) (by simp)).trans b2
    refine ⟨?_, ?_, ?_, ?_⟩
    · rw [cell_of_row wr R1 0 _ _ (0, 0) x1]; rfl
    · rw [cell_of_row wr R1 1 _ _ (0, 0) x1]; rfl
    · rw [cell_of_row wr R2 4 _ _ (0, 0) x2]; rfl
    · rw [cell_of_row wr R2 5 _ _ (0, 0) x2]; rfl
  have K1 := Lib.hid k1
  have kd : Kept [] w1 w1.drew := (Kept.refl [] w1).drew
  have MEd := Lib.hid (ME.out w1.drew (k1.trans kd (fun i hi => by cases hi)))
  obtain ⟨s0, s1, s2, s3⟩ := CELLS.out w1 (Kept.refl _ _)
  clear hw1 hR1 hR2 k1 b1 b2 ME
  go_region_held3 (fun w' => w'.cell? ⟨R1, 0, none⟩ = some (Value.pointer (some ⟨p, 0, none⟩)) ∧ w'.cell? ⟨R1, 1, none⟩ = some (Value.string u) ∧ w'.cell? ⟨R2, 4, none⟩ = some (Value.string uid) ∧ w'.cell? ⟨R2, 5, none⟩ = some (Value.string gid)) (first | exact CELLS.out _ kd | exact CELLS.out _ K4 | exact CELLS.out _ (K4.alloc _)) (first | (go_at_call 23; refine MEd.out.mono ?_; rintro e w4 ⟨rfl, k4⟩; have K4 : Kept [] w1 w4 := kd.trans k4 (fun i hi => by cases hi)))
  go_wp2_with fail
  go_ret
  exact ⟨w4.heap.size, rfl, (MapKept.heap_alloc w4 _).1, (K1.out.trans K4 (fun i hi => by cases hi)).alloc _⟩
/-- What of a mode's rights a class has. -/
def rOf (y q : Bool) (mode : Nat) : Int :=
  bits .or .u8 (if q = true then bits .or .u8 (if y = true then bits .or .u8 0 (bits .and .u32 ((mode : Int) / 64) 7 % 256) else 0) (bits .and .u32 ((mode : Int) / 8) 7 % 256) else (if y = true then bits .or .u8 0 (bits .and .u32 ((mode : Int) / 64) 7 % 256) else 0)) (bits .and .u32 (mode : Int) 7 % 256)
set_option maxHeartbeats 4000000 in
set_option maxRecDepth 100000 in
theorem rights_any {w : World} {B p : Nat} {T : List Acc} (h : Tb w B p T) (u : ByteArray) (d : Nd) (hu : u.size ≤ maxLen) (hg : d.gid.size ≤ maxLen) :
    Calls Tryz.prog 69 #[whoV p u, d.V] w fun e w' => e = .returned (.int .u8 (rOf (decide (u = d.uid)) (member T u d.gid) d.mode)) ∧ Kept [] w w' := by
  have CL := Lib.hid (fun w' k => classes_any (w := w') (h.kept k) u d hu hg)
  obtain ⟨path, parent, name, mode, uid, gid, muid, atime, mtime, vers, length, opens, kids⟩ := d
  simp only [Nd.V, Nd.L, whoV] at hg CL ⊢
  obtain ⟨q, hq⟩ : ∃ q, q = member T u gid := ⟨_, rfl⟩
  obtain ⟨y, hy⟩ : ∃ y, y = decide (u = uid) := ⟨_, rfl⟩
  rw [← hq, ← hy] at CL ⊢
  clear hq hy h
  have KA : Hid (Kept [] w ((w.alloc (.cells #[.pointer (some ⟨p, 0, none⟩), .string u] 97)).alloc (.cells #[.int .u64 path, .int .u64 parent, .string name, .int .u32 mode, .string uid, .string gid, .string muid, .int .u32 atime, .int .u32 mtime, .int .u32 vers, .int .u64 length, .int .i64 opens, .int .i64 kids] 46))) := ((Kept.refl _ _).alloc _).alloc _
  have CLA := Lib.hid (CL.out _ KA.out)
  clear CL
  go_enter Tryz.func69, Tryz.ntmps69
  go_wp2_with fail
  refine CLA.out.mono ?_
  rintro e w2 ⟨G, rfl, bG, k2⟩
  have b3 : w2.heap[w.heap.size + 1]? = some (.cells #[.int .u64 path, .int .u64 parent, .string name, .int .u32 mode, .string uid, .string gid, .string muid, .int .u32 atime, .int .u32 mtime, .int .u32 vers, .int .u64 length, .int .i64 opens, .int .i64 kids] 46 (0, 0)) := by
    refine (k2.block (w.heap.size + 1) (by simp) (by simp)).trans ?_
    have := (MapKept.heap_alloc (w.alloc (.cells #[.pointer (some ⟨p, 0, none⟩), .string u] 97)) (.cells #[.int .u64 path, .int .u64 parent, .string name, .int .u32 mode, .string uid, .string gid, .string muid, .int .u32 atime, .int .u32 mtime, .int .u32 vers, .int .u64 length, .int .i64 opens, .int .i64 kids] 46)).1
    rwa [World.size_alloc] at this
  obtain ⟨R2, hR2⟩ : ∃ R, R = w.heap.size + 1 := ⟨_, rfl⟩
  rw [← hR2] at b3 ⊢
  have K2 : Hid (Kept [] w w2) := KA.out.trans k2 (fun i hi => by cases hi)
  have CE : Hid (∀ wr, Kept [] w2 wr → wr.cell? ⟨R2, 3, none⟩ = some (.int .u32 mode) ∧ wr.cell? ⟨G, 0, none⟩ = some (.int .i64 6) ∧ wr.cell? ⟨G, 1, none⟩ = some (.bool y) ∧ wr.cell? ⟨G, 2, none⟩ = some (.int .i64 3) ∧ wr.cell? ⟨G, 3, none⟩ = some (.bool q) ∧ wr.cell? ⟨G, 4, none⟩ = some (.int .i64 0) ∧ wr.cell? ⟨G, 5, none⟩ = some (.bool true)) := fun wr k => by
    have x1 := (k.block _ (block_lt b3) (by simp)).trans b3
    have x2 := (k.block _ (block_lt bG) (by simp)).trans bG
    refine ⟨?_, ?_, ?_, ?_, ?_, ?_, ?_⟩
    · rw [cell_of_row wr R2 3 _ _ (0, 0) x1]; rfl
    · rw [cell_of_row wr G 0 _ _ (0, 0) x2]; rfl
    · rw [cell_of_row wr G 1 _ _ (0, 0) x2]; rfl
    · rw [cell_of_row wr G 2 _ _ (0, 0) x2]; rfl
    · rw [cell_of_row wr G 3 _ _ (0, 0) x2]; rfl
    · rw [cell_of_row wr G 4 _ _ (0, 0) x2]; rfl
    · rw [cell_of_row wr G 5 _ _ (0, 0) x2]; rfl
  have a1 : Hid (∀ wr (i : Int) (b : Bool), Kept [] w2 wr → Kept [] w2 (wr.alloc (.cells #[.int .i64 i, .bool b] 160))) := fun wr i b k => k.alloc _
  have e0 := CE.out w2 (Kept.refl _ _)
  have e1 := fun (b : Bool) => CE.out _ (a1.out w2 6 b (Kept.refl _ _))
  have e2 := fun (b c : Bool) => CE.out _ (a1.out _ 3 c (a1.out w2 6 b (Kept.refl _ _)))
  have e3 := fun (b c : Bool) => CE.out _ (a1.out _ 0 true (a1.out _ 3 c (a1.out w2 6 b (Kept.refl _ _))))
  have KF : Hid (∀ b c, Kept [] w (((w2.alloc (.cells #[.int .i64 6, .bool b] 160)).alloc (.cells #[.int .i64 3, .bool c] 160)).alloc (.cells #[.int .i64 0, .bool true] 160))) := fun b c => ((K2.out.alloc _).alloc _).alloc _
  clear hR2 b3 bG k2 CLA
  cases y <;> cases q
  · obtain ⟨m0, g0, g1, g2, g3, g4, g5⟩ := e0
    obtain ⟨m10, g10, g11, g12, g13, g14, g15⟩ := e1 false
    obtain ⟨m20, g20, g21, g22, g23, g24, g25⟩ := e2 false false
    obtain ⟨m30, g30, g31, g32, g33, g34, g35⟩ := e3 false false
    clear e1 e2 e3
    go_wp2_with fail
    refine wp_loop_rounds 4 ?_
    rw [rounds_succ]
    go_wp2_with fail
    rw [rounds_succ]
    go_wp2_with fail
    rw [rounds_succ]
    go_wp2_with fail
    rw [rounds_succ]
    go_wp2_with fail
    go_ret
    exact ⟨rfl, KF.out _ _⟩
  · obtain ⟨m0, g0, g1, g2, g3, g4, g5⟩ := e0
    obtain ⟨m10, g10, g11, g12, g13, g14, g15⟩ := e1 false
    obtain ⟨m20, g20, g21, g22, g23, g24, g25⟩ := e2 false true
    obtain ⟨m30, g30, g31, g32, g33, g34, g35⟩ := e3 false true
    clear e1 e2 e3
    go_wp2_with fail
    refine wp_loop_rounds 4 ?_
    rw [rounds_succ]
    go_wp2_with fail
    rw [rounds_succ]
    go_wp2_with fail
    rw [rounds_succ]
    go_wp2_with fail
    rw [rounds_succ]
    go_wp2_with fail
    go_ret
    exact ⟨rfl, KF.out _ _⟩
  · obtain ⟨m0, g0, g1, g2, g3, g4, g5⟩ := e0
    obtain ⟨m10, g10, g11, g12, g13, g14, g15⟩ := e1 true
    obtain ⟨m20, g20, g21, g22, g23, g24, g25⟩ := e2 true false
    obtain ⟨m30, g30, g31, g32, g33, g34, g35⟩ := e3 true false
    clear e1 e2 e3
    go_wp2_with fail
    refine wp_loop_rounds 4 ?_
    rw [rounds_succ]
    go_wp2_with fail
    rw [rounds_succ]
    go_wp2_with fail
    rw [rounds_succ]
    go_wp2_with fail
    rw [rounds_succ]
    go_wp2_with fail
    go_ret
    exact ⟨rfl, KF.out _ _⟩
  · obtain ⟨m0, g0, g1, g2, g3, g4, g5⟩ := e0
    obtain ⟨m10, g10, g11, g12, g13, g14, g15⟩ := e1 true
    obtain ⟨m20, g20, g21, g22, g23, g24, g25⟩ := e2 true true
    obtain ⟨m30, g30, g31, g32, g33, g34, g35⟩ := e3 true true
    clear e1 e2 e3
    go_wp2_with fail
    refine wp_loop_rounds 4 ?_
    rw [rounds_succ]
    go_wp2_with fail
    rw [rounds_succ]
    go_wp2_with fail
    rw [rounds_succ]
    go_wp2_with fail
    rw [rounds_succ]
    go_wp2_with fail
    go_ret
    exact ⟨rfl, KF.out _ _⟩
end Ru
end Go.Proofs.YteeheapenfklcaaGreatDoor
