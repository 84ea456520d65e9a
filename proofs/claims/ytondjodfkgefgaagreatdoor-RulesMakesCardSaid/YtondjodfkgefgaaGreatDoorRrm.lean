/- rules: Step, modeIn, Remove, Closes of whatever arguments. -/
import Derived.Test.YtondjodfkgefgaaGreatDoorRmc
import Derived.Deep.MidRow
import Derived.Test.YtondjodfkgefgaaGreatDoorRu5
namespace Go.Proofs.YtondjodfkgefgaaGreatDoor
set_option linter.unusedVariables false
open Go.RowKit Go.Shelf
attribute [local go_sem] Oper.semAt_some
namespace Ru
open Go.Proofs.YtondjodfkgefgaaGreatDoor.Utf Go.Proofs.YtondjodfkgefgaaGreatDoor.Txt Go.PlainAid Go.Proofs.YtondjodfkgefgaaGreatDoor.Mpf Go.Proofs.YtondjodfkgefgaaGreatDoor.Us

/-- What a directory leaves of a mode. -/
def modeInV (md pm : Int) : Int := bits .and .u32 pm (bits .or .u32 (bits .or .u32 4294966784 (if bits .and .u32 pm 2147483648 = 0 then 73 else 0)) md)
theorem modeIn_any (w : World) (d : Nd) (pm : Int) : Calls Tryz.prog 43 #[.agg #[.int .u64 d.path, .int .u64 d.parent, .string d.name, .int .u32 d.mode, .string d.uid, .string d.gid, .string d.muid, .int .u32 d.atime, .int .u32 d.mtime, .int .u32 d.vers, .int .u64 d.length, .int .i64 d.opens, .int .i64 d.kids], .int .u32 pm] w fun e w' => e = .returned (.int .u32 (modeInV d.mode pm)) ∧ Kept [] w w' := by
  unfold modeInV
  obtain ⟨b, hb⟩ : ∃ x, bits .and .u32 pm 2147483648 = x := ⟨_, rfl⟩
  rw [hb]
  by_cases h0 : b = 0
  · subst h0
    rw [if_pos rfl]
    go_enter Tryz.func43, Tryz.ntmps43
    go_wp2_with fail
    go_ret
    exact ⟨rfl, (Kept.refl _ _).alloc _⟩
  · have e1 : (b == 0) = false := by simpa using h0
    have e2 : (b != 0) = true := by simp [h0]
    rw [if_neg h0]
    clear h0
    go_enter Tryz.func43, Tryz.ntmps43
    go_wp2_with fail
    go_ret
    exact ⟨rfl, (Kept.refl _ _).alloc _⟩
/-- The error of Step. -/
def stepE (T : List Acc) (u : ByteArray) (d : Nd) : Int := if dirV d = false then 93 else if mayV T u d 1 = false then 90 else 0
set_option maxHeartbeats 8000000 in
set_option maxRecDepth 100000 in
theorem Step_any {w : World} {B q : Nat} {T : List Acc} (h : Tb w B q T) (u : ByteArray) (n : Nd) (hu : u.size ≤ maxLen) (hg : n.gid.size ≤ maxLen) :
    Calls Tryz.prog 14 #[.pointer (some ⟨q, 0, none⟩), .string u, .agg #[.int .u64 n.path, .int .u64 n.parent, .string n.name, .int .u32 n.mode, .string n.uid, .string n.gid, .string n.muid, .int .u32 n.atime, .int .u32 n.mtime, .int .u32 n.vers, .int .u64 n.length, .int .i64 n.opens, .int .i64 n.kids]] w fun e w' => e = .returned (.int .i64 (stepE T u n)) ∧ Kept [] w w' := by
  obtain ⟨z, hz⟩ : ∃ z, z = stepE T u n := ⟨_, rfl⟩
  rw [← hz]
  unfold stepE at hz
  obtain ⟨dv, hdv⟩ : ∃ x, x = dirV n := ⟨_, rfl⟩
  obtain ⟨m1, hm1⟩ : ∃ x, x = mayV T u n 1 := ⟨_, rfl⟩
  rw [← hdv, ← hm1] at hz
  have AS : Hid (∀ w, Calls Tryz.prog 33 #[.pointer (some ⟨q, 0, none⟩), .string u] w fun e w' => e = .returned (.agg #[.pointer (some ⟨q, 0, none⟩), .string u]) ∧ Kept [] w w') := fun w => asks_any w q u
  have DD : Hid (∀ w', Calls Tryz.prog 36 #[.agg #[.int .u64 n.path, .int .u64 n.parent, .string n.name, .int .u32 n.mode, .string n.uid, .string n.gid, .string n.muid, .int .u32 n.atime, .int .u32 n.mtime, .int .u32 n.vers, .int .u64 n.length, .int .i64 n.opens, .int .i64 n.kids]] w' fun e w'' => e = .returned (.bool dv) ∧ Kept [] w' w'') := fun w' => by rw [hdv]; exact isDir_any w' n
  have MM : Hid (∀ w', Kept [] w w' → Calls Tryz.prog 37 #[.agg #[.pointer (some ⟨q, 0, none⟩), .string u], .agg #[.int .u64 n.path, .int .u64 n.parent, .string n.name, .int .u32 n.mode, .string n.uid, .string n.gid, .string n.muid, .int .u32 n.atime, .int .u32 n.mtime, .int .u32 n.vers, .int .u64 n.length, .int .i64 n.opens, .int .i64 n.kids], .int .u8 1] w' fun e w'' => e = .returned (.bool m1) ∧ Kept [] w' w'') := fun w' k => by rw [hm1]; exact may_any (h.kept k) u n 1 hu hg
  have HZ := Lib.hid hz
  obtain ⟨w1, hw1⟩ : ∃ w1, w1 = w.alloc (.cells #[.int .u64 n.path, .int .u64 n.parent, .string n.name, .int .u32 n.mode, .string n.uid, .string n.gid, .string n.muid, .int .u32 n.atime, .int .u32 n.mtime, .int .u32 n.vers, .int .u64 n.length, .int .i64 n.opens, .int .i64 n.kids] 25) := ⟨_, rfl⟩
  obtain ⟨R, hR⟩ : ∃ R, R = w.heap.size := ⟨_, rfl⟩
  have b1 : w1.heap[R]? = some (.cells #[.int .u64 n.path, .int .u64 n.parent, .string n.name, .int .u32 n.mode, .string n.uid, .string n.gid, .string n.muid, .int .u32 n.atime, .int .u32 n.mtime, .int .u32 n.vers, .int .u64 n.length, .int .i64 n.opens, .int .i64 n.kids] 25 (0, 0)) := by rw [hw1, hR]; exact (MapKept.heap_alloc w _).1
  have K1 : Hid (Kept [] w w1) := by rw [hw1]; exact (Kept.refl _ _).alloc _
  have CE : Hid (∀ wr, Kept [] w1 wr → wr.cell? ⟨R, 0, none⟩ = some (Value.int .u64 n.path) ∧ wr.cell? ⟨R, 1, none⟩ = some (Value.int .u64 n.parent) ∧ wr.cell? ⟨R, 2, none⟩ = some (Value.string n.name) ∧ wr.cell? ⟨R, 3, none⟩ = some (Value.int .u32 n.mode) ∧ wr.cell? ⟨R, 4, none⟩ = some (Value.string n.uid) ∧ wr.cell? ⟨R, 5, none⟩ = some (Value.string n.gid) ∧ wr.cell? ⟨R, 6, none⟩ = some (Value.string n.muid) ∧ wr.cell? ⟨R, 7, none⟩ = some (Value.int .u32 n.atime) ∧ wr.cell? ⟨R, 8, none⟩ = some (Value.int .u32 n.mtime) ∧ wr.cell? ⟨R, 9, none⟩ = some (Value.int .u32 n.vers) ∧ wr.cell? ⟨R, 10, none⟩ = some (Value.int .u64 n.length) ∧ wr.cell? ⟨R, 11, none⟩ = some (Value.int .i64 n.opens) ∧ wr.cell? ⟨R, 12, none⟩ = some (Value.int .i64 n.kids)) := fun wr k => by
    have b := (k.block _ (block_lt b1) (by simp)).trans b1
    refine ⟨?_, ?_, ?_, ?_, ?_, ?_, ?_, ?_, ?_, ?_, ?_, ?_, ?_⟩ <;> (rw [cell_of_row wr R _ _ _ (0, 0) b]; rfl)
  have HW1 := Lib.hid hw1
  have HR := Lib.hid hR
  clear hz hdv hm1 h hu hg hw1 hR b1
  cases dv with
  | false =>
    go_enter Tryz.func14, Tryz.ntmps14
    go_wp2_with (go_at_call 36; rw [← HW1.out]; refine (DD.out _).mono ?_; rintro e w2 ⟨rfl, k2⟩)
    go_ret
    exact ⟨by rw [HZ.out]; rfl, K1.out.trans k2 (fun i hi => by cases hi)⟩
  | true =>
    go_enter Tryz.func14, Tryz.ntmps14
    go_wp2_with (go_at_call 36; rw [← HW1.out, ← HR.out]; refine (DD.out _).mono ?_; rintro e w2 ⟨rfl, k2⟩)
    have kd : Kept [] w1 w2.drew := k2.drew
    have KD := Lib.hid kd
    go_region_held3 (fun w' => w'.cell? ⟨R, 0, none⟩ = some (Value.int .u64 n.path) ∧ w'.cell? ⟨R, 1, none⟩ = some (Value.int .u64 n.parent) ∧ w'.cell? ⟨R, 2, none⟩ = some (Value.string n.name) ∧ w'.cell? ⟨R, 3, none⟩ = some (Value.int .u32 n.mode) ∧ w'.cell? ⟨R, 4, none⟩ = some (Value.string n.uid) ∧ w'.cell? ⟨R, 5, none⟩ = some (Value.string n.gid) ∧ w'.cell? ⟨R, 6, none⟩ = some (Value.string n.muid) ∧ w'.cell? ⟨R, 7, none⟩ = some (Value.int .u32 n.atime) ∧ w'.cell? ⟨R, 8, none⟩ = some (Value.int .u32 n.mtime) ∧ w'.cell? ⟨R, 9, none⟩ = some (Value.int .u32 n.vers) ∧ w'.cell? ⟨R, 10, none⟩ = some (Value.int .u64 n.length) ∧ w'.cell? ⟨R, 11, none⟩ = some (Value.int .i64 n.opens) ∧ w'.cell? ⟨R, 12, none⟩ = some (Value.int .i64 n.kids)) (first | exact CE.out _ KD.out | exact CE.out _ K3.out | exact CE.out _ K4.out) (first | (go_at_call 33; refine (AS.out _).mono ?_; rintro e w3 ⟨rfl, k3⟩; have K3 : Hid (Kept [] w1 w3) := KD.out.trans k3 (fun i hi => by cases hi)) | (go_at_call 37; refine (MM.out _ (K1.out.trans K3.out (fun i hi => by cases hi))).mono ?_; rintro e w4 ⟨rfl, k4⟩; have K4 : Hid (Kept [] w1 w4) := K3.out.trans k4 (fun i hi => by cases hi)))
    go_wp2_with fail
    all_goals
      go_ret
      refine ⟨?_, K1.out.trans K4.out (fun i hi => by cases hi)⟩
      have hz := HZ.out
      clear HZ AS DD MM CE HW1 HR
      simp_all
theorem size_node9 : (Tryz.prog.info? 25).map (·.size) = some 13 := by kernel_rfl
theorem wpAnyH_one {P : Program} {md : Region.Mode} {ops : Array Oper} {Q : Exit → Act → World → Prop} {S : World → Prop} {fuel : Nat} {listed : Array Bool} {a : Act} {w : World} {i : Nat} (hr : Region.ready md ops listed = [i])
    (h : wpOp P ops Q i (fun a' w' => S w' ∧ wpAnyH P md ops Q S fuel (listed.setIfInBounds i true) a' w') a w) : wpAnyH P md ops Q S (fuel + 1) listed a w :=
  wpAnyH_all hr (by simp) (by
    intro j hj
    obtain rfl : j = i := by simpa using hj
    exact h)
theorem any_skip {P : Program} {ops : Array Oper} {Q : Exit → Act → World → Prop} {K : Act → World → Prop} {a : Act} {w : World} {o : Oper} {i : Nat} (hi : ops[i]? = some o) (hw : Region.wanted o (yielded ops a.tmps) = false) (h : K (a.put o.dst undef) w) : wpOp P ops Q i K a w := by
  unfold wpOp
  rw [hi]
  simp only [hw]
  exact h
/-- The error of Remove. -/
def removeE (T : List Acc) (u : ByteArray) (n p : Nd) : Int := if ((n.path : Int) == 1) = true ∨ mayV T u p 2 = false then 90 else if dirV n = true ∧ 0 < n.kids then 96 else 0
set_option maxHeartbeats 8000000 in
set_option maxRecDepth 100000 in
theorem Remove_any {w : World} {B q : Nat} {T : List Acc} (h : Tb w B q T) (u : ByteArray) (n p : Nd) (tk fl : Bool) (hu : u.size ≤ maxLen) (hg2 : p.gid.size ≤ maxLen) :
    Calls Tryz.prog 20 #[.pointer (some ⟨q, 0, none⟩), .string u, factsV n p tk fl] w fun e w' => e = .returned (.int .i64 (removeE T u n p)) ∧ Kept [] w w' := by
  obtain ⟨z, hz⟩ : ∃ z, z = removeE T u n p := ⟨_, rfl⟩
  rw [← hz]
  unfold removeE at hz
  obtain ⟨dv, hdv⟩ : ∃ x, x = dirV n := ⟨_, rfl⟩
  obtain ⟨m2, hm2⟩ : ∃ x, x = mayV T u p 2 := ⟨_, rfl⟩
  obtain ⟨rt, hrt⟩ : ∃ x, x = ((n.path : Int) == 1) := ⟨_, rfl⟩
  rw [← hdv, ← hm2, ← hrt] at hz
  have AS : Hid (∀ w, Calls Tryz.prog 33 #[.pointer (some ⟨q, 0, none⟩), .string u] w fun e w' => e = .returned (.agg #[.pointer (some ⟨q, 0, none⟩), .string u]) ∧ Kept [] w w') := fun w => asks_any w q u
  have RR : Hid (∀ w', Calls Tryz.prog 41 #[.agg #[.int .u64 n.path, .int .u64 n.parent, .string n.name, .int .u32 n.mode, .string n.uid, .string n.gid, .string n.muid, .int .u32 n.atime, .int .u32 n.mtime, .int .u32 n.vers, .int .u64 n.length, .int .i64 n.opens, .int .i64 n.kids]] w' fun e w'' => e = .returned (.bool rt) ∧ Kept [] w' w'') := fun w' => by rw [hrt]; exact isRoot_any w' n
  have DD : Hid (∀ w', Calls Tryz.prog 36 #[.agg #[.int .u64 n.path, .int .u64 n.parent, .string n.name, .int .u32 n.mode, .string n.uid, .string n.gid, .string n.muid, .int .u32 n.atime, .int .u32 n.mtime, .int .u32 n.vers, .int .u64 n.length, .int .i64 n.opens, .int .i64 n.kids]] w' fun e w'' => e = .returned (.bool dv) ∧ Kept [] w' w'') := fun w' => by rw [hdv]; exact isDir_any w' n
  have MX : Hid (∀ w', Kept [] w w' → Calls Tryz.prog 39 #[.agg #[.pointer (some ⟨q, 0, none⟩), .string u], .agg #[.int .u64 p.path, .int .u64 p.parent, .string p.name, .int .u32 p.mode, .string p.uid, .string p.gid, .string p.muid, .int .u32 p.atime, .int .u32 p.mtime, .int .u32 p.vers, .int .u64 p.length, .int .i64 p.opens, .int .i64 p.kids]] w' fun e w'' => e = .returned (.bool m2) ∧ Kept [] w' w'') := fun w' k => by rw [hm2]; exact mayWrite_any (h.kept k) u p hu hg2
  have HZ := Lib.hid hz
  obtain ⟨w1, hw1⟩ : ∃ w1, w1 = w.alloc (.cells #[.int .u64 n.path, .int .u64 n.parent, .string n.name, .int .u32 n.mode, .string n.uid, .string n.gid, .string n.muid, .int .u32 n.atime, .int .u32 n.mtime, .int .u32 n.vers, .int .u64 n.length, .int .i64 n.opens, .int .i64 n.kids, .int .u64 p.path, .int .u64 p.parent, .string p.name, .int .u32 p.mode, .string p.uid, .string p.gid, .string p.muid, .int .u32 p.atime, .int .u32 p.mtime, .int .u32 p.vers, .int .u64 p.length, .int .i64 p.opens, .int .i64 p.kids, .bool tk, .bool fl] 28) := ⟨_, rfl⟩
  obtain ⟨R, hR⟩ : ∃ R, R = w.heap.size := ⟨_, rfl⟩
  have B1 : Hid (Bf w1 R n p tk fl) := by rw [hw1, hR]; exact (MapKept.heap_alloc w _).1
  have K1 : Hid (Kept [] w w1) := by rw [hw1]; exact (Kept.refl _ _).alloc _
  have CF : Hid (∀ wr, Kept [] w1 wr → Bf wr R n p tk fl) := fun wr k => B1.out.kept k (by simp)
  have CN : Hid (∀ wr, Bf wr R n p tk fl → wr.cell? ⟨R, 0, none⟩ = some (Value.int .u64 n.path) ∧ wr.cell? ⟨R, 1, none⟩ = some (Value.int .u64 n.parent) ∧ wr.cell? ⟨R, 2, none⟩ = some (Value.string n.name) ∧ wr.cell? ⟨R, 3, none⟩ = some (Value.int .u32 n.mode) ∧ wr.cell? ⟨R, 4, none⟩ = some (Value.string n.uid) ∧ wr.cell? ⟨R, 5, none⟩ = some (Value.string n.gid) ∧ wr.cell? ⟨R, 6, none⟩ = some (Value.string n.muid) ∧ wr.cell? ⟨R, 7, none⟩ = some (Value.int .u32 n.atime) ∧ wr.cell? ⟨R, 8, none⟩ = some (Value.int .u32 n.mtime) ∧ wr.cell? ⟨R, 9, none⟩ = some (Value.int .u32 n.vers) ∧ wr.cell? ⟨R, 10, none⟩ = some (Value.int .u64 n.length) ∧ wr.cell? ⟨R, 11, none⟩ = some (Value.int .i64 n.opens) ∧ wr.cell? ⟨R, 12, none⟩ = some (Value.int .i64 n.kids)) := fun wr b => by
    refine ⟨?_, ?_, ?_, ?_, ?_, ?_, ?_, ?_, ?_, ?_, ?_, ?_, ?_⟩ <;> (rw [cell_of_row wr R _ _ _ (0, 0) b]; rfl)
  have RN : Hid (∀ wr, Bf wr R n p tk fl → wr.rangeAt R 0 [.int .u64 n.path, .int .u64 n.parent, .string n.name, .int .u32 n.mode, .string n.uid, .string n.gid, .string n.muid, .int .u32 n.atime, .int .u32 n.mtime, .int .u32 n.vers, .int .u64 n.length, .int .i64 n.opens, .int .i64 n.kids]) := fun wr b j v hj => by
    rw [Nat.zero_add, cell_of_row wr R j _ _ (0, 0) b]
    have : j < 13 := by
      have := (List.getElem?_eq_some_iff.1 hj).1
      simpa using this
    rcases (by omega : j = 0 ∨ j = 1 ∨ j = 2 ∨ j = 3 ∨ j = 4 ∨ j = 5 ∨ j = 6 ∨ j = 7 ∨ j = 8 ∨ j = 9 ∨ j = 10 ∨ j = 11 ∨ j = 12) with rfl | rfl | rfl | rfl | rfl | rfl | rfl | rfl | rfl | rfl | rfl | rfl | rfl <;> exact hj
  have CQ : Hid (∀ wr, Bf wr R n p tk fl → wr.cell? ⟨R, 0, none⟩ = some (Value.int .u64 n.path) ∧ wr.cell? ⟨R, 1, none⟩ = some (Value.int .u64 n.parent) ∧ wr.cell? ⟨R, 2, none⟩ = some (Value.string n.name) ∧ wr.cell? ⟨R, 3, none⟩ = some (Value.int .u32 n.mode) ∧ wr.cell? ⟨R, 4, none⟩ = some (Value.string n.uid) ∧ wr.cell? ⟨R, 5, none⟩ = some (Value.string n.gid) ∧ wr.cell? ⟨R, 6, none⟩ = some (Value.string n.muid) ∧ wr.cell? ⟨R, 7, none⟩ = some (Value.int .u32 n.atime) ∧ wr.cell? ⟨R, 8, none⟩ = some (Value.int .u32 n.mtime) ∧ wr.cell? ⟨R, 9, none⟩ = some (Value.int .u32 n.vers) ∧ wr.cell? ⟨R, 10, none⟩ = some (Value.int .u64 n.length) ∧ wr.cell? ⟨R, 11, none⟩ = some (Value.int .i64 n.opens) ∧ wr.cell? ⟨R, 12, none⟩ = some (Value.int .i64 n.kids) ∧ wr.cell? ⟨R, 13, none⟩ = some (Value.int .u64 p.path) ∧ wr.cell? ⟨R, 14, none⟩ = some (Value.int .u64 p.parent) ∧ wr.cell? ⟨R, 15, none⟩ = some (Value.string p.name) ∧ wr.cell? ⟨R, 16, none⟩ = some (Value.int .u32 p.mode) ∧ wr.cell? ⟨R, 17, none⟩ = some (Value.string p.uid) ∧ wr.cell? ⟨R, 18, none⟩ = some (Value.string p.gid) ∧ wr.cell? ⟨R, 19, none⟩ = some (Value.string p.muid) ∧ wr.cell? ⟨R, 20, none⟩ = some (Value.int .u32 p.atime) ∧ wr.cell? ⟨R, 21, none⟩ = some (Value.int .u32 p.mtime) ∧ wr.cell? ⟨R, 22, none⟩ = some (Value.int .u32 p.vers) ∧ wr.cell? ⟨R, 23, none⟩ = some (Value.int .u64 p.length) ∧ wr.cell? ⟨R, 24, none⟩ = some (Value.int .i64 p.opens) ∧ wr.cell? ⟨R, 25, none⟩ = some (Value.int .i64 p.kids)) := fun wr b => by
    refine ⟨?_, ?_, ?_, ?_, ?_, ?_, ?_, ?_, ?_, ?_, ?_, ?_, ?_, ?_, ?_, ?_, ?_, ?_, ?_, ?_, ?_, ?_, ?_, ?_, ?_, ?_⟩ <;> (rw [cell_of_row wr R _ _ _ (0, 0) b]; rfl)
  have HW1 := Lib.hid hw1
  have HR := Lib.hid hR
  unfold factsV
  have KD : Hid (Kept [] w1 w1.drew) := (Kept.refl [] w1).drew
  clear hz hdv hm2 hrt h hu hg2 hw1 hR
  cases rt with
  | true =>
    go_enter Tryz.func20, Tryz.ntmps20
    go_wp2_with fail
    rw [← HW1.out, ← HR.out]
    have hb1 : Bf w1.drew R n p tk fl := CF.out _ KD.out
    refine wp_region_held (S := fun w' => Bf w' R n p tk fl) (by kernel_rfl) ?_
    try (change wpAnyH _ _ _ _ _ _ _ _ (World.drew _))
    refine wpAnyH_take (i := 0) (v := .pointer (some ⟨R, 0, none⟩)) rfl (by kernel_rfl) (by kernel_rfl) (by kernel_rfl) (fun _ _ _ h => h) (Or.inl ⟨by rfl, fun w _ => by simp [execOp, go_sem]⟩) hb1 ?_
    refine wpAnyH_take (i := 1) (v := .agg #[.int .u64 n.path, .int .u64 n.parent, .string n.name, .int .u32 n.mode, .string n.uid, .string n.gid, .string n.muid, .int .u32 n.atime, .int .u32 n.mtime, .int .u32 n.vers, .int .u64 n.length, .int .i64 n.opens, .int .i64 n.kids]) rfl (by kernel_rfl) (by kernel_rfl) (by kernel_rfl) (fun _ _ _ h => h) (yieldsIf_load_mid (by rfl) 25 (.tmp 8) rfl R 0 (by simp [go_sem]) [.int .u64 n.path, .int .u64 n.parent, .string n.name, .int .u32 n.mode, .string n.uid, .string n.gid, .string n.muid, .int .u32 n.atime, .int .u32 n.mtime, .int .u32 n.vers, .int .u64 n.length, .int .i64 n.opens, .int .i64 n.kids] _ (fun w b => RN.out w b) Tryz.underlying25 rfl size_node9) hb1 ?_
    refine wpAnyH_one (i := 2) (by kernel_rfl) ?_
    refine any_callR rfl rfl 41 #[.agg #[.int .u64 n.path, .int .u64 n.parent, .string n.name, .int .u32 n.mode, .string n.uid, .string n.gid, .string n.muid, .int .u32 n.atime, .int .u32 n.mtime, .int .u32 n.vers, .int .u64 n.length, .int .i64 n.opens, .int .i64 n.kids]] (by simp [go_sem]) (RR.out _) ?_
    rintro e w3 ⟨rfl, k3⟩
    have K3 : Hid (Kept [] w1 w3) := KD.out.trans k3 (fun i hi => by cases hi)
    refine ⟨_, rfl, CF.out _ K3.out, ?_⟩
    have hb3 := CF.out _ K3.out
    refine wpAnyH_take (i := 3) (v := .bool true) rfl (by kernel_rfl) (by kernel_rfl) (by kernel_rfl) (fun _ _ _ h => h) (Or.inl ⟨by rfl, fun w _ => by simp [execOp, go_sem]⟩) hb3 ?_
    refine wpAnyH_take (i := 4) (v := undef) rfl (by kernel_rfl) (by kernel_rfl) (by kernel_rfl) (fun _ _ _ h => h) (Or.inr ⟨by rfl, rfl⟩) hb3 ?_
    refine wpAnyH_take (i := 5) (v := undef) rfl (by kernel_rfl) (by kernel_rfl) (by kernel_rfl) (fun _ _ _ h => h) (Or.inr ⟨by rfl, rfl⟩) hb3 ?_
    refine wpAnyH_take (i := 7) (v := undef) rfl (by kernel_rfl) (by kernel_rfl) (by kernel_rfl) (fun _ _ _ h => h) (Or.inr ⟨by rfl, rfl⟩) hb3 ?_
    refine wpAnyH_take (i := 8) (v := undef) rfl (by kernel_rfl) (by kernel_rfl) (by kernel_rfl) (fun _ _ _ h => h) (Or.inr ⟨by rfl, rfl⟩) hb3 ?_
    simp [go_sem]
    refine wpAnyH_one (i := 6) (by kernel_rfl) ?_
    refine YieldsIf.wpOp (S := fun w' => Bf w' R n p tk fl) (v := undef) rfl (Or.inr ⟨by rfl, rfl⟩) hb3 ?_
    refine ⟨hb3, ?_⟩
    simp [go_sem]
    refine wpAnyH_one (i := 9) (by kernel_rfl) ?_
    refine YieldsIf.wpOp (S := fun w' => Bf w' R n p tk fl) (v := undef) rfl (Or.inr ⟨by rfl, rfl⟩) hb3 ?_
    refine ⟨hb3, ?_⟩
    simp [go_sem]
    refine wpAnyH_take (i := 10) (v := undef) rfl (by kernel_rfl) (by kernel_rfl) (by kernel_rfl) (fun _ _ _ h => h) (Or.inr ⟨by rfl, rfl⟩) hb3 ?_
    refine wpAnyH_take (i := 11) (v := .bool true) rfl (by kernel_rfl) (by kernel_rfl) (by kernel_rfl) (fun _ _ _ h => h) (Or.inl ⟨by rfl, fun w _ => by simp [execOp, go_sem]⟩) hb3 ?_
    refine wpAnyH_take (i := 12) (v := .bool true) rfl (by kernel_rfl) (by kernel_rfl) (by kernel_rfl) (fun _ _ _ h => h) (Or.inl ⟨by rfl, fun w _ => by simp [execOp, go_sem]⟩) hb3 ?_
    refine wpAnyH_done (by kernel_rfl) ?_ _
    simp [go_sem]
    go_wp2_with fail
    go_ret
    exact ⟨by rw [HZ.out]; rfl, K1.out.trans K3.out (fun i hi => by cases hi)⟩
  | false =>
    go_enter Tryz.func20, Tryz.ntmps20
    go_wp2_with fail
    rw [← HW1.out, ← HR.out]
    go_region_held3 (fun w' => w'.cell? ⟨R, 0, none⟩ = some (Value.int .u64 n.path) ∧ w'.cell? ⟨R, 1, none⟩ = some (Value.int .u64 n.parent) ∧ w'.cell? ⟨R, 2, none⟩ = some (Value.string n.name) ∧ w'.cell? ⟨R, 3, none⟩ = some (Value.int .u32 n.mode) ∧ w'.cell? ⟨R, 4, none⟩ = some (Value.string n.uid) ∧ w'.cell? ⟨R, 5, none⟩ = some (Value.string n.gid) ∧ w'.cell? ⟨R, 6, none⟩ = some (Value.string n.muid) ∧ w'.cell? ⟨R, 7, none⟩ = some (Value.int .u32 n.atime) ∧ w'.cell? ⟨R, 8, none⟩ = some (Value.int .u32 n.mtime) ∧ w'.cell? ⟨R, 9, none⟩ = some (Value.int .u32 n.vers) ∧ w'.cell? ⟨R, 10, none⟩ = some (Value.int .u64 n.length) ∧ w'.cell? ⟨R, 11, none⟩ = some (Value.int .i64 n.opens) ∧ w'.cell? ⟨R, 12, none⟩ = some (Value.int .i64 n.kids) ∧ w'.cell? ⟨R, 13, none⟩ = some (Value.int .u64 p.path) ∧ w'.cell? ⟨R, 14, none⟩ = some (Value.int .u64 p.parent) ∧ w'.cell? ⟨R, 15, none⟩ = some (Value.string p.name) ∧ w'.cell? ⟨R, 16, none⟩ = some (Value.int .u32 p.mode) ∧ w'.cell? ⟨R, 17, none⟩ = some (Value.string p.uid) ∧ w'.cell? ⟨R, 18, none⟩ = some (Value.string p.gid) ∧ w'.cell? ⟨R, 19, none⟩ = some (Value.string p.muid) ∧ w'.cell? ⟨R, 20, none⟩ = some (Value.int .u32 p.atime) ∧ w'.cell? ⟨R, 21, none⟩ = some (Value.int .u32 p.mtime) ∧ w'.cell? ⟨R, 22, none⟩ = some (Value.int .u32 p.vers) ∧ w'.cell? ⟨R, 23, none⟩ = some (Value.int .u64 p.length) ∧ w'.cell? ⟨R, 24, none⟩ = some (Value.int .i64 p.opens) ∧ w'.cell? ⟨R, 25, none⟩ = some (Value.int .i64 p.kids)) (first | exact CQ.out _ (CF.out _ KD.out) | exact CQ.out _ (CF.out _ K3.out) | exact CQ.out _ (CF.out _ K4.out) | exact CQ.out _ (CF.out _ K5.out)) (first | (go_at_call 41; refine (RR.out _).mono ?_; rintro e w3 ⟨rfl, k3⟩; have K3 : Hid (Kept [] w1 w3) := KD.out.trans k3 (fun i hi => by cases hi)) | (go_at_call 33; refine (AS.out _).mono ?_; rintro e w4 ⟨rfl, k4⟩; have K4 : Hid (Kept [] w1 w4) := K3.out.trans k4 (fun i hi => by cases hi)) | (go_at_call 39; refine (MX.out _ (K1.out.trans K4.out (fun i hi => by cases hi))).mono ?_; rintro e w5 ⟨rfl, k5⟩; have K5 : Hid (Kept [] w1 w5) := K4.out.trans k5 (fun i hi => by cases hi)))
    obtain ⟨c0, c1, c2, c3, c4, c5, c6, c7, c8, c9, c10, c11, c12⟩ := CN.out _ (CF.out _ K5.out)
    go_wp2_with (first | (go_at_call 36; refine (DD.out _).mono ?_; rintro e w6 ⟨rfl, k6⟩; have K6 : Hid (Kept [] w1 w6) := K5.out.trans k6 (fun i hi => by cases hi); clear c0 c1 c2 c3 c4 c5 c6 c7 c8 c9 c10 c11 c12; obtain ⟨c0, c1, c2, c3, c4, c5, c6, c7, c8, c9, c10, c11, c12⟩ := CN.out _ (CF.out _ K6.out)))
    all_goals
      go_ret
      refine ⟨?_, by first | exact K1.out.trans K6.out (fun i hi => by cases hi) | exact K1.out.trans K5.out (fun i hi => by cases hi)⟩
      have hz := HZ.out
      clear HZ AS RR DD MX HW1 HR B1 CF CN CQ
      simp_all
end Ru
end Go.Proofs.YtondjodfkgefgaaGreatDoor
