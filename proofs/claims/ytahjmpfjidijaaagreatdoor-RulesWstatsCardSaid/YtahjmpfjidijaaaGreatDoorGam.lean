/- rules: Step, modeIn, Remove, Closes of whatever arguments. rules: Closes, Create of whatever arguments. rules: Create where nothing is made. -/
import Derived.Deep.MidRow
import Derived.Test.YtahjmpfjidijaaaGreatDoorGal
import Derived.Test.YtahjmpfjidijaaaGreatDoorHRu5
section
namespace Go.Proofs.YtahjmpfjidijaaaGreatDoor
set_option linter.unusedVariables false
open Go.RowKit Go.Shelf
attribute [local go_sem] Oper.semAt_some
namespace Ru
open Go.Proofs.YtahjmpfjidijaaaGreatDoor.Utf Go.Proofs.YtahjmpfjidijaaaGreatDoor.Txt Go.PlainAid Go.Proofs.YtahjmpfjidijaaaGreatDoor.Mpf Go.Proofs.YtahjmpfjidijaaaGreatDoor.Us

/-- What a directory leaves of a mode. -/
def modeInV (md pm : Int) : Int := bits .and .u32 pm (bits .or .u32 (bits .or .u32 4294966784 (if bits .and .u32 pm 2147483648 = 0 then 73 else 0)) md)
theorem modeIn_any (w : World) (d : Nd) (pm : Int) : Calls Tryz.prog 78 #[.agg #[.int .u64 d.path, .int .u64 d.parent, .string d.name, .int .u32 d.mode, .string d.uid, .string d.gid, .string d.muid, .int .u32 d.atime, .int .u32 d.mtime, .int .u32 d.vers, .int .u64 d.length, .int .i64 d.opens, .int .i64 d.kids], .int .u32 pm] w fun e w' => e = .returned (.int .u32 (modeInV d.mode pm)) ∧ Kept [] w w' := by
  unfold modeInV
  obtain ⟨b, hb⟩ : ∃ x, bits .and .u32 pm 2147483648 = x := ⟨_, rfl⟩
  rw [hb]
  by_cases h0 : b = 0
  · subst h0
    rw [if_pos rfl]
    go_enter Tryz.func78, Tryz.ntmps78
    go_wp2_with fail
    go_ret
    exact ⟨rfl, (Kept.refl _ _).alloc _⟩
  · have e1 : (b == 0) = false := by simpa using h0
    have e2 : (b != 0) = true := by simp [h0]
    rw [if_neg h0]
    clear h0
    go_enter Tryz.func78, Tryz.ntmps78
    go_wp2_with fail
    go_ret
    exact ⟨rfl, (Kept.refl _ _).alloc _⟩
/-- The error of Step. -/
def stepE (T : List Acc) (u : ByteArray) (d : Nd) : Int := if dirV d = false then 93 else if mayV T u d 1 = false then 90 else 0
set_option maxHeartbeats 8000000 in
set_option maxRecDepth 100000 in
theorem Step_any {w : World} {B q : Nat} {T : List Acc} (h : Tb w B q T) (u : ByteArray) (n : Nd) (hu : u.size ≤ maxLen) (hg : n.gid.size ≤ maxLen) :
    Calls Tryz.prog 29 #[.pointer (some ⟨q, 0, none⟩), .string u, .agg #[.int .u64 n.path, .int .u64 n.parent, .string n.name, .int .u32 n.mode, .string n.uid, .string n.gid, .string n.muid, .int .u32 n.atime, .int .u32 n.mtime, .int .u32 n.vers, .int .u64 n.length, .int .i64 n.opens, .int .i64 n.kids]] w fun e w' => e = .returned (.int .i64 (stepE T u n)) ∧ Kept [] w w' := by
  obtain ⟨z, hz⟩ : ∃ z, z = stepE T u n := ⟨_, rfl⟩
  rw [← hz]
  unfold stepE at hz
  obtain ⟨dv, hdv⟩ : ∃ x, x = dirV n := ⟨_, rfl⟩
  obtain ⟨m1, hm1⟩ : ∃ x, x = mayV T u n 1 := ⟨_, rfl⟩
  rw [← hdv, ← hm1] at hz
  have AS : Hid (∀ w, Calls Tryz.prog 67 #[.pointer (some ⟨q, 0, none⟩), .string u] w fun e w' => e = .returned (.agg #[.pointer (some ⟨q, 0, none⟩), .string u]) ∧ Kept [] w w') := fun w => asks_any w q u
  have DD : Hid (∀ w', Calls Tryz.prog 79 #[.agg #[.int .u64 n.path, .int .u64 n.parent, .string n.name, .int .u32 n.mode, .string n.uid, .string n.gid, .string n.muid, .int .u32 n.atime, .int .u32 n.mtime, .int .u32 n.vers, .int .u64 n.length, .int .i64 n.opens, .int .i64 n.kids]] w' fun e w'' => e = .returned (.bool dv) ∧ Kept [] w' w'') := fun w' => by rw [hdv]; exact isDir_any w' n
  have MM : Hid (∀ w', Kept [] w w' → Calls Tryz.prog 80 #[.agg #[.pointer (some ⟨q, 0, none⟩), .string u], .agg #[.int .u64 n.path, .int .u64 n.parent, .string n.name, .int .u32 n.mode, .string n.uid, .string n.gid, .string n.muid, .int .u32 n.atime, .int .u32 n.mtime, .int .u32 n.vers, .int .u64 n.length, .int .i64 n.opens, .int .i64 n.kids], .int .u8 1] w' fun e w'' => e = .returned (.bool m1) ∧ Kept [] w' w'') := fun w' k => by rw [hm1]; exact may_any (h.kept k) u n 1 hu hg
  have HZ := Lib.hid hz
  obtain ⟨w1, hw1⟩ : ∃ w1, w1 = w.alloc (.cells #[.int .u64 n.path, .int .u64 n.parent, .string n.name, .int .u32 n.mode, .string n.uid, .string n.gid, .string n.muid, .int .u32 n.atime, .int .u32 n.mtime, .int .u32 n.vers, .int .u64 n.length, .int .i64 n.opens, .int .i64 n.kids] 51) := ⟨_, rfl⟩
  obtain ⟨R, hR⟩ : ∃ R, R = w.heap.size := ⟨_, rfl⟩
  have b1 : w1.heap[R]? = some (.cells #[.int .u64 n.path, .int .u64 n.parent, .string n.name, .int .u32 n.mode, .string n.uid, .string n.gid, .string n.muid, .int .u32 n.atime, .int .u32 n.mtime, .int .u32 n.vers, .int .u64 n.length, .int .i64 n.opens, .int .i64 n.kids] 51 (0, 0)) := by rw [hw1, hR]; exact (MapKept.heap_alloc w _).1
  have K1 : Hid (Kept [] w w1) := by rw [hw1]; exact (Kept.refl _ _).alloc _
  have CE : Hid (∀ wr, Kept [] w1 wr → wr.cell? ⟨R, 0, none⟩ = some (Value.int .u64 n.path) ∧ wr.cell? ⟨R, 1, none⟩ = some (Value.int .u64 n.parent) ∧ wr.cell? ⟨R, 2, none⟩ = some (Value.string n.name) ∧ wr.cell? ⟨R, 3, none⟩ = some (Value.int .u32 n.mode) ∧ wr.cell? ⟨R, 4, none⟩ = some (Value.string n.uid) ∧ wr.cell? ⟨R, 5, none⟩ = some (Value.string n.gid) ∧ wr.cell? ⟨R, 6, none⟩ = some (Value.string n.muid) ∧ wr.cell? ⟨R, 7, none⟩ = some (Value.int .u32 n.atime) ∧ wr.cell? ⟨R, 8, none⟩ = some (Value.int .u32 n.mtime) ∧ wr.cell? ⟨R, 9, none⟩ = some (Value.int .u32 n.vers) ∧ wr.cell? ⟨R, 10, none⟩ = some (Value.int .u64 n.length) ∧ wr.cell? ⟨R, 11, none⟩ = some (Value.int .i64 n.opens) ∧ wr.cell? ⟨R, 12, none⟩ = some (Value.int .i64 n.kids)) := fun wr k => by
    have b := (k.block _ (block_lt b1) (by simp)).trans b1
    refine ⟨?_, ?_, ?_, ?_, ?_, ?_, ?_, ?_, ?_, ?_, ?_, ?_, ?_⟩ <;> (rw [cell_of_row wr R _ _ _ (0, 0) b]; rfl)
  have HW1 := Lib.hid hw1
  have HR := Lib.hid hR
  clear hz hdv hm1 h hu hg hw1 hR b1
  cases dv with
  | false =>
    go_enter Tryz.func29, Tryz.ntmps29
    go_wp2_with (go_at_call 79; rw [← HW1.out]; refine (DD.out _).mono ?_; rintro e w2 ⟨rfl, k2⟩)
    go_ret
    exact ⟨by rw [HZ.out]; rfl, K1.out.trans k2 (fun i hi => by cases hi)⟩
  | true =>
    go_enter Tryz.func29, Tryz.ntmps29
    go_wp2_with (go_at_call 79; rw [← HW1.out, ← HR.out]; refine (DD.out _).mono ?_; rintro e w2 ⟨rfl, k2⟩)
    have kd : Kept [] w1 w2.drew := k2.drew
    have KD := Lib.hid kd
    go_region_held3 (fun w' => w'.cell? ⟨R, 0, none⟩ = some (Value.int .u64 n.path) ∧ w'.cell? ⟨R, 1, none⟩ = some (Value.int .u64 n.parent) ∧ w'.cell? ⟨R, 2, none⟩ = some (Value.string n.name) ∧ w'.cell? ⟨R, 3, none⟩ = some (Value.int .u32 n.mode) ∧ w'.cell? ⟨R, 4, none⟩ = some (Value.string n.uid) ∧ w'.cell? ⟨R, 5, none⟩ = some (Value.string n.gid) ∧ w'.cell? ⟨R, 6, none⟩ = some (Value.string n.muid) ∧ w'.cell? ⟨R, 7, none⟩ = some (Value.int .u32 n.atime) ∧ w'.cell? ⟨R, 8, none⟩ = some (Value.int .u32 n.mtime) ∧ w'.cell? ⟨R, 9, none⟩ = some (Value.int .u32 n.vers) ∧ w'.cell? ⟨R, 10, none⟩ = some (Value.int .u64 n.length) ∧ w'.cell? ⟨R, 11, none⟩ = some (Value.int .i64 n.opens) ∧ w'.cell? ⟨R, 12, none⟩ = some (Value.int .i64 n.kids)) (first | exact CE.out _ KD.out | exact CE.out _ K3.out | exact CE.out _ K4.out) (first | (go_at_call 67; refine (AS.out _).mono ?_; rintro e w3 ⟨rfl, k3⟩; have K3 : Hid (Kept [] w1 w3) := KD.out.trans k3 (fun i hi => by cases hi)) | (go_at_call 80; refine (MM.out _ (K1.out.trans K3.out (fun i hi => by cases hi))).mono ?_; rintro e w4 ⟨rfl, k4⟩; have K4 : Hid (Kept [] w1 w4) := K3.out.trans k4 (fun i hi => by cases hi)))
    go_wp2_with fail
    all_goals
      go_ret
      refine ⟨?_, K1.out.trans K4.out (fun i hi => by cases hi)⟩
      have hz := HZ.out
      clear HZ AS DD MM CE HW1 HR
      simp_all
theorem size_node9 : (Tryz.prog.info? 51).map (·.size) = some 13 := by kernel_rfl
theorem wpAnyH_one {P : Program} {md : Region.Mode} {ops : Array Oper} {Q : Exit → Act → World → Prop} {S : World → Prop} {fuel : Nat} {listed : Array Bool} {a : Act} {w : World} {i : Nat} (hr : Region.ready md ops listed = [i])
    (h : wpOp P ops Q i (fun a' w' => S w' ∧ wpAnyH P md ops Q S fuel (listed.setIfInBounds i true) a' w') a w) : wpAnyH P md ops Q S (fuel + 1) listed a w :=
  wpAnyH_all hr (by simp) (by
    intro j hj
    obtain rfl : j = i := by simpa using hj
    exact h)
theorem any_skip {P : Program} {ops : Array Oper} {Q : Exit → Act → World → Prop} {K : Act → World → Prop} {a : Act} {w : World} {o : Oper} {i : Nat} (hi : ops[i]? = some o) (hw : Region.wanted o (yielded ops a.tmps) = false) (h : K (a.put o.dst undef) w) : wpOp P ops Q i K a w := by
  unfold wpOp
  rw [hi]
  simp only [hw]
  exact h
/-- The error of Remove. -/
def removeE (T : List Acc) (u : ByteArray) (n p : Nd) : Int := if ((n.path : Int) == 1) = true ∨ mayV T u p 2 = false then 90 else if dirV n = true ∧ 0 < n.kids then 96 else 0
set_option maxHeartbeats 8000000 in
set_option maxRecDepth 100000 in
theorem Remove_any {w : World} {B q : Nat} {T : List Acc} (h : Tb w B q T) (u : ByteArray) (n p : Nd) (tk fl : Bool) (hu : u.size ≤ maxLen) (hg2 : p.gid.size ≤ maxLen) :
    Calls Tryz.prog 28 #[.pointer (some ⟨q, 0, none⟩), .string u, factsV n p tk fl] w fun e w' => e = .returned (.int .i64 (removeE T u n p)) ∧ Kept [] w w' := by
  obtain ⟨z, hz⟩ : ∃ z, z = removeE T u n p := ⟨_, rfl⟩
  rw [← hz]
  unfold removeE at hz
  obtain ⟨dv, hdv⟩ : ∃ x, x = dirV n := ⟨_, rfl⟩
  obtain ⟨m2, hm2⟩ : ∃ x, x = mayV T u p 2 := ⟨_, rfl⟩
  obtain ⟨rt, hrt⟩ : ∃ x, x = ((n.path : Int) == 1) := ⟨_, rfl⟩
  rw [← hdv, ← hm2, ← hrt] at hz
  have AS : Hid (∀ w, Calls Tryz.prog 67 #[.pointer (some ⟨q, 0, none⟩), .string u] w fun e w' => e = .returned (.agg #[.pointer (some ⟨q, 0, none⟩), .string u]) ∧ Kept [] w w') := fun w => asks_any w q u
  have RR : Hid (∀ w', Calls Tryz.prog 82 #[.agg #[.int .u64 n.path, .int .u64 n.parent, .string n.name, .int .u32 n.mode, .string n.uid, .string n.gid, .string n.muid, .int .u32 n.atime, .int .u32 n.mtime, .int .u32 n.vers, .int .u64 n.length, .int .i64 n.opens, .int .i64 n.kids]] w' fun e w'' => e = .returned (.bool rt) ∧ Kept [] w' w'') := fun w' => by rw [hrt]; exact isRoot_any w' n
  have DD : Hid (∀ w', Calls Tryz.prog 79 #[.agg #[.int .u64 n.path, .int .u64 n.parent, .string n.name, .int .u32 n.mode, .string n.uid, .string n.gid, .string n.muid, .int .u32 n.atime, .int .u32 n.mtime, .int .u32 n.vers, .int .u64 n.length, .int .i64 n.opens, .int .i64 n.kids]] w' fun e w'' => e = .returned (.bool dv) ∧ Kept [] w' w'') := fun w' => by rw [hdv]; exact isDir_any w' n
  have MX : Hid (∀ w', Kept [] w w' → Calls Tryz.prog 81 #[.agg #[.pointer (some ⟨q, 0, none⟩), .string u], .agg #[.int .u64 p.path, .int .u64 p.parent, .string p.name, .int .u32 p.mode, .string p.uid, .string p.gid, .string p.muid, .int .u32 p.atime, .int .u32 p.mtime, .int .u32 p.vers, .int .u64 p.length, .int .i64 p.opens, .int .i64 p.kids]] w' fun e w'' => e = .returned (.bool m2) ∧ Kept [] w' w'') := fun w' k => by rw [hm2]; exact mayWrite_any (h.kept k) u p hu hg2
  have HZ := Lib.hid hz
  obtain ⟨w1, hw1⟩ : ∃ w1, w1 = w.alloc (.cells #[.int .u64 n.path, .int .u64 n.parent, .string n.name, .int .u32 n.mode, .string n.uid, .string n.gid, .string n.muid, .int .u32 n.atime, .int .u32 n.mtime, .int .u32 n.vers, .int .u64 n.length, .int .i64 n.opens, .int .i64 n.kids, .int .u64 p.path, .int .u64 p.parent, .string p.name, .int .u32 p.mode, .string p.uid, .string p.gid, .string p.muid, .int .u32 p.atime, .int .u32 p.mtime, .int .u32 p.vers, .int .u64 p.length, .int .i64 p.opens, .int .i64 p.kids, .bool tk, .bool fl] 53) := ⟨_, rfl⟩
  obtain ⟨R, hR⟩ : ∃ R, R = w.heap.size := ⟨_, rfl⟩
  have B1 : Hid (Bf w1 R n p tk fl) := by rw [hw1, hR]; exact (MapKept.heap_alloc w _).1
  have K1 : Hid (Kept [] w w1) := by rw [hw1]; exact (Kept.refl _ _).alloc _
  have CF : Hid (∀ wr, Kept [] w1 wr → Bf wr R n p tk fl) := fun wr k => B1.out.kept k (by simp)
  have CN : Hid (∀ wr, Bf wr R n p tk fl → wr.cell? ⟨R, 0, none⟩ = some (Value.int .u64 n.path) ∧ wr.cell? ⟨R, 1, none⟩ = some (Value.int .u64 n.parent) ∧ wr.cell? ⟨R, 2, none⟩ = some (Value.string n.name) ∧ wr.cell? ⟨R, 3, none⟩ = some (Value.int .u32 n.mode) ∧ wr.cell? ⟨R, 4, none⟩ = some (Value.string n.uid) ∧ wr.cell? ⟨R, 5, none⟩ = some (Value.string n.gid) ∧ wr.cell? ⟨R, 6, none⟩ = some (Value.string n.muid) ∧ wr.cell? ⟨R, 7, none⟩ = some (Value.int .u32 n.atime) ∧ wr.cell? ⟨R, 8, none⟩ = some (Value.int .u32 n.mtime) ∧ wr.cell? ⟨R, 9, none⟩ = some (Value.int .u32 n.vers) ∧ wr.cell? ⟨R, 10, none⟩ = some (Value.int .u64 n.length) ∧ wr.cell? ⟨R, 11, none⟩ = some (Value.int .i64 n.opens) ∧ wr.cell? ⟨R, 12, none⟩ = some (Value.int .i64 n.kids)) := fun wr b => by
    refine ⟨?_, ?_, ?_, ?_, ?_, ?_, ?_, ?_, ?_, ?_, ?_, ?_, ?_⟩ <;> (rw [cell_of_row wr R _ _ _ (0, 0) b]; rfl)
  have RN : Hid (∀ wr, Bf wr R n p tk fl → wr.rangeAt R 0 [.int .u64 n.path, .int .u64 n.parent, .string n.name, .int .u32 n.mode, .string n.uid, .string n.gid, .string n.muid, .int .u32 n.atime, .int .u32 n.mtime, .int .u32 n.vers, .int .u64 n.length, .int .i64 n.opens, .int .i64 n.kids]) := fun wr b j v hj => by
    rw [Nat.zero_add, cell_of_row wr R j _ _ (0, 0) b]
    have : j < 13 := by
      have := (List.getElem?_eq_some_iff.1 hj).1
      simpa using this
    rcases (by omega : j = 0 ∨ j = 1 ∨ j = 2 ∨ j = 3 ∨ j = 4 ∨ j = 5 ∨ j = 6 ∨ j = 7 ∨ j = 8 ∨ j = 9 ∨ j = 10 ∨ j = 11 ∨ j = 12) with rfl | rfl | rfl | rfl | rfl | rfl | rfl | rfl | rfl | rfl | rfl | rfl | rfl <;> exact hj
  have CQ : Hid (∀ wr, Bf wr R n p tk fl → wr.cell? ⟨R, 0, none⟩ = some (Value.int .u64 n.path) ∧ wr.cell? ⟨R, 1, none⟩ = some (Value.int .u64 n.parent) ∧ wr.cell? ⟨R, 2, none⟩ = some (Value.string n.name) ∧ wr.cell? ⟨R, 3, none⟩ = some (Value.int .u32 n.mode) ∧ wr.cell? ⟨R, 4, none⟩ = some (Value.string n.uid) ∧ wr.cell? ⟨R, 5, none⟩ = some (Value.string n.gid) ∧ wr.cell? ⟨R, 6, none⟩ = some (Value.string n.muid) ∧ wr.cell? ⟨R, 7, none⟩ = some (Value.int .u32 n.atime) ∧ wr.cell? ⟨R, 8, none⟩ = some (Value.int .u32 n.mtime) ∧ wr.cell? ⟨R, 9, none⟩ = some (Value.int .u32 n.vers) ∧ wr.cell? ⟨R, 10, none⟩ = some (Value.int .u64 n.length) ∧ wr.cell? ⟨R, 11, none⟩ = some (Value.int .i64 n.opens) ∧ wr.cell? ⟨R, 12, none⟩ = some (Value.int .i64 n.kids) ∧ wr.cell? ⟨R, 13, none⟩ = some (Value.int .u64 p.path) ∧ wr.cell? ⟨R, 14, none⟩ = some (Value.int .u64 p.parent) ∧ wr.cell? ⟨R, 15, none⟩ = some (Value.string p.name) ∧ wr.cell? ⟨R, 16, none⟩ = some (Value.int .u32 p.mode) ∧ wr.cell? ⟨R, 17, none⟩ = some (Value.string p.uid) ∧ wr.cell? ⟨R, 18, none⟩ = some (Value.string p.gid) ∧ wr.cell? ⟨R, 19, none⟩ = some (Value.string p.muid) ∧ wr.cell? ⟨R, 20, none⟩ = some (Value.int .u32 p.atime) ∧ wr.cell? ⟨R, 21, none⟩ = some (Value.int .u32 p.mtime) ∧ wr.cell? ⟨R, 22, none⟩ = some (Value.int .u32 p.vers) ∧ wr.cell? ⟨R, 23, none⟩ = some (Value.int .u64 p.length) ∧ wr.cell? ⟨R, 24, none⟩ = some (Value.int .i64 p.opens) ∧ wr.cell? ⟨R, 25, none⟩ = some (Value.int .i64 p.kids)) := fun wr b => by
    refine ⟨?_, ?_, ?_, ?_, ?_, ?_, ?_, ?_, ?_, ?_, ?_, ?_, ?_, ?_, ?_, ?_, ?_, ?_, ?_, ?_, ?_, ?_, ?_, ?_, ?_, ?_⟩ <;> (rw [cell_of_row wr R _ _ _ (0, 0) b]; rfl)
  have HW1 := Lib.hid hw1
  have HR := Lib.hid hR
  unfold factsV
  have KD : Hid (Kept [] w1 w1.drew) := (Kept.refl [] w1).drew
  clear hz hdv hm2 hrt h hu hg2 hw1 hR
  cases rt with
  | true =>
    go_enter Tryz.func28, Tryz.ntmps28
    go_wp2_with fail
    rw [← HW1.out, ← HR.out]
    have hb1 : Bf w1.drew R n p tk fl := CF.out _ KD.out
    refine wp_region_held (S := fun w' => Bf w' R n p tk fl) (by kernel_rfl) ?_
    try (change wpAnyH _ _ _ _ _ _ _ _ (World.drew _))
    refine wpAnyH_take (i := 0) (v := .pointer (some ⟨R, 0, none⟩)) rfl (by kernel_rfl) (by kernel_rfl) (by kernel_rfl) (fun _ _ _ h => h) (Or.inl ⟨by rfl, fun w _ => by simp [execOp, go_sem]⟩) hb1 ?_
    refine wpAnyH_take (i := 1) (v := .agg #[.int .u64 n.path, .int .u64 n.parent, .string n.name, .int .u32 n.mode, .string n.uid, .string n.gid, .string n.muid, .int .u32 n.atime, .int .u32 n.mtime, .int .u32 n.vers, .int .u64 n.length, .int .i64 n.opens, .int .i64 n.kids]) rfl (by kernel_rfl) (by kernel_rfl) (by kernel_rfl) (fun _ _ _ h => h) (yieldsIf_load_mid (by rfl) 51 (.tmp 8) rfl R 0 (by simp [go_sem]) [.int .u64 n.path, .int .u64 n.parent, .string n.name, .int .u32 n.mode, .string n.uid, .string n.gid, .string n.muid, .int .u32 n.atime, .int .u32 n.mtime, .int .u32 n.vers, .int .u64 n.length, .int .i64 n.opens, .int .i64 n.kids] _ (fun w b => RN.out w b) Tryz.underlying51 rfl size_node9) hb1 ?_
    refine wpAnyH_one (i := 2) (by kernel_rfl) ?_
    refine any_callR rfl rfl 82 #[.agg #[.int .u64 n.path, .int .u64 n.parent, .string n.name, .int .u32 n.mode, .string n.uid, .string n.gid, .string n.muid, .int .u32 n.atime, .int .u32 n.mtime, .int .u32 n.vers, .int .u64 n.length, .int .i64 n.opens, .int .i64 n.kids]] (by simp [go_sem]) (RR.out _) ?_
    rintro e w3 ⟨rfl, k3⟩
    have K3 : Hid (Kept [] w1 w3) := KD.out.trans k3 (fun i hi => by cases hi)
    refine ⟨_, rfl, CF.out _ K3.out, ?_⟩
    have hb3 := CF.out _ K3.out
    refine wpAnyH_take (i := 3) (v := .bool true) rfl (by kernel_rfl) (by kernel_rfl) (by kernel_rfl) (fun _ _ _ h => h) (Or.inl ⟨by rfl, fun w _ => by simp [execOp, go_sem]⟩) hb3 ?_
    refine wpAnyH_take (i := 4) (v := undef) rfl (by kernel_rfl) (by kernel_rfl) (by kernel_rfl) (fun _ _ _ h => h) (Or.inr ⟨by rfl, rfl⟩) hb3 ?_
    refine wpAnyH_take (i := 5) (v := undef) rfl (by kernel_rfl) (by kernel_rfl) (by kernel_rfl) (fun _ _ _ h => h) (Or.inr ⟨by rfl, rfl⟩) hb3 ?_
    refine wpAnyH_take (i := 7) (v := undef) rfl (by kernel_rfl) (by kernel_rfl) (by kernel_rfl) (fun _ _ _ h => h) (Or.inr ⟨by rfl, rfl⟩) hb3 ?_
    refine wpAnyH_take (i := 8) (v := undef) rfl (by kernel_rfl) (by kernel_rfl) (by kernel_rfl) (fun _ _ _ h => h) (Or.inr ⟨by rfl, rfl⟩) hb3 ?_
    simp [go_sem]
    refine wpAnyH_one (i := 6) (by kernel_rfl) ?_
    refine YieldsIf.wpOp (S := fun w' => Bf w' R n p tk fl) (v := undef) rfl (Or.inr ⟨by rfl, rfl⟩) hb3 ?_
    refine ⟨hb3, ?_⟩
    simp [go_sem]
    refine wpAnyH_one (i := 9) (by kernel_rfl) ?_
    refine YieldsIf.wpOp (S := fun w' => Bf w' R n p tk fl) (v := undef) rfl (Or.inr ⟨by rfl, rfl⟩) hb3 ?_
    refine ⟨hb3, ?_⟩
    simp [go_sem]
    refine wpAnyH_take (i := 10) (v := undef) rfl (by kernel_rfl) (by kernel_rfl) (by kernel_rfl) (fun _ _ _ h => h) (Or.inr ⟨by rfl, rfl⟩) hb3 ?_
    refine wpAnyH_take (i := 11) (v := .bool true) rfl (by kernel_rfl) (by kernel_rfl) (by kernel_rfl) (fun _ _ _ h => h) (Or.inl ⟨by rfl, fun w _ => by simp [execOp, go_sem]⟩) hb3 ?_
    refine wpAnyH_take (i := 12) (v := .bool true) rfl (by kernel_rfl) (by kernel_rfl) (by kernel_rfl) (fun _ _ _ h => h) (Or.inl ⟨by rfl, fun w _ => by simp [execOp, go_sem]⟩) hb3 ?_
    refine wpAnyH_done (by kernel_rfl) ?_ _
    simp [go_sem]
    go_wp2_with fail
    go_ret
    exact ⟨by rw [HZ.out]; rfl, K1.out.trans K3.out (fun i hi => by cases hi)⟩
  | false =>
    go_enter Tryz.func28, Tryz.ntmps28
    go_wp2_with fail
    rw [← HW1.out, ← HR.out]
    go_region_held3 (fun w' => w'.cell? ⟨R, 0, none⟩ = some (Value.int .u64 n.path) ∧ w'.cell? ⟨R, 1, none⟩ = some (Value.int .u64 n.parent) ∧ w'.cell? ⟨R, 2, none⟩ = some (Value.string n.name) ∧ w'.cell? ⟨R, 3, none⟩ = some (Value.int .u32 n.mode) ∧ w'.cell? ⟨R, 4, none⟩ = some (Value.string n.uid) ∧ w'.cell? ⟨R, 5, none⟩ = some (Value.string n.gid) ∧ w'.cell? ⟨R, 6, none⟩ = some (Value.string n.muid) ∧ w'.cell? ⟨R, 7, none⟩ = some (Value.int .u32 n.atime) ∧ w'.cell? ⟨R, 8, none⟩ = some (Value.int .u32 n.mtime) ∧ w'.cell? ⟨R, 9, none⟩ = some (Value.int .u32 n.vers) ∧ w'.cell? ⟨R, 10, none⟩ = some (Value.int .u64 n.length) ∧ w'.cell? ⟨R, 11, none⟩ = some (Value.int .i64 n.opens) ∧ w'.cell? ⟨R, 12, none⟩ = some (Value.int .i64 n.kids) ∧ w'.cell? ⟨R, 13, none⟩ = some (Value.int .u64 p.path) ∧ w'.cell? ⟨R, 14, none⟩ = some (Value.int .u64 p.parent) ∧ w'.cell? ⟨R, 15, none⟩ = some (Value.string p.name) ∧ w'.cell? ⟨R, 16, none⟩ = some (Value.int .u32 p.mode) ∧ w'.cell? ⟨R, 17, none⟩ = some (Value.string p.uid) ∧ w'.cell? ⟨R, 18, none⟩ = some (Value.string p.gid) ∧ w'.cell? ⟨R, 19, none⟩ = some (Value.string p.muid) ∧ w'.cell? ⟨R, 20, none⟩ = some (Value.int .u32 p.atime) ∧ w'.cell? ⟨R, 21, none⟩ = some (Value.int .u32 p.mtime) ∧ w'.cell? ⟨R, 22, none⟩ = some (Value.int .u32 p.vers) ∧ w'.cell? ⟨R, 23, none⟩ = some (Value.int .u64 p.length) ∧ w'.cell? ⟨R, 24, none⟩ = some (Value.int .i64 p.opens) ∧ w'.cell? ⟨R, 25, none⟩ = some (Value.int .i64 p.kids)) (first | exact CQ.out _ (CF.out _ KD.out) | exact CQ.out _ (CF.out _ K3.out) | exact CQ.out _ (CF.out _ K4.out) | exact CQ.out _ (CF.out _ K5.out)) (first | (go_at_call 82; refine (RR.out _).mono ?_; rintro e w3 ⟨rfl, k3⟩; have K3 : Hid (Kept [] w1 w3) := KD.out.trans k3 (fun i hi => by cases hi)) | (go_at_call 67; refine (AS.out _).mono ?_; rintro e w4 ⟨rfl, k4⟩; have K4 : Hid (Kept [] w1 w4) := K3.out.trans k4 (fun i hi => by cases hi)) | (go_at_call 81; refine (MX.out _ (K1.out.trans K4.out (fun i hi => by cases hi))).mono ?_; rintro e w5 ⟨rfl, k5⟩; have K5 : Hid (Kept [] w1 w5) := K4.out.trans k5 (fun i hi => by cases hi)))
    obtain ⟨c0, c1, c2, c3, c4, c5, c6, c7, c8, c9, c10, c11, c12⟩ := CN.out _ (CF.out _ K5.out)
    go_wp2_with (first | (go_at_call 79; refine (DD.out _).mono ?_; rintro e w6 ⟨rfl, k6⟩; have K6 : Hid (Kept [] w1 w6) := K5.out.trans k6 (fun i hi => by cases hi); clear c0 c1 c2 c3 c4 c5 c6 c7 c8 c9 c10 c11 c12; obtain ⟨c0, c1, c2, c3, c4, c5, c6, c7, c8, c9, c10, c11, c12⟩ := CN.out _ (CF.out _ K6.out)))
    all_goals
      go_ret
      refine ⟨?_, by first | exact K1.out.trans K6.out (fun i hi => by cases hi) | exact K1.out.trans K5.out (fun i hi => by cases hi)⟩
      have hz := HZ.out
      clear HZ AS RR DD MX HW1 HR B1 CF CN CQ
      simp_all
end Ru
end Go.Proofs.YtahjmpfjidijaaaGreatDoor
end
section
namespace Go.Proofs.YtahjmpfjidijaaaGreatDoor
set_option linter.unusedVariables false
open Go.RowKit Go.Shelf
attribute [local go_sem] Oper.semAt_some
namespace Ru
open Go.Proofs.YtahjmpfjidijaaaGreatDoor.Utf Go.Proofs.YtahjmpfjidijaaaGreatDoor.Txt Go.PlainAid Go.Proofs.YtahjmpfjidijaaaGreatDoor.Mpf Go.Proofs.YtahjmpfjidijaaaGreatDoor.Us

theorem size_facts8 : (Tryz.prog.info? 53).map (·.size) = some 28 := by kernel_rfl
theorem wpList_lfacts {w : World} {ops : Array Oper} {rest : List Oper} {o : Oper} {a : Act} {Q : Exit → Act → World → Prop} (hgd : o.guard = none) (x : Operand) (ho : o.op = .load 53 x) (B : Nat) (V : Array Value) (hs : V.size = 28) (h : w.heap[B]? = some (.cells V 53 (0, 0))) (hx : a.eval x = .pointer (some ⟨B, 0, none⟩))
    (hK : wpList Tryz.prog ops Q rest (a.put o.dst (.agg V)) w) : wpList Tryz.prog ops Q (o :: rest) a w :=
  wpList_plain hgd fun K hK' => wp_load_row 53 x ho B hx 53 _ (0, 0) _ h Tryz.underlying53 rfl (by rw [hs]; exact size_facts8) (hK' _ _ hK)
set_option maxRecDepth 100000 in
theorem Closes_any {w : World} {B q : Nat} {T : List Acc} (h : Tb w B q T) (u : ByteArray) (n p : Nd) (tk fl : Bool) (hu : u.size ≤ maxLen) (hg2 : p.gid.size ≤ maxLen) :
    Calls Tryz.prog 31 #[.pointer (some ⟨q, 0, none⟩), .string u, factsV n p tk fl] w fun e w' => e = .returned (.bool (removeE T u n p == 0)) ∧ Kept [] w w' := by
  obtain ⟨V, hV⟩ : ∃ V : Array Value, V = #[.int .u64 n.path, .int .u64 n.parent, .string n.name, .int .u32 n.mode, .string n.uid, .string n.gid, .string n.muid, .int .u32 n.atime, .int .u32 n.mtime, .int .u32 n.vers, .int .u64 n.length, .int .i64 n.opens, .int .i64 n.kids, .int .u64 p.path, .int .u64 p.parent, .string p.name, .int .u32 p.mode, .string p.uid, .string p.gid, .string p.muid, .int .u32 p.atime, .int .u32 p.mtime, .int .u32 p.vers, .int .u64 p.length, .int .i64 p.opens, .int .i64 p.kids, .bool tk, .bool fl] := ⟨_, rfl⟩
  have hF : factsV n p tk fl = .agg V := by rw [hV]; rfl
  have hs : V.size = 28 := by rw [hV]; rfl
  have REM : Hid (∀ w', Kept [] w w' → Calls Tryz.prog 28 #[.pointer (some ⟨q, 0, none⟩), .string u, .agg V] w' fun e w'' => e = .returned (.int .i64 (removeE T u n p)) ∧ Kept [] w' w'') := fun w' k => by
    rw [← hF]
    exact Remove_any (h.kept k) u n p tk fl hu hg2
  rw [hF]
  obtain ⟨z, hz⟩ : ∃ z, z = removeE T u n p := ⟨_, rfl⟩
  rw [← hz] at REM ⊢
  have HS := Lib.hid hs
  have KA : Hid (Kept [] w (w.alloc (.cells V 53))) := (Kept.refl _ _).alloc _
  have BA : Hid ((w.alloc (.cells V 53)).heap[w.heap.size]? = some (.cells V 53 (0, 0))) := (MapKept.heap_alloc w _).1
  clear h hu hg2 hV hF hs hz
  go_enter Tryz.func31, Tryz.ntmps31
  go_wp2_with (first | (refine wpList_lfacts rfl (.tmp 5) rfl w.heap.size V HS.out BA.out rfl ?_) | (go_at_call 28; refine (REM.out _ KA.out).mono ?_; rintro e w2 ⟨rfl, k2⟩))
  go_ret
  exact ⟨rfl, KA.out.trans k2 (fun i hi => by cases hi)⟩
set_option maxHeartbeats 8000000 in
set_option maxRecDepth 100000 in
theorem Create_ok {w : World} {B q : Nat} {T : List Acc} (h : Tb w B q T) (u : ByteArray) (n p : Nd) (tk fl : Bool) (name : ByteArray) (pm mode : Int) (hu : u.size ≤ maxLen) (hg : n.gid.size ≤ maxLen) (hn : name.size ≤ 140737488355328) (hz : makeE T u n tk fl name pm mode = 0) (md : Int) (hmd : md = modeInV n.mode pm) : Calls Tryz.prog 26 #[.pointer (some ⟨q, 0, none⟩), .string u, .agg #[.int .u64 n.path, .int .u64 n.parent, .string n.name, .int .u32 n.mode, .string n.uid, .string n.gid, .string n.muid, .int .u32 n.atime, .int .u32 n.mtime, .int .u32 n.vers, .int .u64 n.length, .int .i64 n.opens, .int .i64 n.kids, .int .u64 p.path, .int .u64 p.parent, .string p.name, .int .u32 p.mode, .string p.uid, .string p.gid, .string p.muid, .int .u32 p.atime, .int .u32 p.mtime, .int .u32 p.vers, .int .u64 p.length, .int .i64 p.opens, .int .i64 p.kids, .bool tk, .bool fl], .string name, .int .u32 pm, .int .u8 mode] w fun e w' => e = .returned (.tuple #[.agg #[.int .u64 0, .int .u64 n.path, .string name, .int .u32 md, .string u, .string n.gid, .string u, .int .u32 0, .int .u32 0, .int .u32 0, .int .u64 0, .int .i64 0, .int .i64 0], .int .i64 0]) ∧ Kept [] w w' := by
  have MCX : ∀ w', Kept [] w w' → Calls Tryz.prog 77 #[.agg #[.pointer (some ⟨q, 0, none⟩), .string u], .agg #[.int .u64 n.path, .int .u64 n.parent, .string n.name, .int .u32 n.mode, .string n.uid, .string n.gid, .string n.muid, .int .u32 n.atime, .int .u32 n.mtime, .int .u32 n.vers, .int .u64 n.length, .int .i64 n.opens, .int .i64 n.kids, .int .u64 p.path, .int .u64 p.parent, .string p.name, .int .u32 p.mode, .string p.uid, .string p.gid, .string p.muid, .int .u32 p.atime, .int .u32 p.mtime, .int .u32 p.vers, .int .u64 p.length, .int .i64 p.opens, .int .i64 p.kids, .bool tk, .bool fl], .string name, .int .u32 pm, .int .u8 mode] w' fun e w'' => e = .returned (.int .i64 0) ∧ Kept [] w' w'' := fun w' k => by
    have := mayCreate_any (h.kept k) u n p tk fl name pm mode hu hg hn
    rw [hz] at this
    exact this
  have MC0 := Lib.hid (fun w' (k : Kept [] w w') => MCX w' k)
  obtain ⟨V, hV⟩ : ∃ V : Array Value, V = #[.int .u64 n.path, .int .u64 n.parent, .string n.name, .int .u32 n.mode, .string n.uid, .string n.gid, .string n.muid, .int .u32 n.atime, .int .u32 n.mtime, .int .u32 n.vers, .int .u64 n.length, .int .i64 n.opens, .int .i64 n.kids, .int .u64 p.path, .int .u64 p.parent, .string p.name, .int .u32 p.mode, .string p.uid, .string p.gid, .string p.muid, .int .u32 p.atime, .int .u32 p.mtime, .int .u32 p.vers, .int .u64 p.length, .int .i64 p.opens, .int .i64 p.kids, .bool tk, .bool fl] := ⟨_, rfl⟩
  have HV := Lib.hid hV
  rw [← hV] at MC0 ⊢
  have AS : Hid (∀ w, Calls Tryz.prog 67 #[.pointer (some ⟨q, 0, none⟩), .string u] w fun e w' => e = .returned (.agg #[.pointer (some ⟨q, 0, none⟩), .string u]) ∧ Kept [] w w') := fun w => asks_any w q u
  have MC := MC0
  have MI : Hid (∀ w', Calls Tryz.prog 78 #[.agg #[.int .u64 n.path, .int .u64 n.parent, .string n.name, .int .u32 n.mode, .string n.uid, .string n.gid, .string n.muid, .int .u32 n.atime, .int .u32 n.mtime, .int .u32 n.vers, .int .u64 n.length, .int .i64 n.opens, .int .i64 n.kids], .int .u32 pm] w' fun e w'' => e = .returned (.int .u32 md) ∧ Kept [] w' w'') := fun w' => by rw [hmd]; exact modeIn_any w' n pm
  obtain ⟨w1, hw1⟩ : ∃ w1, w1 = (w.alloc (.cells V 53)).alloc (.cells #[.int .u64 0, .int .u64 0, .string ⟨#[]⟩, .int .u32 0, .string ⟨#[]⟩, .string ⟨#[]⟩, .string ⟨#[]⟩, .int .u32 0, .int .u32 0, .int .u32 0, .int .u64 0, .int .i64 0, .int .i64 0] 51) := ⟨_, rfl⟩
  obtain ⟨R12, hR12⟩ : ∃ R, R = w.heap.size + 1 := ⟨_, rfl⟩
  obtain ⟨R, hR⟩ : ∃ R, R = w.heap.size := ⟨_, rfl⟩
  have b12 : w1.heap[R12]? = some (.cells #[.int .u64 0, .int .u64 0, .string ⟨#[]⟩, .int .u32 0, .string ⟨#[]⟩, .string ⟨#[]⟩, .string ⟨#[]⟩, .int .u32 0, .int .u32 0, .int .u32 0, .int .u64 0, .int .i64 0, .int .i64 0] 51 (0, 0)) := by
    rw [hw1, hR12]
    have := (MapKept.heap_alloc (w.alloc (.cells V 53)) (.cells #[.int .u64 0, .int .u64 0, .string ⟨#[]⟩, .int .u32 0, .string ⟨#[]⟩, .string ⟨#[]⟩, .string ⟨#[]⟩, .int .u32 0, .int .u32 0, .int .u32 0, .int .u64 0, .int .i64 0, .int .i64 0] 51)).1
    rwa [World.size_alloc] at this
  have b1 : w1.heap[R]? = some (.cells V 53 (0, 0)) := by
    rw [hw1, hR]
    exact (Below.heap_alloc _ _ _ (by simp)).trans (MapKept.heap_alloc w _).1
  have K1 : Hid (Kept [] w w1) := by rw [hw1]; exact ((Kept.refl _ _).alloc _).alloc _
  have CE : Hid (∀ wr, Kept [] w1 wr → wr.heap[R]? = some (.cells V 53 (0, 0)) ∧ (wr.cell? ⟨R, 0, none⟩ = some (Value.int .u64 n.path) ∧ wr.cell? ⟨R, 1, none⟩ = some (Value.int .u64 n.parent) ∧ wr.cell? ⟨R, 2, none⟩ = some (Value.string n.name) ∧ wr.cell? ⟨R, 3, none⟩ = some (Value.int .u32 n.mode) ∧ wr.cell? ⟨R, 4, none⟩ = some (Value.string n.uid) ∧ wr.cell? ⟨R, 5, none⟩ = some (Value.string n.gid) ∧ wr.cell? ⟨R, 6, none⟩ = some (Value.string n.muid) ∧ wr.cell? ⟨R, 7, none⟩ = some (Value.int .u32 n.atime) ∧ wr.cell? ⟨R, 8, none⟩ = some (Value.int .u32 n.mtime) ∧ wr.cell? ⟨R, 9, none⟩ = some (Value.int .u32 n.vers) ∧ wr.cell? ⟨R, 10, none⟩ = some (Value.int .u64 n.length) ∧ wr.cell? ⟨R, 11, none⟩ = some (Value.int .i64 n.opens) ∧ wr.cell? ⟨R, 12, none⟩ = some (Value.int .i64 n.kids))) := fun wr k => by
    have b := (k.block _ (block_lt b1) (by simp)).trans b1
    refine ⟨b, ?_, ?_, ?_, ?_, ?_, ?_, ?_, ?_, ?_, ?_, ?_, ?_, ?_⟩ <;> (rw [cell_of_row wr R _ _ _ (0, 0) b, hV]; rfl)
  have B12 := Lib.hid b12
  have NR : Hid (w.heap.size ≤ R12) := by show _ ≤ _; omega
  have HW1 := Lib.hid hw1
  have HR := Lib.hid hR
  have HR12 := Lib.hid hR12
  clear hw1 hR hR12 h b1 b12 hV MC0 MCX hu hg hn hz hmd
  have sv0 : (Tryz.prog.info? 53).map (·.size) = some V.size := by rw [HV.out]; kernel_rfl
  have SV := Lib.hid sv0
  clear sv0
  go_enter Tryz.func26, Tryz.ntmps26
  go_wp2_with fail
  rw [← HW1.out, ← HR12.out, ← HR.out]
  have kd : Kept [] w1 w1.drew := (Kept.refl _ _).drew
  go_upto_region 1 with (fail)
  go_cut [14] from 16 to 23 (fun s14 wx => s14 = .int .i64 0 ∧ Hid (Kept [] w1 wx))
  case first =>
    refine wp_region_any (by kernel_rfl) ?_
    try (change wpAny _ _ _ _ _ _ _ (World.drew _))
    refine wpAny_take (i := 0) (v := .pointer (some ⟨q, 0, none⟩)) rfl (by kernel_rfl) (by kernel_rfl) (by kernel_rfl) (fun _ _ _ h => h) (Or.inl ⟨by rfl, fun w => by simp [execOp, go_sem]⟩) ?_
    refine wpAny_take (i := 1) (v := .string u) rfl (by kernel_rfl) (by kernel_rfl) (by kernel_rfl) (fun _ _ _ h => h) (Or.inl ⟨by rfl, fun w => by simp [execOp, go_sem]⟩) ?_
    refine wpAny_take (i := 4) (v := .string name) rfl (by kernel_rfl) (by kernel_rfl) (by kernel_rfl) (fun _ _ _ h => h) (Or.inl ⟨by rfl, fun w => by simp [execOp, go_sem]⟩) ?_
    refine wpAny_take (i := 5) (v := .int .u32 pm) rfl (by kernel_rfl) (by kernel_rfl) (by kernel_rfl) (fun _ _ _ h => h) (Or.inl ⟨by rfl, fun w => by simp [execOp, go_sem]⟩) ?_
    refine wpAny_take (i := 6) (v := .int .u8 mode) rfl (by kernel_rfl) (by kernel_rfl) (by kernel_rfl) (fun _ _ _ h => h) (Or.inl ⟨by rfl, fun w => by simp [execOp, go_sem]⟩) ?_
    refine wpAny_all (rs := [2, 3]) (by kernel_rfl) (by simp) ?_
    intro j hj
    simp only [List.mem_cons, List.not_mem_nil, or_false] at hj
    rcases hj with rfl | rfl
    · skip
      refine any_callR rfl rfl 67 #[.pointer (some ⟨q, 0, none⟩), .string u] (by simp [go_sem]) (AS.out _) ?_
      rintro e w2 ⟨rfl, k2⟩
      refine ⟨_, rfl, ?_⟩
      have K2 : Kept [] w1 w2 := kd.trans k2 (fun i hi => by cases hi)
      refine wpAny_all (rs := [3]) (by kernel_rfl) (by simp) ?_
      intro j hj
      obtain rfl : j = 3 := by simpa using hj
      refine any_load8 rfl rfl 53 (.tmp 8) R 53 V (0, 0) _ rfl (by simp [go_sem]) (CE.out _ K2).1 Tryz.underlying53 rfl SV.out ?_
      refine wpAny_all (rs := [7]) (by kernel_rfl) (by simp) ?_
      intro j hj
      obtain rfl : j = 7 := by simpa using hj
      refine any_callR rfl rfl 77 #[.agg #[.pointer (some ⟨q, 0, none⟩), .string u], .agg V, .string name, .int .u32 pm, .int .u8 mode] (by simp [go_sem]) (MC.out _ (K1.out.trans K2 (fun i hi => by cases hi))) ?_
      rintro e w3 ⟨rfl, k3⟩
      refine ⟨_, rfl, ?_⟩
      have K3 : Kept [] w1 w3 := K2.trans k3 (fun i hi => by cases hi)
      refine wpAny_all (rs := [8]) (by kernel_rfl) (by simp) ?_
      intro j hj
      obtain rfl : j = 8 := by simpa using hj
      refine any_value8 rfl rfl (.int .i64 0) (by simp [execOp, go_sem]) ?_
      refine wpAny_done (by kernel_rfl) ?_ _
      simp [go_sem]
      go_wp2_with fail
      go_meet
      exact ⟨rfl, K3⟩
    · refine any_load8 rfl rfl 53 (.tmp 8) R 53 V (0, 0) _ rfl (by simp [go_sem]) (CE.out _ kd).1 Tryz.underlying53 rfl SV.out ?_
      refine wpAny_all (rs := [2]) (by kernel_rfl) (by simp) ?_
      intro j hj
      obtain rfl : j = 2 := by simpa using hj
      refine any_callR rfl rfl 67 #[.pointer (some ⟨q, 0, none⟩), .string u] (by simp [go_sem]) (AS.out _) ?_
      rintro e w2 ⟨rfl, k2⟩
      refine ⟨_, rfl, ?_⟩
      have K2 : Kept [] w1 w2 := kd.trans k2 (fun i hi => by cases hi)
      refine wpAny_all (rs := [7]) (by kernel_rfl) (by simp) ?_
      intro j hj
      obtain rfl : j = 7 := by simpa using hj
      refine any_callR rfl rfl 77 #[.agg #[.pointer (some ⟨q, 0, none⟩), .string u], .agg V, .string name, .int .u32 pm, .int .u8 mode] (by simp [go_sem]) (MC.out _ (K1.out.trans K2 (fun i hi => by cases hi))) ?_
      rintro e w3 ⟨rfl, k3⟩
      refine ⟨_, rfl, ?_⟩
      have K3 : Kept [] w1 w3 := K2.trans k3 (fun i hi => by cases hi)
      refine wpAny_all (rs := [8]) (by kernel_rfl) (by simp) ?_
      intro j hj
      obtain rfl : j = 8 := by simpa using hj
      refine any_value8 rfl rfl (.int .i64 0) (by simp [execOp, go_sem]) ?_
      refine wpAny_done (by kernel_rfl) ?_ _
      simp [go_sem]
      go_wp2_with fail
      go_meet
      exact ⟨rfl, K3⟩
  case rest =>
    obtain ⟨rfl, hK⟩ := hcut
    obtain ⟨-, c0, c1, c2, c3, c4, c5, c6, c7, c8, c9, c10, c11, c12⟩ := CE.out wc hK.out
    have b12 := (hK.out.block _ (block_lt B12.out) (by simp)).trans B12.out
    obtain ⟨w4, hw4⟩ : ∃ w4, w4 = wc.alloc (.cells #[.int .u64 n.path, .int .u64 n.parent, .string n.name, .int .u32 n.mode, .string n.uid, .string n.gid, .string n.muid, .int .u32 n.atime, .int .u32 n.mtime, .int .u32 n.vers, .int .u64 n.length, .int .i64 n.opens, .int .i64 n.kids] 51) := ⟨_, rfl⟩
    obtain ⟨R15, hR15⟩ : ∃ R, R = wc.heap.size := ⟨_, rfl⟩
    have b15 : w4.heap[R15]? = some (.cells #[.int .u64 n.path, .int .u64 n.parent, .string n.name, .int .u32 n.mode, .string n.uid, .string n.gid, .string n.muid, .int .u32 n.atime, .int .u32 n.mtime, .int .u32 n.vers, .int .u64 n.length, .int .i64 n.opens, .int .i64 n.kids] 51 (0, 0)) := by rw [hw4, hR15]; exact (MapKept.heap_alloc wc _).1
    have k4 : Kept [] wc w4 := by rw [hw4]; exact (Kept.refl _ _).alloc _
    have NE : Hid (R15 ≠ R12) := by have := block_lt b12; show _ ≠ _; omega
    have b124 := (k4.block _ (block_lt b12) (by simp)).trans b12
    have K4 : Hid (Kept [] w w4) := (K1.out.trans hK.out (fun i hi => by cases hi)).trans k4 (fun i hi => by cases hi)
    have HW4 := Lib.hid hw4
    have HR15 := Lib.hid hR15
    have B15 := Lib.hid b15
    have B124 := Lib.hid b124
    clear hw4 hR15 b15 k4 b12 b124
    go_wp2_with fail
    rw [← HW4.out, ← HR15.out]
    have kd4 : Kept [R12] w4 w4.drew := (Kept.refl _ _).drew
    have bd : (w4.drew).heap[R15]? = some (.cells #[.int .u64 n.path, .int .u64 n.parent, .string n.name, .int .u32 n.mode, .string n.uid, .string n.gid, .string n.muid, .int .u32 n.atime, .int .u32 n.mtime, .int .u32 n.vers, .int .u64 n.length, .int .i64 n.opens, .int .i64 n.kids] 51 (0, 0)) := B15.out
    have NE' : R15 ∉ [R12] := by have := NE.out; simpa using this
    obtain ⟨Z, hZ⟩ : ∃ Z : Array Value, Z = #[.int .u64 n.path, .int .u64 n.parent, .string n.name, .int .u32 n.mode, .string n.uid, .string n.gid, .string n.muid, .int .u32 n.atime, .int .u32 n.mtime, .int .u32 n.vers, .int .u64 n.length, .int .i64 n.opens, .int .i64 n.kids] := ⟨_, rfl⟩
    have HZ := Lib.hid hZ
    have B15' : Hid (w4.heap[R15]? = some (.cells Z 51 (0, 0))) := by rw [hZ]; exact B15
    rw [← hZ] at bd
    have MI' : Hid (∀ w', Calls Tryz.prog 78 #[.agg Z, .int .u32 pm] w' fun e w'' => e = .returned (.int .u32 md) ∧ Kept [] w' w'') := by rw [hZ]; exact MI
    clear hZ
    have cz : ∀ w' : World, w'.heap[R15]? = some (.cells Z 51 (0, 0)) → w'.cell? ⟨R15, 0, none⟩ = some (Value.int .u64 n.path) ∧ w'.cell? ⟨R15, 5, none⟩ = some (Value.string n.gid) := fun w' b => by
      refine ⟨?_, ?_⟩ <;> (rw [cell_of_row w' R15 _ _ _ (0, 0) b, HZ.out]; rfl)
    have sz : (Tryz.prog.info? 51).map (·.size) = some Z.size := by rw [HZ.out]; kernel_rfl
    refine wp_region_held (S := fun w' => w'.heap[R15]? = some (.cells Z 51 (0, 0))) (by kernel_rfl) ?_
    try (change wpAnyH _ _ _ _ _ _ _ _ (World.drew _))
    refine wpAnyH_take (i := 0) (v := .pointer (some ⟨R15, 0, none⟩)) rfl (by kernel_rfl) (by kernel_rfl) (by kernel_rfl) (fun _ _ _ h => h) (Or.inl ⟨by rfl, fun w _ => by simp [execOp, go_sem]⟩) bd ?_
    refine wpAnyH_take (i := 1) (v := .int .u64 n.path) rfl (by kernel_rfl) (by kernel_rfl) (by kernel_rfl) (fun _ _ _ h => h) (Or.inl ⟨by rfl, fun w b => by have c := (cz w b).1; simp [execOp, go_sem, c]⟩) bd ?_
    refine wpAnyH_take (i := 2) (v := .string name) rfl (by kernel_rfl) (by kernel_rfl) (by kernel_rfl) (fun _ _ _ h => h) (Or.inl ⟨by rfl, fun w _ => by simp [execOp, go_sem]⟩) bd ?_
    refine wpAnyH_take (i := 3) (v := .agg Z) rfl (by kernel_rfl) (by kernel_rfl) (by kernel_rfl) (fun _ _ _ h => h) (Or.inl ⟨by rfl, fun w b => by
      exact run_load8 51 (.tmp 15) rfl R15 (by simp [go_sem]) 51 Z (0, 0) _ b Tryz.underlying51 rfl sz⟩) bd ?_
    refine wpAnyH_take (i := 4) (v := .int .u32 pm) rfl (by kernel_rfl) (by kernel_rfl) (by kernel_rfl) (fun _ _ _ h => h) (Or.inl ⟨by rfl, fun w _ => by simp [execOp, go_sem]⟩) bd ?_
    refine wpAnyH_take (i := 6) (v := .string u) rfl (by kernel_rfl) (by kernel_rfl) (by kernel_rfl) (fun _ _ _ h => h) (Or.inl ⟨by rfl, fun w _ => by simp [execOp, go_sem]⟩) bd ?_
    refine wpAnyH_take (i := 7) (v := .pointer (some ⟨R15, 5, none⟩)) rfl (by kernel_rfl) (by kernel_rfl) (by kernel_rfl) (fun _ _ _ h => h) (Or.inl ⟨by rfl, fun w _ => by simp [execOp, go_sem]⟩) bd ?_
    refine wpAnyH_take (i := 8) (v := .string n.gid) rfl (by kernel_rfl) (by kernel_rfl) (by kernel_rfl) (fun _ _ _ h => h) (Or.inl ⟨by rfl, fun w b => by have c := (cz w b).2; simp [execOp, go_sem, c]⟩) bd ?_
    refine wpAnyH_take (i := 9) (v := .string u) rfl (by kernel_rfl) (by kernel_rfl) (by kernel_rfl) (fun _ _ _ h => h) (Or.inl ⟨by rfl, fun w _ => by simp [execOp, go_sem]⟩) bd ?_
    refine wpAnyH_all (rs := [5]) (by kernel_rfl) (by simp) ?_
    intro j hj
    obtain rfl : j = 5 := by simpa using hj
    refine any_callR rfl rfl 78 #[.agg Z, .int .u32 pm] (by simp [go_sem]) (MI'.out _) ?_
    rintro e w6 ⟨rfl, k6⟩
    refine ⟨_, rfl, ?_⟩
    have K6 : Kept [R12] w4 w6 := kd4.trans (k6.mono (T := [R12]) (fun i hi => by cases hi)) (fun i hi => Or.inl hi)
    have b6 := (K6.block R15 (block_lt B15'.out) NE').trans B15'.out
    have b126 := (k6.block R12 (block_lt B124.out) (by simp)).trans B124.out
    refine ⟨b6, ?_⟩
    refine wpAnyH_take (i := 10) (v := .agg #[.int .u64 0, .int .u64 n.path, .string name, .int .u32 md, .string u, .string n.gid, .string u, .int .u32 0, .int .u32 0, .int .u32 0, .int .u64 0, .int .i64 0, .int .i64 0]) rfl (by kernel_rfl) (by kernel_rfl) (by kernel_rfl) (fun _ _ _ h => h) (Or.inl ⟨by rfl, fun w _ => by simp [execOp, go_sem]⟩) b6 ?_
    refine wpAnyH_all (rs := [11]) (by kernel_rfl) (by simp) ?_
    intro j hj
    obtain rfl : j = 11 := by simpa using hj
    refine any_store8 rfl rfl 51 (.tmp 12) (.tmp 40) R12 #[.int .u64 0, .int .u64 n.path, .string name, .int .u32 md, .string u, .string n.gid, .string u, .int .u32 0, .int .u32 0, .int .u32 0, .int .u64 0, .int .i64 0, .int .i64 0] 51 _ rfl (by simp [go_sem]) (by simp [go_sem]) b126 (by kernel_rfl) rfl (by simp [Value.oneCell']) ?_
    obtain ⟨w7, hw7⟩ : ∃ w7, w7 = w6.setRow R12 #[.int .u64 0, .int .u64 n.path, .string name, .int .u32 md, .string u, .string n.gid, .string u, .int .u32 0, .int .u32 0, .int .u32 0, .int .u64 0, .int .i64 0, .int .i64 0] := ⟨_, rfl⟩
    have b127 : w7.heap[R12]? = some (.cells #[.int .u64 0, .int .u64 n.path, .string name, .int .u32 md, .string u, .string n.gid, .string u, .int .u32 0, .int .u32 0, .int .u32 0, .int .u64 0, .int .i64 0, .int .i64 0] 51 (0, 0)) := by rw [hw7]; exact setRow_heap w6 R12 _ _ _ (0, 0) b126
    have k7 : Kept [R12] w6 w7 := by rw [hw7]; exact ⟨rfl, rfl, rfl, by simp [World.setRow], fun k _ hk => setRow_other w6 R12 k _ (by simpa using hk)⟩
    rw [← hw7]
    have b7 := (k7.block R15 (block_lt b6) NE').trans b6
    refine ⟨b7, ?_⟩
    refine wpAnyH_all (rs := [12]) (by kernel_rfl) (by simp) ?_
    intro j hj
    obtain rfl : j = 12 := by simpa using hj
    refine any_value8 rfl rfl (.int .i64 0) (by simp [execOp, go_sem]) ?_
    refine ⟨b7, ?_⟩
    refine wpAnyH_done (by kernel_rfl) ?_ _
    have KE : Kept [] w w7 := K4.out.trans (K6.trans k7 (fun i hi => Or.inl hi)) (fun i hi => Or.inr (by rw [List.mem_singleton] at hi; subst hi; exact NR.out))
    have hl := run_loadVar_row (P := Tryz.prog) w7 R12 51 51 #[.int .u64 0, .int .u64 n.path, .string name, .int .u32 md, .string u, .string n.gid, .string u, .int .u32 0, .int .u32 0, .int .u32 0, .int .u64 0, .int .i64 0, .int .i64 0] (0, 0) _ b127 Tryz.underlying51 rfl (by kernel_rfl)
    simp [go_sem]
    go_wp2_with fail
    refine bodyPost_ret (v := .tuple #[.agg #[.int .u64 0, .int .u64 n.path, .string name, .int .u32 md, .string u, .string n.gid, .string u, .int .u32 0, .int .u32 0, .int .u32 0, .int .u64 0, .int .i64 0, .int .i64 0], .int .i64 0]) (by simp [results, Tryz.results26, asAddr, hl]) rfl ⟨rfl, KE⟩
end Ru
end Go.Proofs.YtahjmpfjidijaaaGreatDoor
end
section
namespace Go.Proofs.YtahjmpfjidijaaaGreatDoor
set_option linter.unusedVariables false
open Go.RowKit Go.Shelf
attribute [local go_sem] Oper.semAt_some
namespace Ru
open Go.Proofs.YtahjmpfjidijaaaGreatDoor.Utf Go.Proofs.YtahjmpfjidijaaaGreatDoor.Txt Go.PlainAid Go.Proofs.YtahjmpfjidijaaaGreatDoor.Mpf Go.Proofs.YtahjmpfjidijaaaGreatDoor.Us

theorem wpList_srow8 {w : World} {ops : Array Oper} {rest : List Oper} {o : Oper} {a : Act} {Q : Exit → Act → World → Prop} (hgd : o.guard = none) (x y : Operand) (ho : o.op = .store 51 x y) (g : Nat) (hx : a.eval x = .pointer (some ⟨g, 0, none⟩)) (old cs : Array Value)
    (hy : a.eval y = .agg cs) (hg : w.heap[g]? = some (.cells old 51 (0, 0))) (hs : old.size = 13) (hc : cs.size = 13) (h1 : cs.all (·.oneCell') = true)
    (h : ∀ w', w'.heap[g]? = some (.cells cs 51 (0, 0)) → Kept [g] w w' → wpList Tryz.prog ops Q rest (a.put o.dst undef) w') : wpList Tryz.prog ops Q (o :: rest) a w :=
  wpList_plain hgd fun K hK => by
    have := run_storeVar_row (P := Tryz.prog) w g 51 51 old cs hg (by rw [hc]; exact size_node9) (by rw [hs, hc]) h1
    unfold Oper.wp execOp
    simp only [ho, hx, hy, Instr.storeAt, Instr.sureAddr, Sem.run_bind, Sem.run_pure, Result.andThen_ok, this]
    exact hK _ _ (h _ (setRow_heap w g old cs 51 (0, 0) hg) ⟨rfl, rfl, rfl, by simp [World.setRow], fun k _ hk => setRow_other w g k _ (by simpa using hk)⟩)
set_option maxHeartbeats 8000000 in
set_option maxRecDepth 100000 in
theorem Create_no {w : World} {B q : Nat} {T : List Acc} (h : Tb w B q T) (u : ByteArray) (n p : Nd) (tk fl : Bool) (name : ByteArray) (pm mode : Int) (hu : u.size ≤ maxLen) (hg : n.gid.size ≤ maxLen) (hn : name.size ≤ 140737488355328) (z : Int) (hz : makeE T u n tk fl name pm mode = z) (hz0 : z ≠ 0) : Calls Tryz.prog 26 #[.pointer (some ⟨q, 0, none⟩), .string u, .agg #[.int .u64 n.path, .int .u64 n.parent, .string n.name, .int .u32 n.mode, .string n.uid, .string n.gid, .string n.muid, .int .u32 n.atime, .int .u32 n.mtime, .int .u32 n.vers, .int .u64 n.length, .int .i64 n.opens, .int .i64 n.kids, .int .u64 p.path, .int .u64 p.parent, .string p.name, .int .u32 p.mode, .string p.uid, .string p.gid, .string p.muid, .int .u32 p.atime, .int .u32 p.mtime, .int .u32 p.vers, .int .u64 p.length, .int .i64 p.opens, .int .i64 p.kids, .bool tk, .bool fl], .string name, .int .u32 pm, .int .u8 mode] w fun e w' => e = .returned (.tuple #[.agg #[.int .u64 0, .int .u64 0, .string ⟨#[]⟩, .int .u32 0, .string ⟨#[]⟩, .string ⟨#[]⟩, .string ⟨#[]⟩, .int .u32 0, .int .u32 0, .int .u32 0, .int .u64 0, .int .i64 0, .int .i64 0], .int .i64 z]) ∧ Kept [] w w' := by
  have MCX : ∀ w', Kept [] w w' → Calls Tryz.prog 77 #[.agg #[.pointer (some ⟨q, 0, none⟩), .string u], .agg #[.int .u64 n.path, .int .u64 n.parent, .string n.name, .int .u32 n.mode, .string n.uid, .string n.gid, .string n.muid, .int .u32 n.atime, .int .u32 n.mtime, .int .u32 n.vers, .int .u64 n.length, .int .i64 n.opens, .int .i64 n.kids, .int .u64 p.path, .int .u64 p.parent, .string p.name, .int .u32 p.mode, .string p.uid, .string p.gid, .string p.muid, .int .u32 p.atime, .int .u32 p.mtime, .int .u32 p.vers, .int .u64 p.length, .int .i64 p.opens, .int .i64 p.kids, .bool tk, .bool fl], .string name, .int .u32 pm, .int .u8 mode] w' fun e w'' => e = .returned (.int .i64 z) ∧ Kept [] w' w'' := fun w' k => by
    have := mayCreate_any (h.kept k) u n p tk fl name pm mode hu hg hn
    rw [hz] at this
    exact this
  have MC0 := Lib.hid (fun w' (k : Kept [] w w') => MCX w' k)
  obtain ⟨V, hV⟩ : ∃ V : Array Value, V = #[.int .u64 n.path, .int .u64 n.parent, .string n.name, .int .u32 n.mode, .string n.uid, .string n.gid, .string n.muid, .int .u32 n.atime, .int .u32 n.mtime, .int .u32 n.vers, .int .u64 n.length, .int .i64 n.opens, .int .i64 n.kids, .int .u64 p.path, .int .u64 p.parent, .string p.name, .int .u32 p.mode, .string p.uid, .string p.gid, .string p.muid, .int .u32 p.atime, .int .u32 p.mtime, .int .u32 p.vers, .int .u64 p.length, .int .i64 p.opens, .int .i64 p.kids, .bool tk, .bool fl] := ⟨_, rfl⟩
  have HV := Lib.hid hV
  rw [← hV] at MC0 ⊢
  have AS : Hid (∀ w, Calls Tryz.prog 67 #[.pointer (some ⟨q, 0, none⟩), .string u] w fun e w' => e = .returned (.agg #[.pointer (some ⟨q, 0, none⟩), .string u]) ∧ Kept [] w w') := fun w => asks_any w q u
  have MC := MC0
  obtain ⟨w1, hw1⟩ : ∃ w1, w1 = (w.alloc (.cells V 53)).alloc (.cells #[.int .u64 0, .int .u64 0, .string ⟨#[]⟩, .int .u32 0, .string ⟨#[]⟩, .string ⟨#[]⟩, .string ⟨#[]⟩, .int .u32 0, .int .u32 0, .int .u32 0, .int .u64 0, .int .i64 0, .int .i64 0] 51) := ⟨_, rfl⟩
  obtain ⟨R12, hR12⟩ : ∃ R, R = w.heap.size + 1 := ⟨_, rfl⟩
  obtain ⟨R, hR⟩ : ∃ R, R = w.heap.size := ⟨_, rfl⟩
  have b12 : w1.heap[R12]? = some (.cells #[.int .u64 0, .int .u64 0, .string ⟨#[]⟩, .int .u32 0, .string ⟨#[]⟩, .string ⟨#[]⟩, .string ⟨#[]⟩, .int .u32 0, .int .u32 0, .int .u32 0, .int .u64 0, .int .i64 0, .int .i64 0] 51 (0, 0)) := by
    rw [hw1, hR12]
    have := (MapKept.heap_alloc (w.alloc (.cells V 53)) (.cells #[.int .u64 0, .int .u64 0, .string ⟨#[]⟩, .int .u32 0, .string ⟨#[]⟩, .string ⟨#[]⟩, .string ⟨#[]⟩, .int .u32 0, .int .u32 0, .int .u32 0, .int .u64 0, .int .i64 0, .int .i64 0] 51)).1
    rwa [World.size_alloc] at this
  have b1 : w1.heap[R]? = some (.cells V 53 (0, 0)) := by
    rw [hw1, hR]
    exact (Below.heap_alloc _ _ _ (by simp)).trans (MapKept.heap_alloc w _).1
  have K1 : Hid (Kept [] w w1) := by rw [hw1]; exact ((Kept.refl _ _).alloc _).alloc _
  have CE : Hid (∀ wr, Kept [] w1 wr → wr.heap[R]? = some (.cells V 53 (0, 0)) ∧ (wr.cell? ⟨R, 0, none⟩ = some (Value.int .u64 n.path) ∧ wr.cell? ⟨R, 1, none⟩ = some (Value.int .u64 n.parent) ∧ wr.cell? ⟨R, 2, none⟩ = some (Value.string n.name) ∧ wr.cell? ⟨R, 3, none⟩ = some (Value.int .u32 n.mode) ∧ wr.cell? ⟨R, 4, none⟩ = some (Value.string n.uid) ∧ wr.cell? ⟨R, 5, none⟩ = some (Value.string n.gid) ∧ wr.cell? ⟨R, 6, none⟩ = some (Value.string n.muid) ∧ wr.cell? ⟨R, 7, none⟩ = some (Value.int .u32 n.atime) ∧ wr.cell? ⟨R, 8, none⟩ = some (Value.int .u32 n.mtime) ∧ wr.cell? ⟨R, 9, none⟩ = some (Value.int .u32 n.vers) ∧ wr.cell? ⟨R, 10, none⟩ = some (Value.int .u64 n.length) ∧ wr.cell? ⟨R, 11, none⟩ = some (Value.int .i64 n.opens) ∧ wr.cell? ⟨R, 12, none⟩ = some (Value.int .i64 n.kids))) := fun wr k => by
    have b := (k.block _ (block_lt b1) (by simp)).trans b1
    refine ⟨b, ?_, ?_, ?_, ?_, ?_, ?_, ?_, ?_, ?_, ?_, ?_, ?_, ?_⟩ <;> (rw [cell_of_row wr R _ _ _ (0, 0) b, hV]; rfl)
  have B12 := Lib.hid b12
  have NR : Hid (w.heap.size ≤ R12) := by show _ ≤ _; omega
  have HW1 := Lib.hid hw1
  have HR := Lib.hid hR
  have HR12 := Lib.hid hR12
  clear hw1 hR hR12 h b1 b12 hV MC0 MCX hu hg hn hz
  have sv0 : (Tryz.prog.info? 53).map (·.size) = some V.size := by rw [HV.out]; kernel_rfl
  have SV := Lib.hid sv0
  clear sv0
  go_enter Tryz.func26, Tryz.ntmps26
  go_wp2_with fail
  rw [← HW1.out, ← HR12.out, ← HR.out]
  have kd : Kept [] w1 w1.drew := (Kept.refl _ _).drew
  go_upto_region 1 with (fail)
  go_cut [14] from 16 to 23 (fun s14 wx => s14 = .int .i64 z ∧ Hid (Kept [] w1 wx))
  case first =>
    refine wp_region_any (by kernel_rfl) ?_
    try (change wpAny _ _ _ _ _ _ _ (World.drew _))
    refine wpAny_take (i := 0) (v := .pointer (some ⟨q, 0, none⟩)) rfl (by kernel_rfl) (by kernel_rfl) (by kernel_rfl) (fun _ _ _ h => h) (Or.inl ⟨by rfl, fun w => by simp [execOp, go_sem]⟩) ?_
    refine wpAny_take (i := 1) (v := .string u) rfl (by kernel_rfl) (by kernel_rfl) (by kernel_rfl) (fun _ _ _ h => h) (Or.inl ⟨by rfl, fun w => by simp [execOp, go_sem]⟩) ?_
    refine wpAny_take (i := 4) (v := .string name) rfl (by kernel_rfl) (by kernel_rfl) (by kernel_rfl) (fun _ _ _ h => h) (Or.inl ⟨by rfl, fun w => by simp [execOp, go_sem]⟩) ?_
    refine wpAny_take (i := 5) (v := .int .u32 pm) rfl (by kernel_rfl) (by kernel_rfl) (by kernel_rfl) (fun _ _ _ h => h) (Or.inl ⟨by rfl, fun w => by simp [execOp, go_sem]⟩) ?_
    refine wpAny_take (i := 6) (v := .int .u8 mode) rfl (by kernel_rfl) (by kernel_rfl) (by kernel_rfl) (fun _ _ _ h => h) (Or.inl ⟨by rfl, fun w => by simp [execOp, go_sem]⟩) ?_
    refine wpAny_all (rs := [2, 3]) (by kernel_rfl) (by simp) ?_
    intro j hj
    simp only [List.mem_cons, List.not_mem_nil, or_false] at hj
    rcases hj with rfl | rfl
    · skip
      refine any_callR rfl rfl 67 #[.pointer (some ⟨q, 0, none⟩), .string u] (by simp [go_sem]) (AS.out _) ?_
      rintro e w2 ⟨rfl, k2⟩
      refine ⟨_, rfl, ?_⟩
      have K2 : Kept [] w1 w2 := kd.trans k2 (fun i hi => by cases hi)
      refine wpAny_all (rs := [3]) (by kernel_rfl) (by simp) ?_
      intro j hj
      obtain rfl : j = 3 := by simpa using hj
      refine any_load8 rfl rfl 53 (.tmp 8) R 53 V (0, 0) _ rfl (by simp [go_sem]) (CE.out _ K2).1 Tryz.underlying53 rfl SV.out ?_
      refine wpAny_all (rs := [7]) (by kernel_rfl) (by simp) ?_
      intro j hj
      obtain rfl : j = 7 := by simpa using hj
      refine any_callR rfl rfl 77 #[.agg #[.pointer (some ⟨q, 0, none⟩), .string u], .agg V, .string name, .int .u32 pm, .int .u8 mode] (by simp [go_sem]) (MC.out _ (K1.out.trans K2 (fun i hi => by cases hi))) ?_
      rintro e w3 ⟨rfl, k3⟩
      refine ⟨_, rfl, ?_⟩
      have K3 : Kept [] w1 w3 := K2.trans k3 (fun i hi => by cases hi)
      refine wpAny_all (rs := [8]) (by kernel_rfl) (by simp) ?_
      intro j hj
      obtain rfl : j = 8 := by simpa using hj
      refine any_value8 rfl rfl (.int .i64 z) (by simp [execOp, go_sem]) ?_
      refine wpAny_done (by kernel_rfl) ?_ _
      simp [go_sem]
      go_wp2_with fail
      go_meet
      exact ⟨rfl, K3⟩
    · refine any_load8 rfl rfl 53 (.tmp 8) R 53 V (0, 0) _ rfl (by simp [go_sem]) (CE.out _ kd).1 Tryz.underlying53 rfl SV.out ?_
      refine wpAny_all (rs := [2]) (by kernel_rfl) (by simp) ?_
      intro j hj
      obtain rfl : j = 2 := by simpa using hj
      refine any_callR rfl rfl 67 #[.pointer (some ⟨q, 0, none⟩), .string u] (by simp [go_sem]) (AS.out _) ?_
      rintro e w2 ⟨rfl, k2⟩
      refine ⟨_, rfl, ?_⟩
      have K2 : Kept [] w1 w2 := kd.trans k2 (fun i hi => by cases hi)
      refine wpAny_all (rs := [7]) (by kernel_rfl) (by simp) ?_
      intro j hj
      obtain rfl : j = 7 := by simpa using hj
      refine any_callR rfl rfl 77 #[.agg #[.pointer (some ⟨q, 0, none⟩), .string u], .agg V, .string name, .int .u32 pm, .int .u8 mode] (by simp [go_sem]) (MC.out _ (K1.out.trans K2 (fun i hi => by cases hi))) ?_
      rintro e w3 ⟨rfl, k3⟩
      refine ⟨_, rfl, ?_⟩
      have K3 : Kept [] w1 w3 := K2.trans k3 (fun i hi => by cases hi)
      refine wpAny_all (rs := [8]) (by kernel_rfl) (by simp) ?_
      intro j hj
      obtain rfl : j = 8 := by simpa using hj
      refine any_value8 rfl rfl (.int .i64 z) (by simp [execOp, go_sem]) ?_
      refine wpAny_done (by kernel_rfl) ?_ _
      simp [go_sem]
      go_wp2_with fail
      go_meet
      exact ⟨rfl, K3⟩
  case rest =>
    obtain ⟨rfl, hK⟩ := hcut
    have b12 := (hK.out.block _ (block_lt B12.out) (by simp)).trans B12.out
    have BB := Lib.hid b12
    have e1 : (z == 0) = false := by simpa using hz0
    have e2 : (z != 0) = true := by simp [hz0]
    clear hz0 b12
    go_wp2_with (first | (refine wpList_srow8 rfl (.tmp 12) (.tmp 26) rfl R12 rfl _ #[.int .u64 0, .int .u64 0, .string ⟨#[]⟩, .int .u32 0, .string ⟨#[]⟩, .string ⟨#[]⟩, .string ⟨#[]⟩, .int .u32 0, .int .u32 0, .int .u32 0, .int .u64 0, .int .i64 0, .int .i64 0] rfl BB.out rfl rfl (by simp [Value.oneCell']) ?_; intro w4 b4 k4))
    have hl := run_loadVar_row (P := Tryz.prog) w4 R12 51 51 _ (0, 0) _ b4 Tryz.underlying51 rfl size_node9
    refine bodyPost_ret (v := .tuple #[.agg #[.int .u64 0, .int .u64 0, .string ⟨#[]⟩, .int .u32 0, .string ⟨#[]⟩, .string ⟨#[]⟩, .string ⟨#[]⟩, .int .u32 0, .int .u32 0, .int .u32 0, .int .u64 0, .int .i64 0, .int .i64 0], .int .i64 z]) (by simp [results, Tryz.results26, asAddr, hl]) rfl ⟨rfl, ?_⟩
    exact (K1.out.trans hK.out (fun i hi => by cases hi)).trans k4 (fun i hi => Or.inr (by rw [List.mem_singleton] at hi; subst hi; exact NR.out))
end Ru
end Go.Proofs.YtahjmpfjidijaaaGreatDoor
end
