/- The reference's tests of a change: length, group. -/
import Derived.Test.YtahjmpfjidijaaaGreatDoorHRld
import Derived.Test.YtahjmpfjidijaaaGreatDoorHRpo
import Derived.Test.YtahjmpfjidijaaaGreatDoorHRwh
namespace Go.Proofs.YtahjmpfjidijaaaGreatDoor
set_option linter.unusedVariables false
open Go.RowKit Go.Shelf
attribute [local go_sem] Oper.semAt_some
namespace Ru
open Go.Proofs.YtahjmpfjidijaaaGreatDoor.Utf Go.Proofs.YtahjmpfjidijaaaGreatDoor.Txt Go.PlainAid Go.Proofs.YtahjmpfjidijaaaGreatDoor.Mpf Go.Proofs.YtahjmpfjidijaaaGreatDoor.Us

set_option maxHeartbeats 8000000 in
set_option maxRecDepth 100000 in
theorem rLen_any {w : World} {q : Nat} {T : List Acc} (h : Rt w q T) (gd : Gd T) (u : ByteArray) (n : Nd) (hm : n.mode < 4294967296) (ln : Nat) :
    Calls Tryz.prog 74 #[.pointer (some ⟨q, 0, none⟩), .string u, .agg #[.int .u64 n.path, .int .u64 n.parent, .string n.name, .int .u32 n.mode, .string n.uid, .string n.gid, .string n.muid, .int .u32 n.atime, .int .u32 n.mtime, .int .u32 n.vers, .int .u64 n.length, .int .i64 n.opens, .int .i64 n.kids], .int .u64 (ln : Int)] w fun e w' => e = .returned (.int .i64 (rLength T u n ln)) ∧ Kept [] w w' := by
  have MW : Hid (∀ w', Kept [] w w' → Calls Tryz.prog 124 #[.pointer (some ⟨q, 0, none⟩), .string u, .agg #[.int .u64 n.path, .int .u64 n.parent, .string n.name, .int .u32 n.mode, .string n.uid, .string n.gid, .string n.muid, .int .u32 n.atime, .int .u32 n.mtime, .int .u32 n.vers, .int .u64 n.length, .int .i64 n.opens, .int .i64 n.kids], .int .u8 2] w' fun e w'' => e = .returned (.bool (mayV T u n 2)) ∧ Kept [] w' w'') := fun w' k => rmay_any (h.kept k) gd u n hm 2 (by decide) 2 rfl
  obtain ⟨mb, hmb⟩ : ∃ b, b = mayV T u n 2 := ⟨_, rfl⟩
  obtain ⟨dx, hdx⟩ : ∃ b, bits .and .u32 (n.mode : Int) 2147483648 = b := ⟨_, rfl⟩
  obtain ⟨bx, hbx⟩ : ∃ b, bits .and .u32 (n.mode : Int) 1073741824 = b := ⟨_, rfl⟩
  have l1 : ((65536 : Int) < (ln : Int)) = (65536 < ln) := propext ⟨fun h => by omega, fun h => by omega⟩
  have l2 : ((ln : Int) < (n.length : Int)) = (ln < n.length) := propext ⟨fun h => by omega, fun h => by omega⟩
  unfold rLength dirV
  rw [← hmb] at MW ⊢
  rw [hbx, hdx]
  clear hmb h gd hm
  obtain ⟨w1, hw1⟩ : ∃ w1, w1 = w.alloc (.cells #[.int .u64 n.path, .int .u64 n.parent, .string n.name, .int .u32 n.mode, .string n.uid, .string n.gid, .string n.muid, .int .u32 n.atime, .int .u32 n.mtime, .int .u32 n.vers, .int .u64 n.length, .int .i64 n.opens, .int .i64 n.kids] 51) := ⟨_, rfl⟩
  obtain ⟨R, hR⟩ : ∃ R, R = w.heap.size := ⟨_, rfl⟩
  have b1 : w1.heap[R]? = some (.cells #[.int .u64 n.path, .int .u64 n.parent, .string n.name, .int .u32 n.mode, .string n.uid, .string n.gid, .string n.muid, .int .u32 n.atime, .int .u32 n.mtime, .int .u32 n.vers, .int .u64 n.length, .int .i64 n.opens, .int .i64 n.kids] 51 (0, 0)) := by rw [hw1, hR]; exact (MapKept.heap_alloc w _).1
  have K1 : Hid (Kept [] w w1) := by rw [hw1]; exact (Kept.refl _ _).alloc _
  have HW1 := Lib.hid hw1
  have HR := Lib.hid hR
  have B1 := Lib.hid b1
  have CW : Hid (∀ w', Kept [] w1 w' → w'.cell? ⟨R, 3, none⟩ = some (.int .u32 n.mode) ∧ w'.cell? ⟨R, 4, none⟩ = some (.string n.uid) ∧ w'.cell? ⟨R, 5, none⟩ = some (.string n.gid) ∧ w'.cell? ⟨R, 10, none⟩ = some (.int .u64 n.length)) := fun w' k => by
    have c1 := (k.block _ (block_lt b1) (by simp)).trans b1
    refine ⟨?_, ?_, ?_, ?_⟩ <;> (rw [cell_of_row w' R _ _ _ (0, 0) c1]; rfl)
  have WH : Hid (w1.rangeAt R 0 [.int .u64 n.path, .int .u64 n.parent, .string n.name, .int .u32 n.mode, .string n.uid, .string n.gid, .string n.muid, .int .u32 n.atime, .int .u32 n.mtime, .int .u32 n.vers, .int .u64 n.length, .int .i64 n.opens, .int .i64 n.kids]) := fun j v hj => by
    rw [Nat.zero_add, cell_of_row w1 R j _ _ (0, 0) b1]
    simpa using hj
  obtain ⟨a3, a4, a5, a10⟩ := CW.out w1 (Kept.refl _ _)
  clear hw1 hR b1
  go_enter Tryz.func74, Tryz.ntmps74
  go_upto_region 1 with fail
  rw [← HW1.out, ← HR.out]
  go_wp2_with (first | (refine wpList_nmid (by rfl) _ rfl R 0 rfl [.int .u64 n.path, .int .u64 n.parent, .string n.name, .int .u32 n.mode, .string n.uid, .string n.gid, .string n.muid, .int .u32 n.atime, .int .u32 n.mtime, .int .u32 n.vers, .int .u64 n.length, .int .i64 n.opens, .int .i64 n.kids] WH.out rfl ?_) | (go_at_call 124; refine (MW.out _ K1.out).mono ?_; rintro e w2 ⟨rfl, k2⟩; have K2 := Lib.hid (K1.out.trans k2 (fun i hi => by cases hi)); obtain ⟨d3, d4, d5, d10⟩ := CW.out _ k2; clear k2 MW))
  all_goals go_ret
  all_goals first | exact ⟨by simp_all, K2.out⟩ | exact ⟨by simp_all, K1.out⟩
set_option maxHeartbeats 8000000 in
set_option maxRecDepth 100000 in
theorem rGrp_any {w : World} {q : Nat} {T : List Acc} (h : Rt w q T) (gd : Gd T) (u : ByteArray) (n : Nd) (g : ByteArray) :
    Calls Tryz.prog 76 #[.pointer (some ⟨q, 0, none⟩), .string u, .agg #[.int .u64 n.path, .int .u64 n.parent, .string n.name, .int .u32 n.mode, .string n.uid, .string n.gid, .string n.muid, .int .u32 n.atime, .int .u32 n.mtime, .int .u32 n.vers, .int .u64 n.length, .int .i64 n.opens, .int .i64 n.kids], .string g] w fun e w' => e = .returned (.int .i64 (rGid T u n g)) ∧ Kept [] w w' := by
  have KN := Lib.hid (fun w' (k : Kept [] w w') => rKnown_any (h.kept k) g)
  have ME := Lib.hid (fun w' (k : Kept [] w w') => rMember_any (h.kept k) gd u g)
  have LD := Lib.hid (fun w' (k : Kept [] w w') => rLeads_any (h.kept k) gd u n.gid)
  have LG := Lib.hid (fun w' (k : Kept [] w w') => rLeads_any (h.kept k) gd u g)
  have BQ := beq_str u n.uid
  unfold rGid giveV
  obtain ⟨kb, hkb⟩ : ∃ b, b = known T g := ⟨_, rfl⟩
  obtain ⟨mb, hmb⟩ : ∃ b, b = member T u g := ⟨_, rfl⟩
  obtain ⟨lb, hlb⟩ : ∃ b, b = leads T u n.gid := ⟨_, rfl⟩
  obtain ⟨lg, hlg⟩ : ∃ b, b = leads T u g := ⟨_, rfl⟩
  obtain ⟨ob, hob⟩ : ∃ b, b = decide (u = n.uid) := ⟨_, rfl⟩
  rw [← hkb] at KN ⊢
  rw [← hlb] at LD ⊢
  rw [← hlg] at LG ⊢
  rw [← hmb] at ME ⊢
  rw [← hob] at BQ ⊢
  clear h gd hkb hmb hlb hlg hob
  obtain ⟨w1, hw1⟩ : ∃ w1, w1 = w.alloc (.cells #[.int .u64 n.path, .int .u64 n.parent, .string n.name, .int .u32 n.mode, .string n.uid, .string n.gid, .string n.muid, .int .u32 n.atime, .int .u32 n.mtime, .int .u32 n.vers, .int .u64 n.length, .int .i64 n.opens, .int .i64 n.kids] 51) := ⟨_, rfl⟩
  obtain ⟨R, hR⟩ : ∃ R, R = w.heap.size := ⟨_, rfl⟩
  have b1 : w1.heap[R]? = some (.cells #[.int .u64 n.path, .int .u64 n.parent, .string n.name, .int .u32 n.mode, .string n.uid, .string n.gid, .string n.muid, .int .u32 n.atime, .int .u32 n.mtime, .int .u32 n.vers, .int .u64 n.length, .int .i64 n.opens, .int .i64 n.kids] 51 (0, 0)) := by rw [hw1, hR]; exact (MapKept.heap_alloc w _).1
  have K1 : Hid (Kept [] w w1) := by rw [hw1]; exact (Kept.refl _ _).alloc _
  have HW1 := Lib.hid hw1
  have HR := Lib.hid hR
  have B1 := Lib.hid b1
  have CW : Hid (∀ w', Kept [] w1 w' → w'.cell? ⟨R, 3, none⟩ = some (.int .u32 n.mode) ∧ w'.cell? ⟨R, 4, none⟩ = some (.string n.uid) ∧ w'.cell? ⟨R, 5, none⟩ = some (.string n.gid) ∧ w'.cell? ⟨R, 10, none⟩ = some (.int .u64 n.length)) := fun w' k => by
    have c1 := (k.block _ (block_lt b1) (by simp)).trans b1
    refine ⟨?_, ?_, ?_, ?_⟩ <;> (rw [cell_of_row w' R _ _ _ (0, 0) c1]; rfl)
  have WH : Hid (w1.rangeAt R 0 [.int .u64 n.path, .int .u64 n.parent, .string n.name, .int .u32 n.mode, .string n.uid, .string n.gid, .string n.muid, .int .u32 n.atime, .int .u32 n.mtime, .int .u32 n.vers, .int .u64 n.length, .int .i64 n.opens, .int .i64 n.kids]) := fun j v hj => by
    rw [Nat.zero_add, cell_of_row w1 R j _ _ (0, 0) b1]
    simpa using hj
  obtain ⟨a3, a4, a5, a10⟩ := CW.out w1 (Kept.refl _ _)
  clear hw1 hR b1
  cases kb <;> cases ob <;> cases mb <;> cases lb <;> cases lg
  all_goals
    go_enter Tryz.func76, Tryz.ntmps76
    go_upto_region 1 with fail
    rw [← HW1.out, ← HR.out]
    go_wp2_with (first
      | (go_at_call 104; refine (KN.out _ K1.out).mono ?_; rintro e w2 ⟨rfl, rfl⟩; clear KN)
      | (go_at_call 106; refine (ME.out _ K1.out).mono ?_; rintro e w2 ⟨rfl, rfl⟩; clear ME)
      | (go_at_call 73; refine (LD.out _ K1.out).mono ?_; rintro e w2 ⟨rfl, rfl⟩; clear LD)
      | (go_at_call 73; refine (LG.out _ K1.out).mono ?_; rintro e w2 ⟨rfl, rfl⟩; clear LG))
    go_ret
    exact ⟨by simp, K1.out⟩
end Ru
end Go.Proofs.YtahjmpfjidijaaaGreatDoor
