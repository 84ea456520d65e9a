/- The reference's tests of a change: mode, name. -/
import Derived.Test.YtahjmpfjidijaaaGreatDoorGan
import Derived.Test.YtahjmpfjidijaaaGreatDoorHRld
import Derived.Test.YtahjmpfjidijaaaGreatDoorHRpo
import Derived.Test.YtahjmpfjidijaaaGreatDoorHRwh
namespace Go.Proofs.YtahjmpfjidijaaaGreatDoor
set_option linter.unusedVariables false
open Go.RowKit Go.Shelf
attribute [local go_sem] Oper.semAt_some
namespace Ru
open Go.Proofs.YtahjmpfjidijaaaGreatDoor.Utf Go.Proofs.YtahjmpfjidijaaaGreatDoor.Txt Go.PlainAid Go.Proofs.YtahjmpfjidijaaaGreatDoor.Mpf Go.Proofs.YtahjmpfjidijaaaGreatDoor.Us

theorem xor_and_iff (a b d : Int) : (bits .and .u32 (bits .xor .u32 a b) d ≠ 0) = (bits .and .u32 a d ≠ bits .and .u32 b d) := by
  rw [xor32, and32, B32_toNat, and32, and32]
  refine propext (not_congr ?_)
  rw [cast_zero, zero_iff]
  have e : (((B32 a &&& B32 d).toNat : Int) = ((B32 b &&& B32 d).toNat : Int)) ↔ (B32 a &&& B32 d) = (B32 b &&& B32 d) := ⟨fun h => BitVec.eq_of_toNat_eq (by omega), fun h => by rw [h]⟩
  rw [e]
  constructor
  · intro h
    refine BitVec.eq_of_getLsbD_eq (fun i hi => ?_)
    have := h i
    simp only [BitVec.getLsbD_and, BitVec.getLsbD_xor] at this ⊢
    revert this
    cases (B32 a).getLsbD i <;> cases (B32 b).getLsbD i <;> cases (B32 d).getLsbD i <;> simp
  · intro h i
    have := congrArg (fun v => v.getLsbD i) h
    simp only [BitVec.getLsbD_and, BitVec.getLsbD_xor] at this ⊢
    revert this
    cases (B32 a).getLsbD i <;> cases (B32 b).getLsbD i <;> cases (B32 d).getLsbD i <;> simp
set_option maxHeartbeats 8000000 in
set_option maxRecDepth 100000 in
theorem rMod_any {w : World} {q : Nat} {T : List Acc} (h : Rt w q T) (gd : Gd T) (u : ByteArray) (n : Nd) (mo : Nat) :
    Calls Tryz.prog 72 #[.pointer (some ⟨q, 0, none⟩), .string u, .agg #[.int .u64 n.path, .int .u64 n.parent, .string n.name, .int .u32 n.mode, .string n.uid, .string n.gid, .string n.muid, .int .u32 n.atime, .int .u32 n.mtime, .int .u32 n.vers, .int .u64 n.length, .int .i64 n.opens, .int .i64 n.kids], .int .u32 (mo : Int)] w fun e w' => e = .returned (.int .i64 (rMode T u n mo)) ∧ Kept [] w w' := by
  have LD := Lib.hid (fun w' (k : Kept [] w w') => rLeads_any (h.kept k) gd u n.gid)
  have PE : Hid (∀ w', Calls Tryz.prog 123 #[.int .u32 (mo : Int)] w' fun e w'' => e = .returned (.int .i64 (permE (mo : Int))) ∧ w' = w'') := fun w' => rPerm_any w' _
  have BQ := beq_str u n.uid
  unfold rMode govV
  simp only [xor_and_iff]
  obtain ⟨lb, hlb⟩ : ∃ b, b = leads T u n.gid := ⟨_, rfl⟩
  obtain ⟨ob, hob⟩ : ∃ b, b = decide (u = n.uid) := ⟨_, rfl⟩
  obtain ⟨pe, hpe⟩ : ∃ b, b = permE (mo : Int) := ⟨_, rfl⟩
  obtain ⟨ax, hax⟩ : ∃ b, bits .and .u32 (mo : Int) 2147483648 = b := ⟨_, rfl⟩
  obtain ⟨bx, hbx⟩ : ∃ b, bits .and .u32 (n.mode : Int) 2147483648 = b := ⟨_, rfl⟩
  rw [← hlb] at LD ⊢
  rw [← hob] at BQ ⊢
  rw [← hpe] at PE ⊢
  rw [hax, hbx]
  clear h gd hlb hob hpe
  obtain ⟨w1, hw1⟩ : ∃ w1, w1 = w.alloc (.cells #[.int .u64 n.path, .int .u64 n.parent, .string n.name, .int .u32 n.mode, .string n.uid, .string n.gid, .string n.muid, .int .u32 n.atime, .int .u32 n.mtime, .int .u32 n.vers, .int .u64 n.length, .int .i64 n.opens, .int .i64 n.kids] 51) := ⟨_, rfl⟩
  obtain ⟨R, hR⟩ : ∃ R, R = w.heap.size := ⟨_, rfl⟩
  have b1 : w1.heap[R]? = some (.cells #[.int .u64 n.path, .int .u64 n.parent, .string n.name, .int .u32 n.mode, .string n.uid, .string n.gid, .string n.muid, .int .u32 n.atime, .int .u32 n.mtime, .int .u32 n.vers, .int .u64 n.length, .int .i64 n.opens, .int .i64 n.kids] 51 (0, 0)) := by rw [hw1, hR]; exact (MapKept.heap_alloc w _).1
  have K1 : Hid (Kept [] w w1) := by rw [hw1]; exact (Kept.refl _ _).alloc _
  have HW1 := Lib.hid hw1
  have HR := Lib.hid hR
  have B1 := Lib.hid b1
  have CW : Hid (∀ w', Kept [] w1 w' → w'.cell? ⟨R, 3, none⟩ = some (.int .u32 n.mode) ∧ w'.cell? ⟨R, 4, none⟩ = some (.string n.uid) ∧ w'.cell? ⟨R, 5, none⟩ = some (.string n.gid) ∧ w'.cell? ⟨R, 10, none⟩ = some (.int .u64 n.length)) := fun w' k => by
    have c1 := (k.block _ (block_lt b1) (by simp)).trans b1
    refine ⟨?_, ?_, ?_, ?_⟩ <;> (rw [cell_of_row w' R _ _ _ (0, 0) c1]; rfl)
  have WH : Hid (w1.rangeAt R 0 [.int .u64 n.path, .int .u64 n.parent, .string n.name, .int .u32 n.mode, .string n.uid, .string n.gid, .string n.muid, .int .u32 n.atime, .int .u32 n.mtime, .int .u32 n.vers, .int .u64 n.length, .int .i64 n.opens, .int .i64 n.kids]) := fun j v hj => by
    rw [Nat.zero_add, cell_of_row w1 R j _ _ (0, 0) b1]
    simpa using hj
  obtain ⟨a3, a4, a5, a10⟩ := CW.out w1 (Kept.refl _ _)
  clear hw1 hR b1
  cases ob <;> cases lb
  all_goals
    go_enter Tryz.func72, Tryz.ntmps72
    go_upto_region 1 with fail
    rw [← HW1.out, ← HR.out]
    go_wp2_with (first
      | (go_at_call 73; refine (LD.out _ K1.out).mono ?_; rintro e w2 ⟨rfl, rfl⟩; clear LD)
      | (go_at_call 123; refine (PE.out _).mono ?_; rintro e w2 ⟨rfl, rfl⟩; clear PE))
    all_goals go_ret
    all_goals exact ⟨by simp_all, K1.out⟩
set_option maxHeartbeats 8000000 in
set_option maxRecDepth 100000 in
theorem rCall_any {w : World} {q : Nat} {T : List Acc} (h : Rt w q T) (gd : Gd T) (u : ByteArray) (n p : Nd) (tk fl : Bool) (hm : p.mode < 4294967296) (nm : ByteArray) (hnm : nm.size ≤ 140737488355328) :
    Calls Tryz.prog 75 #[.pointer (some ⟨q, 0, none⟩), .string u, .agg #[.int .u64 n.path, .int .u64 n.parent, .string n.name, .int .u32 n.mode, .string n.uid, .string n.gid, .string n.muid, .int .u32 n.atime, .int .u32 n.mtime, .int .u32 n.vers, .int .u64 n.length, .int .i64 n.opens, .int .i64 n.kids, .int .u64 p.path, .int .u64 p.parent, .string p.name, .int .u32 p.mode, .string p.uid, .string p.gid, .string p.muid, .int .u32 p.atime, .int .u32 p.mtime, .int .u32 p.vers, .int .u64 p.length, .int .i64 p.opens, .int .i64 p.kids, .bool tk, .bool fl], .string nm] w fun e w' => e = .returned (.int .i64 (rName T u n p tk nm)) ∧ Kept [] w w' := by
  have CK : Hid (∀ w', Kept [] w w' → Calls Tryz.prog 125 #[.string nm] w' fun e w'' => e = .returned (.int .i64 (if Nm.chk nm = true then 0 else 50)) ∧ Kept [] w' w'') := fun w' _ => Nm.rcheck_any w' nm hnm
  have MW : Hid (∀ w', Kept [] w w' → Calls Tryz.prog 124 #[.pointer (some ⟨q, 0, none⟩), .string u, .agg #[.int .u64 p.path, .int .u64 p.parent, .string p.name, .int .u32 p.mode, .string p.uid, .string p.gid, .string p.muid, .int .u32 p.atime, .int .u32 p.mtime, .int .u32 p.vers, .int .u64 p.length, .int .i64 p.opens, .int .i64 p.kids], .int .u8 2] w' fun e w'' => e = .returned (.bool (mayV T u p 2)) ∧ Kept [] w' w'') := fun w' k => rmay_any (h.kept k) gd u p hm 2 (by decide) 2 rfl
  obtain ⟨cb, hcb⟩ : ∃ b, b = Nm.chk nm := ⟨_, rfl⟩
  obtain ⟨mb, hmb⟩ : ∃ b, b = mayV T u p 2 := ⟨_, rfl⟩
  have hr2 : ((n.path : Int) = 1) = (n.path = 1) := propext ⟨fun h => by omega, fun h => by omega⟩
  unfold rName
  rw [← hcb] at CK ⊢
  rw [← hmb] at MW ⊢
  obtain ⟨ck, hck⟩ : ∃ c : Int, c = if cb = true then 0 else 50 := ⟨_, rfl⟩
  rw [← hck] at CK
  have hc2 : (cb = false) = (¬ ck = 0) := by rw [hck]; cases cb <;> simp
  simp only [hc2, ← hr2]
  clear hcb hmb hck hc2 h gd hm hr2
  obtain ⟨w1, hw1⟩ : ∃ w1, w1 = w.alloc (.cells #[.int .u64 n.path, .int .u64 n.parent, .string n.name, .int .u32 n.mode, .string n.uid, .string n.gid, .string n.muid, .int .u32 n.atime, .int .u32 n.mtime, .int .u32 n.vers, .int .u64 n.length, .int .i64 n.opens, .int .i64 n.kids, .int .u64 p.path, .int .u64 p.parent, .string p.name, .int .u32 p.mode, .string p.uid, .string p.gid, .string p.muid, .int .u32 p.atime, .int .u32 p.mtime, .int .u32 p.vers, .int .u64 p.length, .int .i64 p.opens, .int .i64 p.kids, .bool tk, .bool fl] 53) := ⟨_, rfl⟩
  obtain ⟨R, hR⟩ : ∃ R, R = w.heap.size := ⟨_, rfl⟩
  have b1 : Bf w1 R n p tk fl := by rw [hw1, hR]; exact (MapKept.heap_alloc w _).1
  have K1 : Hid (Kept [] w w1) := by rw [hw1]; exact (Kept.refl _ _).alloc _
  have HW1 := Lib.hid hw1
  have HR := Lib.hid hR
  have CW : Hid (∀ w', Kept [] w1 w' → w'.cell? ⟨R, 0, none⟩ = some (.int .u64 n.path) ∧ w'.cell? ⟨R, 26, none⟩ = some (.bool tk) ∧ w'.rangeAt R 13 [.int .u64 p.path, .int .u64 p.parent, .string p.name, .int .u32 p.mode, .string p.uid, .string p.gid, .string p.muid, .int .u32 p.atime, .int .u32 p.mtime, .int .u32 p.vers, .int .u64 p.length, .int .i64 p.opens, .int .i64 p.kids]) := fun w' k => by
    have c1 := b1.kept k (by simp)
    refine ⟨?_, ?_, fun j v hj => ?_⟩
    · rw [cell_of_row w' R _ _ _ (0, 0) c1]; rfl
    · rw [cell_of_row w' R _ _ _ (0, 0) c1]; rfl
    · rw [cell_of_row w' R _ _ _ (0, 0) c1]
      have : j < 13 := by
        have := (List.getElem?_eq_some_iff.1 hj).1
        simpa using this
      rcases (by omega : j = 0 ∨ j = 1 ∨ j = 2 ∨ j = 3 ∨ j = 4 ∨ j = 5 ∨ j = 6 ∨ j = 7 ∨ j = 8 ∨ j = 9 ∨ j = 10 ∨ j = 11 ∨ j = 12) with rfl | rfl | rfl | rfl | rfl | rfl | rfl | rfl | rfl | rfl | rfl | rfl | rfl <;> exact hj
  clear hw1 hR b1
  obtain ⟨rb, hrb⟩ : ∃ b, b = ((n.path : Int) == 1) := ⟨_, rfl⟩
  have HP : Hid (((n.path : Int) = 1) = (rb = true)) := by show _ = _; rw [hrb]; exact propext ⟨fun h => by simp [h], fun h => by simpa using h⟩
  have hrb2 := hrb.symm
  clear hrb
  cases rb
  all_goals
    go_enter Tryz.func75, Tryz.ntmps75
    go_upto_region 1 with fail
    rw [← HW1.out, ← HR.out]
    go_wp2_with (first
      | (refine wpList_nmid (by rfl) _ rfl R 13 rfl [.int .u64 p.path, .int .u64 p.parent, .string p.name, .int .u32 p.mode, .string p.uid, .string p.gid, .string p.muid, .int .u32 p.atime, .int .u32 p.mtime, .int .u32 p.vers, .int .u64 p.length, .int .i64 p.opens, .int .i64 p.kids] D2.out rfl ?_)
      | (go_at_call 125; refine (CK.out _ K1.out).mono ?_; rintro e w2 ⟨rfl, k2⟩; have K2 := Lib.hid (K1.out.trans k2 (fun i hi => by cases hi)); obtain ⟨d0, d26, d13⟩ := CW.out _ k2; have D2 := Lib.hid d13; have T2 := Lib.hid k2; clear k2 d13 CK)
      | (go_at_call 124; refine (MW.out _ K2.out).mono ?_; rintro e w3 ⟨rfl, k3⟩; have K3 := Lib.hid (K2.out.trans k3 (fun i hi => by cases hi)); obtain ⟨f0, f26, f13⟩ := CW.out _ (T2.out.trans k3 (fun i hi => by cases hi)); clear k3 f13 MW))
    all_goals go_ret
    all_goals first | exact ⟨by have := HP.out; simp_all, K3.out⟩ | exact ⟨by have := HP.out; simp_all, K2.out⟩
end Ru
end Go.Proofs.YtahjmpfjidijaaaGreatDoor
