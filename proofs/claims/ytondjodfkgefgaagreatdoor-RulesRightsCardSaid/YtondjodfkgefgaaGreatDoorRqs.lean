/- RulesRights walked. -/
import Derived.Test.YtondjodfkgefgaaGreatDoorRpo
import Derived.Test.YtondjodfkgefgaaGreatDoorRqo
import Derived.Test.YtondjodfkgefgaaGreatDoorRqr
namespace Go.Proofs.YtondjodfkgefgaaGreatDoor
set_option linter.unusedVariables false
open Go.RowKit Go.Shelf
attribute [local go_sem] Oper.semAt_some
namespace Ru
open Go.Proofs.YtondjodfkgefgaaGreatDoor.Utf Go.Proofs.YtondjodfkgefgaaGreatDoor.Txt Go.PlainAid Go.Proofs.YtondjodfkgefgaaGreatDoor.Mpf Go.Proofs.YtondjodfkgefgaaGreatDoor.Us

def Bnd (w : World) (R : Nat) (d : Nd) : Prop := w.heap[R]? = some (.cells #[.int .u64 d.path, .int .u64 d.parent, .string d.name, .int .u32 d.mode, .string d.uid, .string d.gid, .string d.muid, .int .u32 d.atime, .int .u32 d.mtime, .int .u32 d.vers, .int .u64 d.length, .int .i64 d.opens, .int .i64 d.kids] 25 (0, 0))
theorem Bnd.kept {w w' : World} {R : Nat} {d : Nd} (h : Bnd w R d) (k : Kept [] w w') : Bnd w' R d := (k.block R (block_lt h) (by simp)).trans h
theorem Bnd.whole {w : World} {R : Nat} {d : Nd} (h : Bnd w R d) : w.rangeAt R 0 [.int .u64 d.path, .int .u64 d.parent, .string d.name, .int .u32 d.mode, .string d.uid, .string d.gid, .string d.muid, .int .u32 d.atime, .int .u32 d.mtime, .int .u32 d.vers, .int .u64 d.length, .int .i64 d.opens, .int .i64 d.kids] := by
  intro j v hv
  rw [Nat.zero_add, cell_of_row w R j _ _ (0, 0) h]
  simpa using hv
def nd0 : Nd := ⟨0, 0, ⟨#[]⟩, 0, ⟨#[]⟩, ⟨#[]⟩, ⟨#[]⟩, 0, 0, 0, 0, 0, 0⟩
set_option maxHeartbeats 32000000 in
set_option maxRecDepth 100000 in
theorem rights_law (w : World) (hm : Ml w) (text u : ByteArray) (n : Nd) (h0 : text.size ≤ 140737488355328) (h1 : u.size ≤ 140737488355328) (n1 : n.name.size ≤ 140737488355328) (n2 : n.uid.size ≤ 140737488355328) (n3 : n.gid.size ≤ 140737488355328) (n4 : n.muid.size ≤ 140737488355328) (hnm : n.mode < 4294967296) :
    Calls Tryz.prog 3 #[.string text, .string u, .agg #[.int .u64 n.path, .int .u64 n.parent, .string n.name, .int .u32 n.mode, .string n.uid, .string n.gid, .string n.muid, .int .u32 n.atime, .int .u32 n.mtime, .int .u32 n.vers, .int .u64 n.length, .int .i64 n.opens, .int .i64 n.kids]] w fun e w' => e = .returned (.bool true) ∧ Kept [] w w' := by
  have MUC : Hid (∀ w, Calls Tryz.prog 9 #[.agg #[.string text, .string u, .int .u64 n.path, .int .u64 n.parent, .string n.name, .int .u32 n.mode, .string n.uid, .string n.gid, .string n.muid, .int .u32 n.atime, .int .u32 n.mtime, .int .u32 n.vers, .int .u64 n.length, .int .i64 n.opens, .int .i64 n.kids, .int .u64 0, .int .u64 0, .string ⟨#[]⟩, .int .u32 0, .string ⟨#[]⟩, .string ⟨#[]⟩, .string ⟨#[]⟩, .int .u32 0, .int .u32 0, .int .u32 0, .int .u64 0, .int .i64 0, .int .i64 0, .bool false, .bool false, .string ⟨#[]⟩, .int .u32 0, .int .u8 0]] w fun e w' => e = .returned (.int .i64 (weightC text u n nd0 ⟨#[]⟩)) ∧ Kept [] w w') := fun w => much_any w text u n nd0 false false ⟨#[]⟩ 0 0 h0 h1 (by decide) n1 n2 n3 n4 (by decide) (by decide) (by decide) (by decide)
  obtain ⟨wt, hwt⟩ : ∃ wt, wt = weightC text u n nd0 ⟨#[]⟩ := ⟨_, rfl⟩
  rw [← hwt] at MUC
  obtain ⟨w1, hw1⟩ : ∃ w1, w1 = w.alloc (.cells #[.int .u64 n.path, .int .u64 n.parent, .string n.name, .int .u32 n.mode, .string n.uid, .string n.gid, .string n.muid, .int .u32 n.atime, .int .u32 n.mtime, .int .u32 n.vers, .int .u64 n.length, .int .i64 n.opens, .int .i64 n.kids] 25) := ⟨_, rfl⟩
  obtain ⟨R, hR⟩ : ∃ R, R = w.heap.size := ⟨_, rfl⟩
  have K1 : Hid (Kept [] w w1) := by rw [hw1]; exact (Kept.refl _ _).alloc _
  have C1 : Hid (Bnd w1 R n) := by rw [hw1, hR]; exact (MapKept.heap_alloc w _).1
  have HW1 := Lib.hid hw1
  have HR := Lib.hid hR
  have KNO := Lib.hid (fun w' (k : Kept [] w w') => known_any w' (ml_k hm k))
  have TAB := Lib.hid (fun w' (k : Kept [] w w') => tables_any w' text (ml_k hm k) h0)
  have GD := gd_table text
  obtain ⟨T, hT⟩ : ∃ T, T = tableT text := ⟨_, rfl⟩
  rw [← hT] at TAB GD
  clear hT hw1 hR hm
  by_cases hbig : 8388608 < wt
  · have hb : (8388608 : Int) < (wt : Int) := by omega
    clear hbig hwt h0 h1 n1 n2 n3 n4 hnm
    go_enter Tryz.func3, Tryz.ntmps3
    go_wp2_with (go_at_call 9; rw [← HW1.out]; refine (MUC.out _).mono ?_; rintro e w2 ⟨rfl, k2⟩; have K2 : Hid (Kept [] w w2) := K1.out.trans k2 (fun i hi => by cases hi); have C2 := Lib.hid (C1.out.kept k2); clear k2)
    go_ret
    exact ⟨rfl, K2.out⟩
  · have hb : ¬ (8388608 : Int) < (wt : Int) := by omega
    have small : ∀ s : ByteArray, s.size ≤ wt → s.size ≤ maxLen := fun s h => by unfold maxLen; omega
    have su : u.size ≤ maxLen := small u (by rw [hwt]; unfold weightC; omega)
    have sg : n.gid.size ≤ maxLen := small n.gid (by rw [hwt]; unfold weightC; omega)
    clear hbig hwt small h0 h1 n1 n2 n3 n4
    obtain ⟨N13, hN13⟩ : ∃ F : List Value, F = [.int .u64 n.path, .int .u64 n.parent, .string n.name, .int .u32 n.mode, .string n.uid, .string n.gid, .string n.muid, .int .u32 n.atime, .int .u32 n.mtime, .int .u32 n.vers, .int .u64 n.length, .int .i64 n.opens, .int .i64 n.kids] := ⟨_, rfl⟩
    have HL : Hid (N13.length = 13) := by rw [hN13]; rfl
    have HFV : Hid ((Value.agg #[.int .u64 n.path, .int .u64 n.parent, .string n.name, .int .u32 n.mode, .string n.uid, .string n.gid, .string n.muid, .int .u32 n.atime, .int .u32 n.mtime, .int .u32 n.vers, .int .u64 n.length, .int .i64 n.opens, .int .i64 n.kids]) = .agg N13.toArray) := by show _ = _; rw [hN13]
    have FR : Hid (∀ wr, Bnd wr R n → wr.rangeAt R 0 N13) := fun wr b => by rw [hN13]; exact b.whole
    clear hN13
    obtain ⟨z1, hz1⟩ : ∃ z, z = rightsV T u n := ⟨_, rfl⟩
    obtain ⟨z2, hz2⟩ : ∃ z, z = stepE T u n := ⟨_, rfl⟩
    obtain ⟨kd, hkd⟩ : ∃ z, z = (n.mode : Int) / 16777216 := ⟨_, rfl⟩
    obtain ⟨rl, hrl⟩ : ∃ z, z = recLen n := ⟨_, rfl⟩
    have RV : Hid (recV n = #[.int .u16 0, .int .u32 0, .int .u8 kd, .int .u32 n.vers, .int .u64 n.path, .int .u32 n.mode, .int .u32 n.atime, .int .u32 n.mtime, .int .u64 rl, .string n.name, .string n.uid, .string n.gid, .string n.muid]) := by show _ = _; unfold recV; rw [← hkd, ← hrl]
    have HZ1 := Lib.hid hz1
    have HZ2 := Lib.hid hz2
    clear hz1 hz2 hkd hrl
    go_enter Tryz.func3, Tryz.ntmps3
    go_upto_region 7 with (first | (go_at_call 9; rw [← HW1.out]; refine (MUC.out _).mono ?_; rintro e w2 ⟨rfl, k2⟩; have K2 : Hid (Kept [] w w2) := K1.out.trans k2 (fun i hi => by cases hi); have C2 := Lib.hid (C1.out.kept k2); clear k2) | (go_at_call 10; refine (KNO.out _ K2.out).mono ?_; rintro e w3 ⟨rfl, k3⟩; have K3 : Hid (Kept [] w w3) := K2.out.trans k3 (fun i hi => by cases hi); have C3 := Lib.hid (C2.out.kept k3); clear k3) | (go_at_call 11; refine (TAB.out _ K3.out).mono ?_; rintro e w6 ⟨B, pp, qq, rfl, t6, r6, k6⟩; have K6 : Hid (Kept [] w w6) := K3.out.trans k6 (fun i hi => by cases hi); have C6 := Lib.hid (C3.out.kept k6); have T6 := Lib.hid t6; have R6 := Lib.hid r6; clear k6 t6 r6))
    rw [← HR.out]
    have RIG : Hid (∀ w', Kept [] w6 w' → Calls Tryz.prog 12 #[.pointer (some ⟨pp, 0, none⟩), .string u, .agg N13.toArray] w' fun e w'' => e = .returned (.int .u8 z1) ∧ Kept [] w' w'') := fun w' k => by rw [← HFV.out, HZ1.out]; exact rights_t (T6.out.kept k) u n su sg
    have RRI : Hid (∀ w', Kept [] w6 w' → Calls Tryz.prog 13 #[.pointer (some ⟨qq, 0, none⟩), .string u, .agg N13.toArray] w' fun e w'' => e = .returned (.int .u8 z1) ∧ Kept [] w' w'') := fun w' k => by rw [← HFV.out, HZ1.out]; exact rRights_any (R6.out.kept k) GD u n hnm
    have STE : Hid (∀ w', Kept [] w6 w' → Calls Tryz.prog 14 #[.pointer (some ⟨pp, 0, none⟩), .string u, .agg N13.toArray] w' fun e w'' => e = .returned (.int .i64 z2) ∧ Kept [] w' w'') := fun w' k => by rw [← HFV.out, HZ2.out]; exact Step_any (T6.out.kept k) u n su sg
    have RST : Hid (∀ w', Kept [] w6 w' → Calls Tryz.prog 15 #[.pointer (some ⟨qq, 0, none⟩), .string u, .agg N13.toArray] w' fun e w'' => e = .returned (.int .i64 z2) ∧ Kept [] w' w'') := fun w' k => by rw [← HFV.out, HZ2.out]; exact rStep_any (R6.out.kept k) GD u n hnm
    have RCO : Hid (∀ w', Calls Tryz.prog 16 #[.agg N13.toArray] w' fun e w'' => e = .returned (.agg #[.int .u16 0, .int .u32 0, .int .u8 kd, .int .u32 n.vers, .int .u64 n.path, .int .u32 n.mode, .int .u32 n.atime, .int .u32 n.mtime, .int .u64 rl, .string n.name, .string n.uid, .string n.gid, .string n.muid]) ∧ Kept [] w' w'') := fun w' => by rw [← HFV.out, ← RV.out]; exact Record_any w' n hnm
    have RRC : Hid (∀ w', Calls Tryz.prog 17 #[.agg N13.toArray] w' fun e w'' => e = .returned (.agg #[.int .u16 0, .int .u32 0, .int .u8 kd, .int .u32 n.vers, .int .u64 n.path, .int .u32 n.mode, .int .u32 n.atime, .int .u32 n.mtime, .int .u64 rl, .string n.name, .string n.uid, .string n.gid, .string n.muid]) ∧ Kept [] w' w'') := fun w' => by rw [← HFV.out, ← RV.out]; exact rRecord_any w' n hnm
    clear HZ1 HZ2 T6 R6 GD su sg hnm HFV TAB KNO MUC RV HW1 HR
    have KD : Hid (Kept [] w6 w6.drew) := (Kept.refl [] w6).drew
    have CD := Lib.hid (C6.out.kept KD.out)
    have hb := CD.out
    refine wp_region_held (S := fun w' => Bnd w' R n) (by kernel_rfl) ?_
    try (change wpAnyH _ _ _ _ _ _ _ _ (World.drew _))
    refine wpAnyH_take (i := 0) (v := .pointer (some ⟨pp, 0, none⟩)) rfl (by kernel_rfl) (by kernel_rfl) (by kernel_rfl) (fun _ _ _ h => h) (Or.inl ⟨by rfl, fun w _ => by simp [execOp, go_sem]⟩) hb ?_
    refine wpAnyH_take (i := 1) (v := .string u) rfl (by kernel_rfl) (by kernel_rfl) (by kernel_rfl) (fun _ _ _ h => h) (Or.inl ⟨by rfl, fun w _ => by simp [execOp, go_sem]⟩) hb ?_
    refine wpAnyH_take (i := 2) (v := .agg N13.toArray) rfl (by kernel_rfl) (by kernel_rfl) (by kernel_rfl) (fun _ _ _ h => h) (yieldsIf_load_mid (by rfl) 25 (.tmp 5) rfl R 0 (by simp [go_sem]) N13 _ (fun w b => FR.out w b) Tryz.underlying25 rfl (by rw [HL.out]; exact size_n8)) hb ?_
    refine wpAnyH_take (i := 4) (v := .pointer (some ⟨qq, 0, none⟩)) rfl (by kernel_rfl) (by kernel_rfl) (by kernel_rfl) (fun _ _ _ h => h) (Or.inl ⟨by rfl, fun w _ => by simp [execOp, go_sem]⟩) hb ?_
    refine wpAnyH_take (i := 5) (v := .string u) rfl (by kernel_rfl) (by kernel_rfl) (by kernel_rfl) (fun _ _ _ h => h) (Or.inl ⟨by rfl, fun w _ => by simp [execOp, go_sem]⟩) hb ?_
    refine wpAnyH_take (i := 6) (v := .agg N13.toArray) rfl (by kernel_rfl) (by kernel_rfl) (by kernel_rfl) (fun _ _ _ h => h) (yieldsIf_load_mid (by rfl) 25 (.tmp 5) rfl R 0 (by simp [go_sem]) N13 _ (fun w b => FR.out w b) Tryz.underlying25 rfl (by rw [HL.out]; exact size_n8)) hb ?_
    refine wpAnyH_one (i := 3) (by kernel_rfl) ?_
    refine any_callR rfl rfl 12 #[.pointer (some ⟨pp, 0, none⟩), .string u, .agg N13.toArray] (by simp [go_sem]) (RIG.out _ KD.out) ?_
    rintro e w7 ⟨rfl, k7⟩
    have K7 : Hid (Kept [] w6 w7) := KD.out.trans k7 (fun i hi => by cases hi)
    have C7 := Lib.hid (CD.out.kept k7)
    have hb7 := C7.out
    refine ⟨_, rfl, hb7, ?_⟩
    refine wpAnyH_one (i := 7) (by kernel_rfl) ?_
    refine any_callR rfl rfl 13 #[.pointer (some ⟨qq, 0, none⟩), .string u, .agg N13.toArray] (by simp [go_sem]) (RRI.out _ K7.out) ?_
    rintro e w8 ⟨rfl, k8⟩
    have K8 : Hid (Kept [] w6 w8) := K7.out.trans k8 (fun i hi => by cases hi)
    have C8 := Lib.hid (C7.out.kept k8)
    have hb8 := C8.out
    refine ⟨_, rfl, hb8, ?_⟩
    refine wpAnyH_take (i := 8) (v := .bool false) rfl (by kernel_rfl) (by kernel_rfl) (by kernel_rfl) (fun _ _ _ h => h) (Or.inl ⟨by rfl, fun w _ => by simp [execOp, go_sem]⟩) hb8 ?_
    refine wpAnyH_take (i := 9) (v := .bool false) rfl (by kernel_rfl) (by kernel_rfl) (by kernel_rfl) (fun _ _ _ h => h) (Or.inl ⟨by rfl, fun w _ => by simp [execOp, go_sem]⟩) hb8 ?_
    simp [go_sem]
    refine wpAnyH_take (i := 10) (v := .pointer (some ⟨pp, 0, none⟩)) rfl (by kernel_rfl) (by kernel_rfl) (by kernel_rfl) (fun _ _ _ h => h) (Or.inl ⟨by rfl, fun w _ => by simp [execOp, go_sem]⟩) hb8 ?_
    refine wpAnyH_take (i := 11) (v := .string u) rfl (by kernel_rfl) (by kernel_rfl) (by kernel_rfl) (fun _ _ _ h => h) (Or.inl ⟨by rfl, fun w _ => by simp [execOp, go_sem]⟩) hb8 ?_
    simp [go_sem]
    refine wpAnyH_take (i := 12) (v := .agg N13.toArray) rfl (by kernel_rfl) (by kernel_rfl) (by kernel_rfl) (fun _ _ _ h => h) (yieldsIf_load_mid (by rfl) 25 (.tmp 5) rfl R 0 (by simp [go_sem]) N13 _ (fun w b => FR.out w b) Tryz.underlying25 rfl (by rw [HL.out]; exact size_n8)) hb8 ?_
    refine wpAnyH_take (i := 14) (v := .pointer (some ⟨qq, 0, none⟩)) rfl (by kernel_rfl) (by kernel_rfl) (by kernel_rfl) (fun _ _ _ h => h) (Or.inl ⟨by rfl, fun w _ => by simp [execOp, go_sem]⟩) hb8 ?_
    simp [go_sem]
    refine wpAnyH_take (i := 15) (v := .string u) rfl (by kernel_rfl) (by kernel_rfl) (by kernel_rfl) (fun _ _ _ h => h) (Or.inl ⟨by rfl, fun w _ => by simp [execOp, go_sem]⟩) hb8 ?_
    refine wpAnyH_take (i := 16) (v := .agg N13.toArray) rfl (by kernel_rfl) (by kernel_rfl) (by kernel_rfl) (fun _ _ _ h => h) (yieldsIf_load_mid (by rfl) 25 (.tmp 5) rfl R 0 (by simp [go_sem]) N13 _ (fun w b => FR.out w b) Tryz.underlying25 rfl (by rw [HL.out]; exact size_n8)) hb8 ?_
    simp [go_sem]
    refine wpAnyH_one (i := 13) (by kernel_rfl) ?_
    refine any_callG rfl (by rfl) 14 #[.pointer (some ⟨pp, 0, none⟩), .string u, .agg N13.toArray] (by simp [go_sem]) (STE.out _ K8.out) ?_
    rintro e w9 ⟨rfl, k9⟩
    have K9 : Hid (Kept [] w6 w9) := K8.out.trans k9 (fun i hi => by cases hi)
    have C9 := Lib.hid (C8.out.kept k9)
    have hb9 := C9.out
    refine ⟨_, rfl, hb9, ?_⟩
    simp [go_sem]
    refine wpAnyH_one (i := 17) (by kernel_rfl) ?_
    refine any_callG rfl (by rfl) 15 #[.pointer (some ⟨qq, 0, none⟩), .string u, .agg N13.toArray] (by simp [go_sem]) (RST.out _ K9.out) ?_
    rintro e w10 ⟨rfl, k10⟩
    have K10 : Hid (Kept [] w6 w10) := K9.out.trans k10 (fun i hi => by cases hi)
    have C10 := Lib.hid (C9.out.kept k10)
    have hb10 := C10.out
    refine ⟨_, rfl, hb10, ?_⟩
    simp [go_sem]
    refine wpAnyH_take (i := 18) (v := .bool false) rfl (by kernel_rfl) (by kernel_rfl) (by kernel_rfl) (fun _ _ _ h => h) (Or.inl ⟨by rfl, fun w _ => by simp [execOp, go_sem]⟩) hb10 ?_
    simp [go_sem]
    refine wpAnyH_take (i := 19) (v := .bool false) rfl (by kernel_rfl) (by kernel_rfl) (by kernel_rfl) (fun _ _ _ h => h) (Or.inl ⟨by rfl, fun w _ => by simp [execOp, go_sem]⟩) hb10 ?_
    refine wpAnyH_done (by kernel_rfl) ?_ _
    simp [go_sem]
    go_upto_region 9 with fail
    have K11 : Hid (Kept [] w6 w10.drew) := K10.out.drew
    have C11 := Lib.hid (C10.out.kept ((Kept.refl [] w10).drew))
    have hb := C11.out
    refine wp_region_held (S := fun w' => Bnd w' R n) (by kernel_rfl) ?_
    try (change wpAnyH _ _ _ _ _ _ _ _ (World.drew _))
    refine wpAnyH_take (i := 0) (v := .agg N13.toArray) rfl (by kernel_rfl) (by kernel_rfl) (by kernel_rfl) (fun _ _ _ h => h) (yieldsIf_load_mid (by rfl) 25 (.tmp 5) rfl R 0 (by simp [go_sem]) N13 _ (fun w b => FR.out w b) Tryz.underlying25 rfl (by rw [HL.out]; exact size_n8)) hb ?_
    refine wpAnyH_take (i := 2) (v := .agg N13.toArray) rfl (by kernel_rfl) (by kernel_rfl) (by kernel_rfl) (fun _ _ _ h => h) (yieldsIf_load_mid (by rfl) 25 (.tmp 5) rfl R 0 (by simp [go_sem]) N13 _ (fun w b => FR.out w b) Tryz.underlying25 rfl (by rw [HL.out]; exact size_n8)) hb ?_
    refine wpAnyH_one (i := 1) (by kernel_rfl) ?_
    refine any_callR rfl rfl 16 #[.agg N13.toArray] (by simp [go_sem]) (RCO.out _) ?_
    rintro e w12 ⟨rfl, k12⟩
    have K12 : Hid (Kept [] w6 w12) := K11.out.trans k12 (fun i hi => by cases hi)
    have C12 := Lib.hid (C11.out.kept k12)
    have hb12 := C12.out
    refine ⟨_, rfl, hb12, ?_⟩
    refine wpAnyH_one (i := 3) (by kernel_rfl) ?_
    refine any_callR rfl rfl 17 #[.agg N13.toArray] (by simp [go_sem]) (RRC.out _) ?_
    rintro e w13 ⟨rfl, k13⟩
    have K13 : Hid (Kept [] w6 w13) := K12.out.trans k13 (fun i hi => by cases hi)
    have C13 := Lib.hid (C12.out.kept k13)
    have hb13 := C13.out
    refine ⟨_, rfl, hb13, ?_⟩
    simp [go_sem]
    refine wpAnyH_take (i := 4) (v := .bool true) rfl (by kernel_rfl) (by kernel_rfl) (by kernel_rfl) (fun _ _ _ h => h) (Or.inl ⟨by rfl, fun w _ => by simp [execOp, go_sem]⟩) hb13 ?_
    refine wpAnyH_take (i := 5) (v := .bool true) rfl (by kernel_rfl) (by kernel_rfl) (by kernel_rfl) (fun _ _ _ h => h) (Or.inl ⟨by rfl, fun w _ => by simp [execOp, go_sem]⟩) hb13 ?_
    refine wpAnyH_done (by kernel_rfl) ?_ _
    simp [go_sem]
    go_wp2_with fail
    go_ret
    exact ⟨rfl, K6.out.trans K13.out (fun i hi => by cases hi)⟩
end Ru
end Go.Proofs.YtondjodfkgefgaaGreatDoor
