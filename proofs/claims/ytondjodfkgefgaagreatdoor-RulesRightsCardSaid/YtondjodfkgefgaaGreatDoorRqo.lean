/- RulesOpens walked. -/
import Derived.Test.YtondjodfkgefgaaGreatDoorRpo
import Derived.Test.YtondjodfkgefgaaGreatDoorRcs
import Derived.Test.YtondjodfkgefgaaGreatDoorRmo
namespace Go.Proofs.YtondjodfkgefgaaGreatDoor
set_option linter.unusedVariables false
open Go.RowKit Go.Shelf
attribute [local go_sem] Oper.semAt_some
namespace Ru
open Go.Proofs.YtondjodfkgefgaaGreatDoor.Utf Go.Proofs.YtondjodfkgefgaaGreatDoor.Txt Go.PlainAid Go.Proofs.YtondjodfkgefgaaGreatDoor.Mpf Go.Proofs.YtondjodfkgefgaaGreatDoor.Us

theorem any_callG {P : Program} {ops : Array Oper} {Q : Exit → Act → World → Prop} {K : Act → World → Prop} {a : Act} {w : World} {o : Oper} {i : Nat} (hi : ops[i]? = some o) (hg : Region.wanted o (yielded ops a.tmps) = true) (f : FuncId) (args : Array Value) (hrun : (execOp a.eval o).run P w = .ok (.enter f args) w) {R : Ending → World → Prop} (hc : Calls P f args w R)
    (hR : ∀ e w', R e w' → ∃ v, e = .returned v ∧ K (a.put o.dst v) w') : wpOp P ops Q i K a w := by
  unfold wpOp
  rw [hi]
  simp only [hg, if_true]
  refine Or.inl ?_
  unfold Oper.wp
  rw [hrun, Oper.upon_enter]
  exact hc.mono fun e w' r => by obtain ⟨v, rfl, hk⟩ := hR e w' r; exact hk
set_option maxHeartbeats 32000000 in
set_option maxRecDepth 100000 in
theorem opens_law (w : World) (hm : Ml w) (text u : ByteArray) (n p : Nd) (tk fl : Bool) (name : ByteArray) (pm : Int) (mode : Nat) (h0 : text.size ≤ 140737488355328) (h1 : u.size ≤ 140737488355328) (h2 : name.size ≤ 140737488355328) (n1 : n.name.size ≤ 140737488355328) (n2 : n.uid.size ≤ 140737488355328) (n3 : n.gid.size ≤ 140737488355328) (n4 : n.muid.size ≤ 140737488355328) (p1 : p.name.size ≤ 140737488355328) (p2 : p.uid.size ≤ 140737488355328) (p3 : p.gid.size ≤ 140737488355328) (p4 : p.muid.size ≤ 140737488355328) (hmo : mode < 256) (hnm : n.mode < 4294967296) (hpm : p.mode < 4294967296) :
    Calls Tryz.prog 4 #[.agg #[.string text, .string u, .int .u64 n.path, .int .u64 n.parent, .string n.name, .int .u32 n.mode, .string n.uid, .string n.gid, .string n.muid, .int .u32 n.atime, .int .u32 n.mtime, .int .u32 n.vers, .int .u64 n.length, .int .i64 n.opens, .int .i64 n.kids, .int .u64 p.path, .int .u64 p.parent, .string p.name, .int .u32 p.mode, .string p.uid, .string p.gid, .string p.muid, .int .u32 p.atime, .int .u32 p.mtime, .int .u32 p.vers, .int .u64 p.length, .int .i64 p.opens, .int .i64 p.kids, .bool tk, .bool fl, .string name, .int .u32 pm, .int .u8 (mode : Int)]] w fun e w' => e = .returned (.bool true) ∧ Kept [] w w' := by
  obtain ⟨V, hV⟩ : ∃ V : Array Value, V = #[.string text, .string u, .int .u64 n.path, .int .u64 n.parent, .string n.name, .int .u32 n.mode, .string n.uid, .string n.gid, .string n.muid, .int .u32 n.atime, .int .u32 n.mtime, .int .u32 n.vers, .int .u64 n.length, .int .i64 n.opens, .int .i64 n.kids, .int .u64 p.path, .int .u64 p.parent, .string p.name, .int .u32 p.mode, .string p.uid, .string p.gid, .string p.muid, .int .u32 p.atime, .int .u32 p.mtime, .int .u32 p.vers, .int .u64 p.length, .int .i64 p.opens, .int .i64 p.kids, .bool tk, .bool fl, .string name, .int .u32 pm, .int .u8 mode] := ⟨_, rfl⟩
  have HVS : Hid (V.size = 33) := by rw [hV]; rfl
  rw [← hV]
  have MUC : Hid (∀ w, Calls Tryz.prog 9 #[.agg V] w fun e w' => e = .returned (.int .i64 (weightC text u n p name)) ∧ Kept [] w w') := fun w => by rw [hV]; exact much_any w text u n p tk fl name pm mode h0 h1 h2 n1 n2 n3 n4 p1 p2 p3 p4
  obtain ⟨wt, hwt⟩ : ∃ wt, wt = weightC text u n p name := ⟨_, rfl⟩
  rw [← hwt] at MUC
  have B0 : Hid ((w.alloc (.cells V 30)).heap[w.heap.size]? = some (.cells V 30 (0, 0))) := (MapKept.heap_alloc w _).1
  obtain ⟨w1, hw1⟩ : ∃ w1, w1 = w.alloc (.cells V 30) := ⟨_, rfl⟩
  obtain ⟨R, hR⟩ : ∃ R, R = w.heap.size := ⟨_, rfl⟩
  have K1 : Hid (Kept [] w w1) := by rw [hw1]; exact (Kept.refl _ _).alloc _
  have C1 : Hid (Bc w1 R text u n p tk fl name pm mode) := by
    have := B0.out
    rw [← hw1, ← hR, hV] at this
    exact this
  have NRW : Hid (w.heap.size ≤ R) := by show _ ≤ _; omega
  have HW1 := Lib.hid hw1
  have HR := Lib.hid hR
  have KNO := Lib.hid (fun w' (k : Kept [] w w') => known_any w' (ml_kept hm k))
  have TAB := Lib.hid (fun w' (k : Kept [] w w') => tables_any w' text (ml_kept hm k) h0)
  have GD := gd_table text
  obtain ⟨T, hT⟩ : ∃ T, T = tableT text := ⟨_, rfl⟩
  rw [← hT] at TAB GD
  clear hT hw1 hR hm hV
  by_cases hbig : 8388608 < wt
  · have hb : (8388608 : Int) < (wt : Int) := by omega
    clear hbig hwt h0 h1 h2 n1 n2 n3 n4 p1 p2 p3 p4
    go_enter Tryz.func4, Tryz.ntmps4
    go_wp2_with (first | (refine wpList_cmid (by rfl) (.tmp 1) rfl w.heap.size rfl V B0.out HVS.out ?_) | (go_at_call 9; rw [← HW1.out, ← HR.out]; refine (MUC.out _).mono ?_; rintro e w2 ⟨rfl, k2⟩))
    go_ret
    exact ⟨rfl, K1.out.trans k2 (fun i hi => by cases hi)⟩
  · have hb : ¬ (8388608 : Int) < (wt : Int) := by omega
    have small : ∀ s : ByteArray, s.size ≤ wt → s.size ≤ maxLen := fun s h => by unfold maxLen; omega
    have su : u.size ≤ maxLen := small u (by rw [hwt]; unfold weightC; omega)
    have sg : n.gid.size ≤ maxLen := small n.gid (by rw [hwt]; unfold weightC; omega)
    have sp : p.gid.size ≤ maxLen := small p.gid (by rw [hwt]; unfold weightC; omega)
    clear hbig hwt small h0 h1 h2 n1 n2 n3 n4 p1 p2 p3 p4
    obtain ⟨F28, hF28⟩ : ∃ F : List Value, F = [.int .u64 n.path, .int .u64 n.parent, .string n.name, .int .u32 n.mode, .string n.uid, .string n.gid, .string n.muid, .int .u32 n.atime, .int .u32 n.mtime, .int .u32 n.vers, .int .u64 n.length, .int .i64 n.opens, .int .i64 n.kids, .int .u64 p.path, .int .u64 p.parent, .string p.name, .int .u32 p.mode, .string p.uid, .string p.gid, .string p.muid, .int .u32 p.atime, .int .u32 p.mtime, .int .u32 p.vers, .int .u64 p.length, .int .i64 p.opens, .int .i64 p.kids, .bool tk, .bool fl] := ⟨_, rfl⟩
    have HL : Hid (F28.length = 28) := by rw [hF28]; rfl
    have hFV : factsV n p tk fl = .agg F28.toArray := by rw [hF28]; rfl
    have FR : Hid (∀ wr, Bc wr R text u n p tk fl name pm mode → wr.rangeAt R 2 F28) := fun wr b => by rw [hF28]; exact b.facts
    obtain ⟨z1, hz1⟩ : ∃ z, z = openE T u n p mode := ⟨_, rfl⟩
    obtain ⟨z2, hz2⟩ : ∃ z, z = removeE T u n p := ⟨_, rfl⟩
    go_enter Tryz.func4, Tryz.ntmps4
    go_upto_region 7 with (first | (refine wpList_cmid (by rfl) (.tmp 1) rfl w.heap.size rfl V B0.out HVS.out ?_) | (go_at_call 9; rw [← HW1.out, ← HR.out]; refine (MUC.out _).mono ?_; rintro e w2 ⟨rfl, k2⟩; have K2 : Hid (Kept [] w w2) := K1.out.trans k2 (fun i hi => by cases hi); have C2 := Lib.hid (C1.out.kept k2 (by simp)); obtain ⟨x0, x1, x30, x31, x32⟩ := C2.out.five; clear k2) | (go_at_call 10; refine (KNO.out _ K2.out).mono ?_; rintro e w3 ⟨rfl, k3⟩; clear x0 x1 x30 x31 x32; have K3 : Hid (Kept [] w w3) := K2.out.trans k3 (fun i hi => by cases hi); have C3 := Lib.hid (C2.out.kept k3 (by simp)); obtain ⟨x0, x1, x30, x31, x32⟩ := C3.out.five; clear k3) | (go_at_call 11; refine (TAB.out _ K3.out).mono ?_; rintro e w6 ⟨B, pp, qq, rfl, t6, r6, k6⟩; clear x0 x1 x30 x31 x32; have K6 : Hid (Kept [] w w6) := K3.out.trans k6 (fun i hi => by cases hi); have C6 := Lib.hid (C3.out.kept k6 (by simp)); have T6 := Lib.hid t6; have R6 := Lib.hid r6; clear k6 t6 r6))
    have OPN : Hid (∀ w', Kept [] w6 w' → Calls Tryz.prog 18 #[.pointer (some ⟨pp, 0, none⟩), .string u, .agg F28.toArray, .int .u8 mode] w' fun e w'' => e = .returned (.int .i64 z1) ∧ Kept [] w' w'') := fun w' k => by rw [← hFV, hz1]; exact Open_any (T6.out.kept k) u n p tk fl mode su sg sp
    have ROP : Hid (∀ w', Kept [] w6 w' → Calls Tryz.prog 19 #[.pointer (some ⟨qq, 0, none⟩), .string u, .agg F28.toArray, .int .u8 mode] w' fun e w'' => e = .returned (.int .i64 z1) ∧ Kept [] w' w'') := fun w' k => by rw [← hFV, hz1]; exact rOpen_any (R6.out.kept k) GD u n p tk fl mode hmo hnm hpm
    have REM : Hid (∀ w', Kept [] w6 w' → Calls Tryz.prog 20 #[.pointer (some ⟨pp, 0, none⟩), .string u, .agg F28.toArray] w' fun e w'' => e = .returned (.int .i64 z2) ∧ Kept [] w' w'') := fun w' k => by rw [← hFV, hz2]; exact Remove_any (T6.out.kept k) u n p tk fl su sp
    have RRE : Hid (∀ w', Kept [] w6 w' → Calls Tryz.prog 21 #[.pointer (some ⟨qq, 0, none⟩), .string u, .agg F28.toArray] w' fun e w'' => e = .returned (.int .i64 z2) ∧ Kept [] w' w'') := fun w' k => by rw [← hFV, hz2]; exact rRemove_any (R6.out.kept k) GD u n p tk fl hpm
    have CLS : Hid (∀ w', Kept [] w6 w' → Calls Tryz.prog 22 #[.pointer (some ⟨pp, 0, none⟩), .string u, .agg F28.toArray] w' fun e w'' => e = .returned (.bool (z2 == 0)) ∧ Kept [] w' w'') := fun w' k => by rw [← hFV, hz2]; exact Closes_any (T6.out.kept k) u n p tk fl su sp
    have RCL : Hid (∀ w', Kept [] w6 w' → Calls Tryz.prog 23 #[.pointer (some ⟨qq, 0, none⟩), .string u, .agg F28.toArray] w' fun e w'' => e = .returned (.bool (z2 == 0)) ∧ Kept [] w' w'') := fun w' k => by rw [← hFV, hz2]; exact rCloses_any (R6.out.kept k) GD u n p tk fl hpm
    obtain ⟨z3, hz3⟩ : ∃ z, z = (z2 == 0) := ⟨_, rfl⟩
    rw [← hz3] at CLS RCL
    clear hz1 hz2 hz3 T6 R6 GD su sg sp hnm hpm hmo hF28 hFV TAB KNO MUC B0 HVS
    have K60 : Hid (Kept [] w6 w6) := Kept.refl _ _
    have KW6 := K6
    have hb0 := C6.out
    have hb := C6.out.kept ((Kept.refl [] w6).drew) (by simp)
    refine wp_region_held (S := fun w' => Bc w' R text u n p tk fl name pm mode) (by kernel_rfl) ?_
    try (change wpAnyH _ _ _ _ _ _ _ _ (World.drew _))
    have KD : Hid (Kept [] w6 w6.drew) := (Kept.refl [] w6).drew
    have CD := Lib.hid hb
    refine wpAnyH_take (i := 0) (v := .pointer (some ⟨pp, 0, none⟩)) rfl (by kernel_rfl) (by kernel_rfl) (by kernel_rfl) (fun _ _ _ h => h) (Or.inl ⟨by rfl, fun w _ => by simp [execOp, go_sem]⟩) hb ?_
    refine wpAnyH_take (i := 1) (v := .pointer (some ⟨R, 1, none⟩)) rfl (by kernel_rfl) (by kernel_rfl) (by kernel_rfl) (fun _ _ _ h => h) (Or.inl ⟨by rfl, fun w _ => by simp [execOp, go_sem]⟩) hb ?_
    refine wpAnyH_take (i := 2) (v := .string u) rfl (by kernel_rfl) (by kernel_rfl) (by kernel_rfl) (fun _ _ _ h => h) (Or.inl ⟨by rfl, fun w b => by have c := (Bc.five b).2.1; simp [execOp, go_sem, c]⟩) hb ?_
    refine wpAnyH_take (i := 3) (v := .pointer (some ⟨R, 2, none⟩)) rfl (by kernel_rfl) (by kernel_rfl) (by kernel_rfl) (fun _ _ _ h => h) (Or.inl ⟨by rfl, fun w _ => by simp [execOp, go_sem]⟩) hb ?_
    refine wpAnyH_take (i := 4) (v := .agg F28.toArray) rfl (by kernel_rfl) (by kernel_rfl) (by kernel_rfl) (fun _ _ _ h => h) (yieldsIf_load_mid (by rfl) 28 (.tmp 27) rfl R 2 (by simp [go_sem]) F28 _ (fun w b => FR.out w b) Tryz.underlying28 rfl (by rw [HL.out]; exact size_f8)) hb ?_
    refine wpAnyH_take (i := 5) (v := .pointer (some ⟨R, 32, none⟩)) rfl (by kernel_rfl) (by kernel_rfl) (by kernel_rfl) (fun _ _ _ h => h) (Or.inl ⟨by rfl, fun w _ => by simp [execOp, go_sem]⟩) hb ?_
    refine wpAnyH_take (i := 6) (v := .int .u8 mode) rfl (by kernel_rfl) (by kernel_rfl) (by kernel_rfl) (fun _ _ _ h => h) (Or.inl ⟨by rfl, fun w b => by have c := (Bc.five b).2.2.2.2; simp [execOp, go_sem, c]⟩) hb ?_
    refine wpAnyH_take (i := 8) (v := .pointer (some ⟨qq, 0, none⟩)) rfl (by kernel_rfl) (by kernel_rfl) (by kernel_rfl) (fun _ _ _ h => h) (Or.inl ⟨by rfl, fun w _ => by simp [execOp, go_sem]⟩) hb ?_
    refine wpAnyH_take (i := 9) (v := .pointer (some ⟨R, 1, none⟩)) rfl (by kernel_rfl) (by kernel_rfl) (by kernel_rfl) (fun _ _ _ h => h) (Or.inl ⟨by rfl, fun w _ => by simp [execOp, go_sem]⟩) hb ?_
    refine wpAnyH_take (i := 10) (v := .string u) rfl (by kernel_rfl) (by kernel_rfl) (by kernel_rfl) (fun _ _ _ h => h) (Or.inl ⟨by rfl, fun w b => by have c := (Bc.five b).2.1; simp [execOp, go_sem, c]⟩) hb ?_
    refine wpAnyH_take (i := 11) (v := .pointer (some ⟨R, 2, none⟩)) rfl (by kernel_rfl) (by kernel_rfl) (by kernel_rfl) (fun _ _ _ h => h) (Or.inl ⟨by rfl, fun w _ => by simp [execOp, go_sem]⟩) hb ?_
    refine wpAnyH_take (i := 12) (v := .agg F28.toArray) rfl (by kernel_rfl) (by kernel_rfl) (by kernel_rfl) (fun _ _ _ h => h) (yieldsIf_load_mid (by rfl) 28 (.tmp 35) rfl R 2 (by simp [go_sem]) F28 _ (fun w b => FR.out w b) Tryz.underlying28 rfl (by rw [HL.out]; exact size_f8)) hb ?_
    refine wpAnyH_take (i := 13) (v := .pointer (some ⟨R, 32, none⟩)) rfl (by kernel_rfl) (by kernel_rfl) (by kernel_rfl) (fun _ _ _ h => h) (Or.inl ⟨by rfl, fun w _ => by simp [execOp, go_sem]⟩) hb ?_
    refine wpAnyH_take (i := 14) (v := .int .u8 mode) rfl (by kernel_rfl) (by kernel_rfl) (by kernel_rfl) (fun _ _ _ h => h) (Or.inl ⟨by rfl, fun w b => by have c := (Bc.five b).2.2.2.2; simp [execOp, go_sem, c]⟩) hb ?_
    refine wpAnyH_one (i := 7) (by kernel_rfl) ?_
    refine any_callR rfl rfl 18 #[.pointer (some ⟨pp, 0, none⟩), .string u, .agg F28.toArray, .int .u8 mode] (by simp [go_sem]) (OPN.out _ KD.out) ?_
    rintro e w7 ⟨rfl, k7⟩
    have K7 : Hid (Kept [] w6 w7) := KD.out.trans k7 (fun i hi => by cases hi)
    have C7 := Lib.hid (CD.out.kept k7 (by simp))
    have hb7 := C7.out
    refine ⟨_, rfl, hb7, ?_⟩
    refine wpAnyH_one (i := 15) (by kernel_rfl) ?_
    refine any_callR rfl rfl 19 #[.pointer (some ⟨qq, 0, none⟩), .string u, .agg F28.toArray, .int .u8 mode] (by simp [go_sem]) (ROP.out _ K7.out) ?_
    rintro e w8 ⟨rfl, k8⟩
    have K8 : Hid (Kept [] w6 w8) := K7.out.trans k8 (fun i hi => by cases hi)
    have C8 := Lib.hid (C7.out.kept k8 (by simp))
    have hb8 := C8.out
    refine ⟨_, rfl, hb8, ?_⟩
    refine wpAnyH_take (i := 16) (v := .bool false) rfl (by kernel_rfl) (by kernel_rfl) (by kernel_rfl) (fun _ _ _ h => h) (Or.inl ⟨by rfl, fun w _ => by simp [execOp, go_sem]⟩) hb8 ?_
    refine wpAnyH_done (by kernel_rfl) ?_ _
    simp [go_sem]
    go_upto_region 9 with fail
    have K9 : Hid (Kept [] w6 w8.drew) := K8.out.drew
    have C9 := Lib.hid (C8.out.kept ((Kept.refl [] w8).drew) (by simp))
    have hb := C9.out
    refine wp_region_held (S := fun w' => Bc w' R text u n p tk fl name pm mode) (by kernel_rfl) ?_
    try (change wpAnyH _ _ _ _ _ _ _ _ (World.drew _))
    refine wpAnyH_take (i := 0) (v := .pointer (some ⟨pp, 0, none⟩)) rfl (by kernel_rfl) (by kernel_rfl) (by kernel_rfl) (fun _ _ _ h => h) (Or.inl ⟨by rfl, fun w _ => by simp [execOp, go_sem]⟩) hb ?_
    refine wpAnyH_take (i := 1) (v := .pointer (some ⟨R, 1, none⟩)) rfl (by kernel_rfl) (by kernel_rfl) (by kernel_rfl) (fun _ _ _ h => h) (Or.inl ⟨by rfl, fun w _ => by simp [execOp, go_sem]⟩) hb ?_
    refine wpAnyH_take (i := 2) (v := .string u) rfl (by kernel_rfl) (by kernel_rfl) (by kernel_rfl) (fun _ _ _ h => h) (Or.inl ⟨by rfl, fun w b => by have c := (Bc.five b).2.1; simp [execOp, go_sem, c]⟩) hb ?_
    refine wpAnyH_take (i := 3) (v := .pointer (some ⟨R, 2, none⟩)) rfl (by kernel_rfl) (by kernel_rfl) (by kernel_rfl) (fun _ _ _ h => h) (Or.inl ⟨by rfl, fun w _ => by simp [execOp, go_sem]⟩) hb ?_
    refine wpAnyH_take (i := 4) (v := .agg F28.toArray) rfl (by kernel_rfl) (by kernel_rfl) (by kernel_rfl) (fun _ _ _ h => h) (yieldsIf_load_mid (by rfl) 28 (.tmp 44) rfl R 2 (by simp [go_sem]) F28 _ (fun w b => FR.out w b) Tryz.underlying28 rfl (by rw [HL.out]; exact size_f8)) hb ?_
    refine wpAnyH_take (i := 6) (v := .pointer (some ⟨qq, 0, none⟩)) rfl (by kernel_rfl) (by kernel_rfl) (by kernel_rfl) (fun _ _ _ h => h) (Or.inl ⟨by rfl, fun w _ => by simp [execOp, go_sem]⟩) hb ?_
    refine wpAnyH_take (i := 7) (v := .pointer (some ⟨R, 1, none⟩)) rfl (by kernel_rfl) (by kernel_rfl) (by kernel_rfl) (fun _ _ _ h => h) (Or.inl ⟨by rfl, fun w _ => by simp [execOp, go_sem]⟩) hb ?_
    refine wpAnyH_take (i := 8) (v := .string u) rfl (by kernel_rfl) (by kernel_rfl) (by kernel_rfl) (fun _ _ _ h => h) (Or.inl ⟨by rfl, fun w b => by have c := (Bc.five b).2.1; simp [execOp, go_sem, c]⟩) hb ?_
    refine wpAnyH_take (i := 9) (v := .pointer (some ⟨R, 2, none⟩)) rfl (by kernel_rfl) (by kernel_rfl) (by kernel_rfl) (fun _ _ _ h => h) (Or.inl ⟨by rfl, fun w _ => by simp [execOp, go_sem]⟩) hb ?_
    refine wpAnyH_take (i := 10) (v := .agg F28.toArray) rfl (by kernel_rfl) (by kernel_rfl) (by kernel_rfl) (fun _ _ _ h => h) (yieldsIf_load_mid (by rfl) 28 (.tmp 50) rfl R 2 (by simp [go_sem]) F28 _ (fun w b => FR.out w b) Tryz.underlying28 rfl (by rw [HL.out]; exact size_f8)) hb ?_
    refine wpAnyH_one (i := 5) (by kernel_rfl) ?_
    refine any_callR rfl rfl 20 #[.pointer (some ⟨pp, 0, none⟩), .string u, .agg F28.toArray] (by simp [go_sem]) (REM.out _ K9.out) ?_
    rintro e w10 ⟨rfl, k10⟩
    have K10 : Hid (Kept [] w6 w10) := K9.out.trans k10 (fun i hi => by cases hi)
    have C10 := Lib.hid (C9.out.kept k10 (by simp))
    have hb10 := C10.out
    refine ⟨_, rfl, hb10, ?_⟩
    refine wpAnyH_one (i := 11) (by kernel_rfl) ?_
    refine any_callR rfl rfl 21 #[.pointer (some ⟨qq, 0, none⟩), .string u, .agg F28.toArray] (by simp [go_sem]) (RRE.out _ K10.out) ?_
    rintro e w11 ⟨rfl, k11⟩
    have K11 : Hid (Kept [] w6 w11) := K10.out.trans k11 (fun i hi => by cases hi)
    have C11 := Lib.hid (C10.out.kept k11 (by simp))
    have hb11 := C11.out
    refine ⟨_, rfl, hb11, ?_⟩
    refine wpAnyH_take (i := 12) (v := .bool true) rfl (by kernel_rfl) (by kernel_rfl) (by kernel_rfl) (fun _ _ _ h => h) (Or.inl ⟨by rfl, fun w _ => by simp [execOp, go_sem]⟩) hb11 ?_
    refine wpAnyH_take (i := 13) (v := .bool true) rfl (by kernel_rfl) (by kernel_rfl) (by kernel_rfl) (fun _ _ _ h => h) (Or.inl ⟨by rfl, fun w _ => by simp [execOp, go_sem]⟩) hb11 ?_
    simp [go_sem]
    refine wpAnyH_take (i := 14) (v := .pointer (some ⟨pp, 0, none⟩)) rfl (by kernel_rfl) (by kernel_rfl) (by kernel_rfl) (fun _ _ _ h => h) (Or.inl ⟨by rfl, fun w _ => by simp [execOp, go_sem]⟩) hb11 ?_
    refine wpAnyH_take (i := 15) (v := .pointer (some ⟨R, 1, none⟩)) rfl (by kernel_rfl) (by kernel_rfl) (by kernel_rfl) (fun _ _ _ h => h) (Or.inl ⟨by rfl, fun w _ => by simp [execOp, go_sem]⟩) hb11 ?_
    simp [go_sem]
    refine wpAnyH_take (i := 16) (v := .string u) rfl (by kernel_rfl) (by kernel_rfl) (by kernel_rfl) (fun _ _ _ h => h) (Or.inl ⟨by rfl, fun w b => by have c := (Bc.five b).2.1; simp [execOp, go_sem, c]⟩) hb11 ?_
    refine wpAnyH_take (i := 17) (v := .pointer (some ⟨R, 2, none⟩)) rfl (by kernel_rfl) (by kernel_rfl) (by kernel_rfl) (fun _ _ _ h => h) (Or.inl ⟨by rfl, fun w _ => by simp [execOp, go_sem]⟩) hb11 ?_
    simp [go_sem]
    refine wpAnyH_take (i := 18) (v := .agg F28.toArray) rfl (by kernel_rfl) (by kernel_rfl) (by kernel_rfl) (fun _ _ _ h => h) (yieldsIf_load_mid (by rfl) 28 (.tmp 58) rfl R 2 (by simp [go_sem]) F28 _ (fun w b => FR.out w b) Tryz.underlying28 rfl (by rw [HL.out]; exact size_f8)) hb11 ?_
    refine wpAnyH_take (i := 20) (v := .pointer (some ⟨qq, 0, none⟩)) rfl (by kernel_rfl) (by kernel_rfl) (by kernel_rfl) (fun _ _ _ h => h) (Or.inl ⟨by rfl, fun w _ => by simp [execOp, go_sem]⟩) hb11 ?_
    simp [go_sem]
    refine wpAnyH_take (i := 21) (v := .pointer (some ⟨R, 1, none⟩)) rfl (by kernel_rfl) (by kernel_rfl) (by kernel_rfl) (fun _ _ _ h => h) (Or.inl ⟨by rfl, fun w _ => by simp [execOp, go_sem]⟩) hb11 ?_
    refine wpAnyH_take (i := 22) (v := .string u) rfl (by kernel_rfl) (by kernel_rfl) (by kernel_rfl) (fun _ _ _ h => h) (Or.inl ⟨by rfl, fun w b => by have c := (Bc.five b).2.1; simp [execOp, go_sem, c]⟩) hb11 ?_
    simp [go_sem]
    refine wpAnyH_take (i := 23) (v := .pointer (some ⟨R, 2, none⟩)) rfl (by kernel_rfl) (by kernel_rfl) (by kernel_rfl) (fun _ _ _ h => h) (Or.inl ⟨by rfl, fun w _ => by simp [execOp, go_sem]⟩) hb11 ?_
    refine wpAnyH_take (i := 24) (v := .agg F28.toArray) rfl (by kernel_rfl) (by kernel_rfl) (by kernel_rfl) (fun _ _ _ h => h) (yieldsIf_load_mid (by rfl) 28 (.tmp 64) rfl R 2 (by simp [go_sem]) F28 _ (fun w b => FR.out w b) Tryz.underlying28 rfl (by rw [HL.out]; exact size_f8)) hb11 ?_
    simp [go_sem]
    refine wpAnyH_one (i := 19) (by kernel_rfl) ?_
    refine any_callG rfl (by rfl) 22 #[.pointer (some ⟨pp, 0, none⟩), .string u, .agg F28.toArray] (by simp [go_sem]) (CLS.out _ K11.out) ?_
    rintro e w12 ⟨rfl, k12⟩
    have K12 : Hid (Kept [] w6 w12) := K11.out.trans k12 (fun i hi => by cases hi)
    have C12 := Lib.hid (C11.out.kept k12 (by simp))
    have hb12 := C12.out
    refine ⟨_, rfl, hb12, ?_⟩
    simp [go_sem]
    refine wpAnyH_one (i := 25) (by kernel_rfl) ?_
    refine any_callG rfl (by rfl) 23 #[.pointer (some ⟨qq, 0, none⟩), .string u, .agg F28.toArray] (by simp [go_sem]) (RCL.out _ K12.out) ?_
    rintro e w13 ⟨rfl, k13⟩
    have K13 : Hid (Kept [] w6 w13) := K12.out.trans k13 (fun i hi => by cases hi)
    have C13 := Lib.hid (C12.out.kept k13 (by simp))
    have hb13 := C13.out
    refine ⟨_, rfl, hb13, ?_⟩
    simp [go_sem]
    refine wpAnyH_take (i := 26) (v := .bool true) rfl (by kernel_rfl) (by kernel_rfl) (by kernel_rfl) (fun _ _ _ h => h) (Or.inl ⟨by rfl, fun w _ => by simp [execOp, go_sem]⟩) hb13 ?_
    simp [go_sem]
    refine wpAnyH_take (i := 27) (v := .bool true) rfl (by kernel_rfl) (by kernel_rfl) (by kernel_rfl) (fun _ _ _ h => h) (Or.inl ⟨by rfl, fun w _ => by simp [execOp, go_sem]⟩) hb13 ?_
    refine wpAnyH_take (i := 28) (v := .bool true) rfl (by kernel_rfl) (by kernel_rfl) (by kernel_rfl) (fun _ _ _ h => h) (Or.inl ⟨by rfl, fun w _ => by simp [execOp, go_sem]⟩) hb13 ?_
    refine wpAnyH_done (by kernel_rfl) ?_ _
    simp [go_sem]
    go_wp2_with fail
    go_ret
    exact ⟨rfl, K6.out.trans K13.out (fun i hi => by cases hi)⟩
end Ru
end Go.Proofs.YtondjodfkgefgaaGreatDoor
