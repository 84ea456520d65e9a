/- RulesMakes walked. -/
import Derived.Test.YtondjodfkgefgaaGreatDoorRqc
namespace Go.Proofs.YtondjodfkgefgaaGreatDoor
set_option linter.unusedVariables false
open Go.RowKit Go.Shelf
attribute [local go_sem] Oper.semAt_some
namespace Ru
open Go.Proofs.YtondjodfkgefgaaGreatDoor.Utf Go.Proofs.YtondjodfkgefgaaGreatDoor.Txt Go.PlainAid Go.Proofs.YtondjodfkgefgaaGreatDoor.Mpf Go.Proofs.YtondjodfkgefgaaGreatDoor.Us

theorem whole13 {w : World} {B : Nat} {A : Array Value} (h : w.heap[B]? = some (.cells A 25 (0, 0))) : w.rangeAt B 0 A.toList := by
  intro j v hv
  rw [Nat.zero_add, cell_of_row w B j _ _ (0, 0) h]
  simpa using hv
set_option maxHeartbeats 32000000 in
set_option maxRecDepth 100000 in
theorem makes_law (w : World) (hm : Ml w) (text u : ByteArray) (n p : Nd) (tk fl : Bool) (name : ByteArray) (pm mode : Nat) (h0 : text.size ≤ 140737488355328) (h1 : u.size ≤ 140737488355328) (h2 : name.size ≤ 140737488355328) (n1 : n.name.size ≤ 140737488355328) (n2 : n.uid.size ≤ 140737488355328) (n3 : n.gid.size ≤ 140737488355328) (n4 : n.muid.size ≤ 140737488355328) (p1 : p.name.size ≤ 140737488355328) (p2 : p.uid.size ≤ 140737488355328) (p3 : p.gid.size ≤ 140737488355328) (p4 : p.muid.size ≤ 140737488355328) (hpb : pm < 4294967296) (hmo : mode < 256) (hnm : n.mode < 4294967296) :
    Calls Tryz.prog 5 #[.agg #[.string text, .string u, .int .u64 n.path, .int .u64 n.parent, .string n.name, .int .u32 n.mode, .string n.uid, .string n.gid, .string n.muid, .int .u32 n.atime, .int .u32 n.mtime, .int .u32 n.vers, .int .u64 n.length, .int .i64 n.opens, .int .i64 n.kids, .int .u64 p.path, .int .u64 p.parent, .string p.name, .int .u32 p.mode, .string p.uid, .string p.gid, .string p.muid, .int .u32 p.atime, .int .u32 p.mtime, .int .u32 p.vers, .int .u64 p.length, .int .i64 p.opens, .int .i64 p.kids, .bool tk, .bool fl, .string name, .int .u32 (pm : Int), .int .u8 (mode : Int)]] w fun e w' => e = .returned (.bool true) ∧ Kept [] w w' := by
  obtain ⟨V, hV⟩ : ∃ V : Array Value, V = #[.string text, .string u, .int .u64 n.path, .int .u64 n.parent, .string n.name, .int .u32 n.mode, .string n.uid, .string n.gid, .string n.muid, .int .u32 n.atime, .int .u32 n.mtime, .int .u32 n.vers, .int .u64 n.length, .int .i64 n.opens, .int .i64 n.kids, .int .u64 p.path, .int .u64 p.parent, .string p.name, .int .u32 p.mode, .string p.uid, .string p.gid, .string p.muid, .int .u32 p.atime, .int .u32 p.mtime, .int .u32 p.vers, .int .u64 p.length, .int .i64 p.opens, .int .i64 p.kids, .bool tk, .bool fl, .string name, .int .u32 pm, .int .u8 mode] := ⟨_, rfl⟩
  have HVS : Hid (V.size = 33) := by rw [hV]; rfl
  rw [← hV]
  have MUC : Hid (∀ w, Calls Tryz.prog 9 #[.agg V] w fun e w' => e = .returned (.int .i64 (weightC text u n p name)) ∧ Kept [] w w') := fun w => by rw [hV]; exact much_any w text u n p tk fl name pm mode h0 h1 h2 n1 n2 n3 n4 p1 p2 p3 p4
  obtain ⟨wt, hwt⟩ : ∃ wt, wt = weightC text u n p name := ⟨_, rfl⟩
  rw [← hwt] at MUC
  have B0 : Hid ((w.alloc (.cells V 30)).heap[w.heap.size]? = some (.cells V 30 (0, 0))) := (MapKept.heap_alloc w _).1
  obtain ⟨w1, hw1⟩ : ∃ w1, w1 = w.alloc (.cells V 30) := ⟨_, rfl⟩
  obtain ⟨R, hR⟩ : ∃ R, R = w.heap.size := ⟨_, rfl⟩
  have K1 : Hid (Kept [] w w1) := by rw [hw1]; exact (Kept.refl _ _).alloc _
  have C1 : Hid (Bc w1 R text u n p tk fl name pm mode) := by
    have := B0.out
    rw [← hw1, ← hR, hV] at this
    exact this
  have NRW : Hid (w.heap.size ≤ R) := by show _ ≤ _; omega
  have HW1 := Lib.hid hw1
  have HR := Lib.hid hR
  have KNO := Lib.hid (fun w' (k : Kept [] w w') => known_any w' (ml_kept hm k))
  have TAB := Lib.hid (fun w' (k : Kept [] w w') => tables_any w' text (ml_kept hm k) h0)
  have GD := gd_table text
  obtain ⟨T, hT⟩ : ∃ T, T = tableT text := ⟨_, rfl⟩
  rw [← hT] at TAB GD
  clear hT hw1 hR hm hV
  by_cases hbig : 8388608 < wt
  · have hb : (8388608 : Int) < (wt : Int) := by omega
    clear hbig hwt h0 h1 h2 n1 n2 n3 n4 p1 p2 p3 p4
    go_enter Tryz.func5, Tryz.ntmps5
    go_wp2_with (first | (refine wpList_cmid (by rfl) (.tmp 1) rfl w.heap.size rfl V B0.out HVS.out ?_) | (go_at_call 9; rw [← HW1.out, ← HR.out]; refine (MUC.out _).mono ?_; rintro e w2 ⟨rfl, k2⟩))
    go_ret
    exact ⟨rfl, K1.out.trans k2 (fun i hi => by cases hi)⟩
  · have hb : ¬ (8388608 : Int) < (wt : Int) := by omega
    have small : ∀ s : ByteArray, s.size ≤ wt → s.size ≤ maxLen := fun s h => by unfold maxLen; omega
    have su : u.size ≤ maxLen := small u (by rw [hwt]; unfold weightC; omega)
    have sg : n.gid.size ≤ maxLen := small n.gid (by rw [hwt]; unfold weightC; omega)
    obtain ⟨F28, hF28⟩ : ∃ F : List Value, F = [.int .u64 n.path, .int .u64 n.parent, .string n.name, .int .u32 n.mode, .string n.uid, .string n.gid, .string n.muid, .int .u32 n.atime, .int .u32 n.mtime, .int .u32 n.vers, .int .u64 n.length, .int .i64 n.opens, .int .i64 n.kids, .int .u64 p.path, .int .u64 p.parent, .string p.name, .int .u32 p.mode, .string p.uid, .string p.gid, .string p.muid, .int .u32 p.atime, .int .u32 p.mtime, .int .u32 p.vers, .int .u64 p.length, .int .i64 p.opens, .int .i64 p.kids, .bool tk, .bool fl] := ⟨_, rfl⟩
    have HL : Hid (F28.length = 28) := by rw [hF28]; rfl
    have hFV : factsV n p tk fl = .agg F28.toArray := by rw [hF28]; rfl
    have FR : Hid (∀ wr, Bc wr R text u n p tk fl name pm mode → wr.rangeAt R 2 F28) := fun wr b => by rw [hF28]; exact b.facts
    have CRE0 := fun w' B q (h : Tb w' B q T) => Create_any h u n p tk fl name pm mode su sg h2
    have RCE0 := fun w' q (h : Rt w' q T) => rCreate_any h GD u n p tk fl name pm mode hmo hpb hnm h2
    have hY : makeE T u n tk fl name pm mode = 0 → createA T u n tk fl name pm mode = #[.int .u64 0, .int .u64 n.path, .string name, .int .u32 (modeInV n.mode pm), .string u, .string n.gid, .string u, .int .u32 0, .int .u32 0, .int .u32 0, .int .u64 0, .int .i64 0, .int .i64 0] := fun h => by unfold createA; rw [if_pos h]
    have hN : makeE T u n tk fl name pm mode ≠ 0 → createA T u n tk fl name pm mode = #[.int .u64 0, .int .u64 0, .string ⟨#[]⟩, .int .u32 0, .string ⟨#[]⟩, .string ⟨#[]⟩, .string ⟨#[]⟩, .int .u32 0, .int .u32 0, .int .u32 0, .int .u64 0, .int .i64 0, .int .i64 0] := fun h => by unfold createA; rw [if_neg h]
    obtain ⟨e1, he1⟩ : ∃ z, z = makeE T u n tk fl name pm mode := ⟨_, rfl⟩
    obtain ⟨A1, hA1⟩ : ∃ A, A = createA T u n tk fl name pm mode := ⟨_, rfl⟩
    obtain ⟨md, hmd⟩ : ∃ A, A = modeInV n.mode pm := ⟨_, rfl⟩
    rw [← he1, ← hA1] at hY hN
    rw [← hmd] at hY
    have hFA : (Value.agg #[.int .u64 n.path, .int .u64 n.parent, .string n.name, .int .u32 n.mode, .string n.uid, .string n.gid, .string n.muid, .int .u32 n.atime, .int .u32 n.mtime, .int .u32 n.vers, .int .u64 n.length, .int .i64 n.opens, .int .i64 n.kids, .int .u64 p.path, .int .u64 p.parent, .string p.name, .int .u32 p.mode, .string p.uid, .string p.gid, .string p.muid, .int .u32 p.atime, .int .u32 p.mtime, .int .u32 p.vers, .int .u64 p.length, .int .i64 p.opens, .int .i64 p.kids, .bool tk, .bool fl]) = .agg F28.toArray := hFV
    have CRE : Hid (∀ w', ∀ {B q : Nat}, Tb w' B q T → Calls Tryz.prog 24 #[.pointer (some ⟨q, 0, none⟩), .string u, .agg F28.toArray, .string name, .int .u32 pm, .int .u8 mode] w' fun e w'' => e = .returned (.tuple #[.agg A1, .int .i64 e1]) ∧ Kept [] w' w'') := fun w' B q h => by rw [← hFA, he1, hA1]; exact CRE0 w' B q h
    have RCE : Hid (∀ w', ∀ {q : Nat}, Rt w' q T → Calls Tryz.prog 25 #[.pointer (some ⟨q, 0, none⟩), .string u, .agg F28.toArray, .string name, .int .u32 pm, .int .u8 mode] w' fun e w'' => e = .returned (.tuple #[.agg A1, .int .i64 e1]) ∧ Kept [] w' w'') := fun w' q h => by rw [← hFV, he1, hA1]; exact RCE0 w' q h
    clear CRE0 RCE0 hF28 hFV hFA he1 hA1 hmd GD su sg hbig hwt small h0 h1 h2 n1 n2 n3 n4 p1 p2 p3 p4 hpb hmo hnm
    by_cases he : e1 = 0
    · have hA := hY he
      subst hA
      clear hY hN he
      go_enter Tryz.func5, Tryz.ntmps5
      go_upto_region 7 with (first | (refine wpList_cmid (by rfl) (.tmp 1) rfl w.heap.size rfl V B0.out HVS.out ?_) | (go_at_call 9; rw [← HW1.out, ← HR.out]; refine (MUC.out _).mono ?_; rintro e w2 ⟨rfl, k2⟩; have K2 : Hid (Kept [] w w2) := K1.out.trans k2 (fun i hi => by cases hi); have C2 := Lib.hid (C1.out.kept k2 (by simp)); obtain ⟨x0, x1, x30, x31, x32⟩ := C2.out.five; clear k2) | (go_at_call 10; refine (KNO.out _ K2.out).mono ?_; rintro e w3 ⟨rfl, k3⟩; clear x0 x1 x30 x31 x32; have K3 : Hid (Kept [] w w3) := K2.out.trans k3 (fun i hi => by cases hi); have C3 := Lib.hid (C2.out.kept k3 (by simp)); obtain ⟨x0, x1, x30, x31, x32⟩ := C3.out.five; clear k3) | (go_at_call 11; refine (TAB.out _ K3.out).mono ?_; rintro e w6 ⟨B, pp, qq, rfl, t6, r6, k6⟩; clear x0 x1 x30 x31 x32; have K6 : Hid (Kept [] w w6) := K3.out.trans k6 (fun i hi => by cases hi); have C6 := Lib.hid (C3.out.kept k6 (by simp)); obtain ⟨x0, x1, x30, x31, x32⟩ := C6.out.five; have T6 := Lib.hid t6; have R6 := Lib.hid r6; clear k6 t6 r6))
      go_upto_region 8 with (first | (refine wpList_fmid (by rfl) (.tmp 32) rfl R 2 rfl F28 (FR.out _ C6.out) HL.out ?_) | (go_at_call 24; refine (CRE.out _ T6.out).mono ?_; rintro e w7 ⟨rfl, k7⟩; clear x0 x1 x30 x31 x32; have K7 : Hid (Kept [] w w7) := K6.out.trans k7 (fun i hi => by cases hi); have C7 := Lib.hid (C6.out.kept k7 (by simp)); have R7 := Lib.hid (R6.out.kept k7); clear k7) | (refine wpList_srow8 rfl (.tmp 7) (.tmp 41) rfl w7.heap.size rfl _ #[.int .u64 0, .int .u64 n.path, .string name, .int .u32 md, .string u, .string n.gid, .string u, .int .u32 0, .int .u32 0, .int .u32 0, .int .u64 0, .int .i64 0, .int .i64 0] rfl (MapKept.heap_alloc w7 _).1 rfl rfl (by simp [Value.oneCell']) ?_; intro w8 b8 k8; have k78 : Kept [] w7 w8 := ((Kept.refl [] w7).alloc _).trans k8 (fun i hi => Or.inr (by have h1 := List.mem_singleton.1 hi; omega)); have K8 : Hid (Kept [] w w8) := K7.out.trans k78 (fun i hi => by cases hi); have C8 := Lib.hid (C7.out.kept k78 (by simp)); have R8 := Lib.hid (R7.out.kept k78); have B8 : Hid (w8.heap[w7.heap.size]? = some (.cells #[.int .u64 0, .int .u64 n.path, .string name, .int .u32 md, .string u, .string n.gid, .string u, .int .u32 0, .int .u32 0, .int .u32 0, .int .u64 0, .int .i64 0, .int .i64 0] 25 (0, 0))) := b8; obtain ⟨x0, x1, x30, x31, x32⟩ := C8.out.five; clear k78 b8 k8))
      go_upto_region 9 with (first | (refine wpList_fmid (by rfl) (.tmp 47) rfl R 2 rfl F28 (FR.out _ C8.out) HL.out ?_) | (go_at_call 25; refine (RCE.out _ R8.out).mono ?_; rintro e w9 ⟨rfl, k9⟩; clear x0 x1 x30 x31 x32; have K9 : Hid (Kept [] w w9) := K8.out.trans k9 (fun i hi => by cases hi); have B9 : Hid (w9.heap[w7.heap.size]? = some (.cells #[.int .u64 0, .int .u64 n.path, .string name, .int .u32 md, .string u, .string n.gid, .string u, .int .u32 0, .int .u32 0, .int .u32 0, .int .u64 0, .int .i64 0, .int .i64 0] 25 (0, 0))) := (k9.block _ (block_lt B8.out) (by simp)).trans B8.out; clear k9) | (refine wpList_srow8 rfl (.tmp 9) (.tmp 56) rfl w9.heap.size rfl _ #[.int .u64 0, .int .u64 n.path, .string name, .int .u32 md, .string u, .string n.gid, .string u, .int .u32 0, .int .u32 0, .int .u32 0, .int .u64 0, .int .i64 0, .int .i64 0] rfl (MapKept.heap_alloc w9 _).1 rfl rfl (by simp [Value.oneCell']) ?_; intro w10 b10 k10; have k90 : Kept [] w9 w10 := ((Kept.refl [] w9).alloc _).trans k10 (fun i hi => Or.inr (by have h1 := List.mem_singleton.1 hi; omega)); have K10 : Hid (Kept [] w w10) := K9.out.trans k90 (fun i hi => by cases hi); have B10 : Hid (w10.heap[w9.heap.size]? = some (.cells #[.int .u64 0, .int .u64 n.path, .string name, .int .u32 md, .string u, .string n.gid, .string u, .int .u32 0, .int .u32 0, .int .u32 0, .int .u64 0, .int .i64 0, .int .i64 0] 25 (0, 0))) := b10; have B97 : Hid (w10.heap[w7.heap.size]? = some (.cells #[.int .u64 0, .int .u64 n.path, .string name, .int .u32 md, .string u, .string n.gid, .string u, .int .u32 0, .int .u32 0, .int .u32 0, .int .u64 0, .int .i64 0, .int .i64 0] 25 (0, 0))) := (k90.block _ (block_lt B9.out) (by simp)).trans B9.out; clear k90 b10 k10))
      go_wp2_with (first | (refine wpList_nmid (by rfl) (.tmp 7) rfl w7.heap.size 0 rfl _ (whole13 B97.out) rfl ?_) | (refine wpList_nmid (by rfl) (.tmp 9) rfl w9.heap.size 0 rfl _ (whole13 B10.out) rfl ?_))
      go_ret
      exact ⟨rfl, K10.out⟩
    · have hA := hN he
      subst hA
      clear hY hN he
      go_enter Tryz.func5, Tryz.ntmps5
      go_upto_region 7 with (first | (refine wpList_cmid (by rfl) (.tmp 1) rfl w.heap.size rfl V B0.out HVS.out ?_) | (go_at_call 9; rw [← HW1.out, ← HR.out]; refine (MUC.out _).mono ?_; rintro e w2 ⟨rfl, k2⟩; have K2 : Hid (Kept [] w w2) := K1.out.trans k2 (fun i hi => by cases hi); have C2 := Lib.hid (C1.out.kept k2 (by simp)); obtain ⟨x0, x1, x30, x31, x32⟩ := C2.out.five; clear k2) | (go_at_call 10; refine (KNO.out _ K2.out).mono ?_; rintro e w3 ⟨rfl, k3⟩; clear x0 x1 x30 x31 x32; have K3 : Hid (Kept [] w w3) := K2.out.trans k3 (fun i hi => by cases hi); have C3 := Lib.hid (C2.out.kept k3 (by simp)); obtain ⟨x0, x1, x30, x31, x32⟩ := C3.out.five; clear k3) | (go_at_call 11; refine (TAB.out _ K3.out).mono ?_; rintro e w6 ⟨B, pp, qq, rfl, t6, r6, k6⟩; clear x0 x1 x30 x31 x32; have K6 : Hid (Kept [] w w6) := K3.out.trans k6 (fun i hi => by cases hi); have C6 := Lib.hid (C3.out.kept k6 (by simp)); obtain ⟨x0, x1, x30, x31, x32⟩ := C6.out.five; have T6 := Lib.hid t6; have R6 := Lib.hid r6; clear k6 t6 r6))
      go_upto_region 8 with (first | (refine wpList_fmid (by rfl) (.tmp 32) rfl R 2 rfl F28 (FR.out _ C6.out) HL.out ?_) | (go_at_call 24; refine (CRE.out _ T6.out).mono ?_; rintro e w7 ⟨rfl, k7⟩; clear x0 x1 x30 x31 x32; have K7 : Hid (Kept [] w w7) := K6.out.trans k7 (fun i hi => by cases hi); have C7 := Lib.hid (C6.out.kept k7 (by simp)); have R7 := Lib.hid (R6.out.kept k7); clear k7) | (refine wpList_srow8 rfl (.tmp 7) (.tmp 41) rfl w7.heap.size rfl _ #[.int .u64 0, .int .u64 0, .string ⟨#[]⟩, .int .u32 0, .string ⟨#[]⟩, .string ⟨#[]⟩, .string ⟨#[]⟩, .int .u32 0, .int .u32 0, .int .u32 0, .int .u64 0, .int .i64 0, .int .i64 0] rfl (MapKept.heap_alloc w7 _).1 rfl rfl (by simp [Value.oneCell']) ?_; intro w8 b8 k8; have k78 : Kept [] w7 w8 := ((Kept.refl [] w7).alloc _).trans k8 (fun i hi => Or.inr (by have h1 := List.mem_singleton.1 hi; omega)); have K8 : Hid (Kept [] w w8) := K7.out.trans k78 (fun i hi => by cases hi); have C8 := Lib.hid (C7.out.kept k78 (by simp)); have R8 := Lib.hid (R7.out.kept k78); have B8 : Hid (w8.heap[w7.heap.size]? = some (.cells #[.int .u64 0, .int .u64 0, .string ⟨#[]⟩, .int .u32 0, .string ⟨#[]⟩, .string ⟨#[]⟩, .string ⟨#[]⟩, .int .u32 0, .int .u32 0, .int .u32 0, .int .u64 0, .int .i64 0, .int .i64 0] 25 (0, 0))) := b8; obtain ⟨x0, x1, x30, x31, x32⟩ := C8.out.five; clear k78 b8 k8))
      go_upto_region 9 with (first | (refine wpList_fmid (by rfl) (.tmp 47) rfl R 2 rfl F28 (FR.out _ C8.out) HL.out ?_) | (go_at_call 25; refine (RCE.out _ R8.out).mono ?_; rintro e w9 ⟨rfl, k9⟩; clear x0 x1 x30 x31 x32; have K9 : Hid (Kept [] w w9) := K8.out.trans k9 (fun i hi => by cases hi); have B9 : Hid (w9.heap[w7.heap.size]? = some (.cells #[.int .u64 0, .int .u64 0, .string ⟨#[]⟩, .int .u32 0, .string ⟨#[]⟩, .string ⟨#[]⟩, .string ⟨#[]⟩, .int .u32 0, .int .u32 0, .int .u32 0, .int .u64 0, .int .i64 0, .int .i64 0] 25 (0, 0))) := (k9.block _ (block_lt B8.out) (by simp)).trans B8.out; clear k9) | (refine wpList_srow8 rfl (.tmp 9) (.tmp 56) rfl w9.heap.size rfl _ #[.int .u64 0, .int .u64 0, .string ⟨#[]⟩, .int .u32 0, .string ⟨#[]⟩, .string ⟨#[]⟩, .string ⟨#[]⟩, .int .u32 0, .int .u32 0, .int .u32 0, .int .u64 0, .int .i64 0, .int .i64 0] rfl (MapKept.heap_alloc w9 _).1 rfl rfl (by simp [Value.oneCell']) ?_; intro w10 b10 k10; have k90 : Kept [] w9 w10 := ((Kept.refl [] w9).alloc _).trans k10 (fun i hi => Or.inr (by have h1 := List.mem_singleton.1 hi; omega)); have K10 : Hid (Kept [] w w10) := K9.out.trans k90 (fun i hi => by cases hi); have B10 : Hid (w10.heap[w9.heap.size]? = some (.cells #[.int .u64 0, .int .u64 0, .string ⟨#[]⟩, .int .u32 0, .string ⟨#[]⟩, .string ⟨#[]⟩, .string ⟨#[]⟩, .int .u32 0, .int .u32 0, .int .u32 0, .int .u64 0, .int .i64 0, .int .i64 0] 25 (0, 0))) := b10; have B97 : Hid (w10.heap[w7.heap.size]? = some (.cells #[.int .u64 0, .int .u64 0, .string ⟨#[]⟩, .int .u32 0, .string ⟨#[]⟩, .string ⟨#[]⟩, .string ⟨#[]⟩, .int .u32 0, .int .u32 0, .int .u32 0, .int .u64 0, .int .i64 0, .int .i64 0] 25 (0, 0))) := (k90.block _ (block_lt B9.out) (by simp)).trans B9.out; clear k90 b10 k10))
      go_wp2_with (first | (refine wpList_nmid (by rfl) (.tmp 7) rfl w7.heap.size 0 rfl _ (whole13 B97.out) rfl ?_) | (refine wpList_nmid (by rfl) (.tmp 9) rfl w9.heap.size 0 rfl _ (whole13 B10.out) rfl ?_))
      go_ret
      exact ⟨rfl, K10.out⟩
end Ru
end Go.Proofs.YtondjodfkgefgaaGreatDoor
