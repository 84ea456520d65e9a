/- RulesKeeps walked. -/
import Derived.Test.YteeheapenfklcaaGreatDoorRwz
import Derived.Test.YteeheapenfklcaaGreatDoorOcw
import Derived.Test.YteeheapenfklcaaGreatDoorRqr
namespace Go.Proofs.YteeheapenfklcaaGreatDoor
set_option linter.unusedVariables false
open Go.RowKit Go.Shelf
attribute [local go_sem] Oper.semAt_some
namespace Ru
open Go.Proofs.YteeheapenfklcaaGreatDoor.Utf Go.Proofs.YteeheapenfklcaaGreatDoor.Txt Go.PlainAid Go.Proofs.YteeheapenfklcaaGreatDoor.Mpf Go.Proofs.YteeheapenfklcaaGreatDoor.Us
theorem bytes_eq {x s : ByteArray} (h : x.toList = s.toList) : x = s := by
  rw [ByteArray.toList_eq, ByteArray.toList_eq] at h
  exact ByteArray.ext (Array.toList_inj.1 h)
theorem wst_shape {T : List Acc} {u : ByteArray} {n p : Nd} {tk : Bool} {s : Wn} (h : wstE T u n p tk s = 0) : ∃ (xn : ByteArray) (xm : Nat) (xg : ByteArray) (xt xl : Nat), wstN T u n p tk s = ⟨n.path, n.parent, xn, xm, n.uid, xg, n.muid, n.atime, xt, n.vers, xl, n.opens, n.kids⟩ ∧ (xn = n.name ∨ xn = s.nm) ∧ (xm = n.mode ∨ xm = s.mo) ∧ (xg = n.gid ∨ xg = s.gd) ∧ (xt = n.mtime ∨ xt = s.mt) ∧ (xl = n.length ∨ xl = s.ln) := by
  unfold wstN
  rw [if_pos h, setN_all]
  refine ⟨_, _, _, _, _, rfl, ?_, ?_, ?_, ?_, ?_⟩ <;> (split <;> simp)
set_option maxRecDepth 100000 in
theorem node_cells {w : World} {R : Nat} {x0 x1 x2 x3 x4 x5 x6 x7 x8 x9 x10 x11 x12 : Value} (h : w.heap[R]? = some (.cells #[x0, x1, x2, x3, x4, x5, x6, x7, x8, x9, x10, x11, x12] 46 (0, 0))) : w.cell? ⟨R, 0, none⟩ = some x0 ∧ w.cell? ⟨R, 1, none⟩ = some x1 ∧ w.cell? ⟨R, 2, none⟩ = some x2 ∧ w.cell? ⟨R, 3, none⟩ = some x3 ∧ w.cell? ⟨R, 4, none⟩ = some x4 ∧ w.cell? ⟨R, 5, none⟩ = some x5 ∧ w.cell? ⟨R, 6, none⟩ = some x6 ∧ w.cell? ⟨R, 7, none⟩ = some x7 ∧ w.cell? ⟨R, 8, none⟩ = some x8 ∧ w.cell? ⟨R, 9, none⟩ = some x9 ∧ w.cell? ⟨R, 10, none⟩ = some x10 ∧ w.cell? ⟨R, 11, none⟩ = some x11 ∧ w.cell? ⟨R, 12, none⟩ = some x12 := by
  refine ⟨?_, ?_, ?_, ?_, ?_, ?_, ?_, ?_, ?_, ?_, ?_, ?_, ?_⟩ <;> (rw [cell_of_row w R _ _ _ (0, 0) h]; rfl)
set_option maxRecDepth 100000 in
theorem Bc.taken_set {w : World} {R : Nat} {text u : ByteArray} {n p : Nd} {tk fl : Bool} {name : ByteArray} {pm mode : Int} (C : Bc w R text u n p tk fl name pm mode) : Bc (w.setCell ⟨R, 28, none⟩ (.bool true)) R text u n p true fl name pm mode := by
  unfold Bc at C ⊢
  refine (heap_set _ C).trans ?_
  kernel_rfl
set_option maxRecDepth 100000 in
theorem Bc.taken {w : World} {R : Nat} {text u : ByteArray} {n p : Nd} {tk fl : Bool} {name : ByteArray} {pm mode : Int} (C : Bc w R text u n p tk fl name pm mode) : w.cell? ⟨R, 28, none⟩ = some (.bool tk) := by rw [cell_of_row w R _ _ _ (0, 0) C]; rfl
set_option maxHeartbeats 32000000 in
set_option maxRecDepth 100000 in
theorem keeps_law (w : World) (hm : Ml w) (text u : ByteArray) (n p : Nd) (tk fl : Bool) (name : ByteArray) (pm mode : Int) (s : Wn) (h0 : text.size ≤ 140737488355328) (h1 : u.size ≤ 140737488355328) (h2 : name.size ≤ 140737488355328) (n1 : n.name.size ≤ 140737488355328) (n2 : n.uid.size ≤ 140737488355328) (n3 : n.gid.size ≤ 140737488355328) (n4 : n.muid.size ≤ 140737488355328) (p1 : p.name.size ≤ 140737488355328) (p2 : p.uid.size ≤ 140737488355328) (p3 : p.gid.size ≤ 140737488355328) (p4 : p.muid.size ≤ 140737488355328) (z0 : s.ty ≤ 65535) (z1 : s.dev ≤ 4294967295) (z2 : s.kd ≤ 255) (z3 : s.vr ≤ 4294967295) (z4 : s.pa ≤ 18446744073709551615) (z5 : s.mo ≤ 4294967295) (z6 : s.atm ≤ 4294967295) (z7 : s.mt ≤ 4294967295) (z8 : s.ln ≤ 18446744073709551615) (z9 : s.nm.size ≤ 140737488355328) (z10 : s.ud.size ≤ 140737488355328) (z11 : s.gd.size ≤ 140737488355328) (z12 : s.mu.size ≤ 140737488355328) (hnm : n.mode < 4294967296) (hpm : p.mode < 4294967296) (b3 : n.vers ≤ 4294967295) (b4 : n.path ≤ 18446744073709551615) (b6 : n.atime ≤ 4294967295) (b7 : n.mtime ≤ 4294967295) (b8 : n.length ≤ 18446744073709551615) :
    Calls Tryz.prog 4 #[.agg #[.string text, .string u, .int .u64 n.path, .int .u64 n.parent, .string n.name, .int .u32 n.mode, .string n.uid, .string n.gid, .string n.muid, .int .u32 n.atime, .int .u32 n.mtime, .int .u32 n.vers, .int .u64 n.length, .int .i64 n.opens, .int .i64 n.kids, .int .u64 p.path, .int .u64 p.parent, .string p.name, .int .u32 p.mode, .string p.uid, .string p.gid, .string p.muid, .int .u32 p.atime, .int .u32 p.mtime, .int .u32 p.vers, .int .u64 p.length, .int .i64 p.opens, .int .i64 p.kids, .bool tk, .bool fl, .string name, .int .u32 pm, .int .u8 mode], .agg #[.int .u16 s.ty, .int .u32 s.dev, .int .u8 s.kd, .int .u32 s.vr, .int .u64 s.pa, .int .u32 s.mo, .int .u32 s.atm, .int .u32 s.mt, .int .u64 s.ln, .string s.nm, .string s.ud, .string s.gd, .string s.mu]] w fun e w' => e = .returned (.bool true) ∧ Kept [] w w' := by
  obtain ⟨V, hV⟩ : ∃ V : Array Value, V = #[.string text, .string u, .int .u64 n.path, .int .u64 n.parent, .string n.name, .int .u32 n.mode, .string n.uid, .string n.gid, .string n.muid, .int .u32 n.atime, .int .u32 n.mtime, .int .u32 n.vers, .int .u64 n.length, .int .i64 n.opens, .int .i64 n.kids, .int .u64 p.path, .int .u64 p.parent, .string p.name, .int .u32 p.mode, .string p.uid, .string p.gid, .string p.muid, .int .u32 p.atime, .int .u32 p.mtime, .int .u32 p.vers, .int .u64 p.length, .int .i64 p.opens, .int .i64 p.kids, .bool tk, .bool fl, .string name, .int .u32 pm, .int .u8 mode] := ⟨_, rfl⟩
  have HVS : Hid (V.size = 33) := by rw [hV]; rfl
  rw [← hV]
  have MUC : Hid (∀ w, Calls Tryz.prog 14 #[.agg V] w fun e w' => e = .returned (.int .i64 (weightC text u n p name)) ∧ Kept [] w w') := fun w => by rw [hV]; exact much_any w text u n p tk fl name pm mode h0 h1 h2 n1 n2 n3 n4 p1 p2 p3 p4
  obtain ⟨wt, hwt⟩ : ∃ wt, wt = weightC text u n p name := ⟨_, rfl⟩
  have hwb : wt ≤ 1548112371908608 := by rw [hwt]; unfold weightC; omega
  rw [← hwt] at MUC
  obtain ⟨w1, hw1⟩ : ∃ w1, w1 = (w.alloc (.cells V 50)).alloc (.cells #[.int .u16 s.ty, .int .u32 s.dev, .int .u8 s.kd, .int .u32 s.vr, .int .u64 s.pa, .int .u32 s.mo, .int .u32 s.atm, .int .u32 s.mt, .int .u64 s.ln, .string s.nm, .string s.ud, .string s.gd, .string s.mu] 55) := ⟨_, rfl⟩
  obtain ⟨R, hR⟩ : ∃ R, R = w.heap.size := ⟨_, rfl⟩
  obtain ⟨RS, hRS⟩ : ∃ R, R = w.heap.size + 1 := ⟨_, rfl⟩
  have K1 : Hid (Kept [] w w1) := by rw [hw1]; exact ((Kept.refl _ _).alloc _).alloc _
  have c1 : w1.heap[R]? = some (.cells V 50 (0, 0)) := by rw [hw1, hR]; exact two_old w _ _
  have s1 : w1.heap[RS]? = some (.cells #[.int .u16 s.ty, .int .u32 s.dev, .int .u8 s.kd, .int .u32 s.vr, .int .u64 s.pa, .int .u32 s.mo, .int .u32 s.atm, .int .u32 s.mt, .int .u64 s.ln, .string s.nm, .string s.ud, .string s.gd, .string s.mu] 55 (0, 0)) := by rw [hw1, hRS]; exact two_new w _ _
  have SS : Hid (∀ w', Kept [] w1 w' → w'.heap[R]? = some (.cells V 50 (0, 0)) ∧ w'.heap[RS]? = some (.cells #[.int .u16 s.ty, .int .u32 s.dev, .int .u8 s.kd, .int .u32 s.vr, .int .u64 s.pa, .int .u32 s.mo, .int .u32 s.atm, .int .u32 s.mt, .int .u64 s.ln, .string s.nm, .string s.ud, .string s.gd, .string s.mu] 55 (0, 0))) := fun w' k => ⟨(k.block _ (block_lt c1) (by simp)).trans c1, (k.block _ (block_lt s1) (by simp)).trans s1⟩
  have BC : Hid (∀ w', w'.heap[R]? = some (.cells V 50 (0, 0)) → Bc w' R text u n p tk fl name pm mode) := fun w' h => by rw [hV] at h; exact h
  have NRW : Hid (w.heap.size ≤ R ∧ w.heap.size ≤ RS ∧ R ≠ RS) := by show _ ∧ _; omega
  have HW1 := Lib.hid hw1
  have HR := Lib.hid hR
  have HRS := Lib.hid hRS
  have KNO := Lib.hid (fun w' (k : Kept [] w w') => known_any w' (ml_kept hm k))
  have TAB := Lib.hid (fun w' (k : Kept [] w w') => table_any w' text (ml_kept hm k) h0)
  have TL := tableT_len text
  obtain ⟨T, hT⟩ : ∃ T, T = tableT text := ⟨_, rfl⟩
  rw [← hT] at TAB TL
  have AD1 : Hid (IntKind.i64.wrap ((wt : Int) + (s.nm.size : Int)) = (wt : Int) + (s.nm.size : Int)) := by show _ = _; simp [IntKind.wrap_i64]; omega
  have AD2 : Hid (IntKind.i64.wrap ((wt : Int) + (s.nm.size : Int) + (s.ud.size : Int)) = (wt : Int) + (s.nm.size : Int) + (s.ud.size : Int)) := by show _ = _; simp [IntKind.wrap_i64]; omega
  have AD3 : Hid (IntKind.i64.wrap ((wt : Int) + (s.nm.size : Int) + (s.ud.size : Int) + (s.gd.size : Int)) = (wt : Int) + (s.nm.size : Int) + (s.ud.size : Int) + (s.gd.size : Int)) := by show _ = _; simp [IntKind.wrap_i64]; omega
  have AD4 : Hid (IntKind.i64.wrap ((wt : Int) + (s.nm.size : Int) + (s.ud.size : Int) + (s.gd.size : Int) + (s.mu.size : Int)) = (wt : Int) + (s.nm.size : Int) + (s.ud.size : Int) + (s.gd.size : Int) + (s.mu.size : Int)) := by show _ = _; simp [IntKind.wrap_i64]; omega
  obtain ⟨bg, hbg⟩ : ∃ b, decide ((8388608 : Int) < (wt : Int) + (s.nm.size : Int) + (s.ud.size : Int) + (s.gd.size : Int) + (s.mu.size : Int)) = b := ⟨_, rfl⟩
  have HBG := Lib.hid hbg
  clear hT hw1 hR hRS hm hV c1 s1 hbg
  go_enter Tryz.func4, Tryz.ntmps4
  go_upto_region 1 with fail
  rw [← HW1.out, ← HRS.out, ← HR.out]
  go_cut [35] from 17 to 34 (fun sc wx => sc = .bool bg ∧ Hid (Kept [] w1 wx))
  case first =>
    have KD : Hid (Kept [] w1 w1.drew) := (Kept.refl [] w1).drew
    have hb := SS.out _ KD.out
    refine wp_region_held (S := fun w' => w'.heap[R]? = some (.cells V 50 (0, 0)) ∧ w'.heap[RS]? = some (.cells #[.int .u16 s.ty, .int .u32 s.dev, .int .u8 s.kd, .int .u32 s.vr, .int .u64 s.pa, .int .u32 s.mo, .int .u32 s.atm, .int .u32 s.mt, .int .u64 s.ln, .string s.nm, .string s.ud, .string s.gd, .string s.mu] 55 (0, 0))) (by kernel_rfl) ?_
    try (change wpAnyH _ _ _ _ _ _ _ _ (World.drew _))
    refine wpAnyH_take (i := 0) (v := .agg V.toList.toArray) rfl (by kernel_rfl) (by kernel_rfl) (by kernel_rfl) (fun _ _ _ h => h) (yieldsIf_load_mid (by rfl) 50 (.tmp 2) rfl R 0 (by simp [go_sem]) V.toList _ (fun w b => whole_of b.1) Tryz.underlying50 rfl (by rw [Array.length_toList, HVS.out]; exact size_c8)) hb ?_
    refine wpAnyH_take (i := 2) (v := .pointer (some ⟨RS, 9, none⟩)) rfl (by kernel_rfl) (by kernel_rfl) (by kernel_rfl) (fun _ _ _ h => h) (Or.inl ⟨by rfl, fun w b => by simp [execOp, go_sem]⟩) hb ?_
    refine wpAnyH_take (i := 3) (v := .string s.nm) rfl (by kernel_rfl) (by kernel_rfl) (by kernel_rfl) (fun _ _ _ h => h) (Or.inl ⟨by rfl, fun w b => by have c := (stat_cells b.2).2.2.2.2.2.2.2.2.2.1; simp [execOp, go_sem, c]⟩) hb ?_
    refine wpAnyH_take (i := 4) (v := .int .i64 (s.nm.size : Int)) rfl (by kernel_rfl) (by kernel_rfl) (by kernel_rfl) (fun _ _ _ h => h) (Or.inl ⟨by rfl, fun w b => by simp [execOp, go_sem]⟩) hb ?_
    refine wpAnyH_take (i := 6) (v := .pointer (some ⟨RS, 10, none⟩)) rfl (by kernel_rfl) (by kernel_rfl) (by kernel_rfl) (fun _ _ _ h => h) (Or.inl ⟨by rfl, fun w b => by simp [execOp, go_sem]⟩) hb ?_
    refine wpAnyH_take (i := 7) (v := .string s.ud) rfl (by kernel_rfl) (by kernel_rfl) (by kernel_rfl) (fun _ _ _ h => h) (Or.inl ⟨by rfl, fun w b => by have c := (stat_cells b.2).2.2.2.2.2.2.2.2.2.2.1; simp [execOp, go_sem, c]⟩) hb ?_
    refine wpAnyH_take (i := 8) (v := .int .i64 (s.ud.size : Int)) rfl (by kernel_rfl) (by kernel_rfl) (by kernel_rfl) (fun _ _ _ h => h) (Or.inl ⟨by rfl, fun w b => by simp [execOp, go_sem]⟩) hb ?_
    refine wpAnyH_take (i := 10) (v := .pointer (some ⟨RS, 11, none⟩)) rfl (by kernel_rfl) (by kernel_rfl) (by kernel_rfl) (fun _ _ _ h => h) (Or.inl ⟨by rfl, fun w b => by simp [execOp, go_sem]⟩) hb ?_
    refine wpAnyH_take (i := 11) (v := .string s.gd) rfl (by kernel_rfl) (by kernel_rfl) (by kernel_rfl) (fun _ _ _ h => h) (Or.inl ⟨by rfl, fun w b => by have c := (stat_cells b.2).2.2.2.2.2.2.2.2.2.2.2.1; simp [execOp, go_sem, c]⟩) hb ?_
    refine wpAnyH_take (i := 12) (v := .int .i64 (s.gd.size : Int)) rfl (by kernel_rfl) (by kernel_rfl) (by kernel_rfl) (fun _ _ _ h => h) (Or.inl ⟨by rfl, fun w b => by simp [execOp, go_sem]⟩) hb ?_
    refine wpAnyH_take (i := 14) (v := .pointer (some ⟨RS, 12, none⟩)) rfl (by kernel_rfl) (by kernel_rfl) (by kernel_rfl) (fun _ _ _ h => h) (Or.inl ⟨by rfl, fun w b => by simp [execOp, go_sem]⟩) hb ?_
    refine wpAnyH_take (i := 15) (v := .string s.mu) rfl (by kernel_rfl) (by kernel_rfl) (by kernel_rfl) (fun _ _ _ h => h) (Or.inl ⟨by rfl, fun w b => by have c := (stat_cells b.2).2.2.2.2.2.2.2.2.2.2.2.2; simp [execOp, go_sem, c]⟩) hb ?_
    refine wpAnyH_take (i := 16) (v := .int .i64 (s.mu.size : Int)) rfl (by kernel_rfl) (by kernel_rfl) (by kernel_rfl) (fun _ _ _ h => h) (Or.inl ⟨by rfl, fun w b => by simp [execOp, go_sem]⟩) hb ?_
    refine wpAnyH_one (i := 1) (by kernel_rfl) ?_
    refine any_callR rfl rfl 14 #[.agg V] (by simp [go_sem]) (MUC.out _) ?_
    rintro e w2 ⟨rfl, k2⟩
    have K2 : Kept [] w1 w2 := KD.out.trans k2 (fun i hi => by cases hi)
    have hb2 := SS.out _ K2
    refine ⟨_, rfl, hb2, ?_⟩
    simp only [go_sem]
    refine wpAnyH_take (i := 5) (v := .int .i64 ((wt : Int) + (s.nm.size : Int))) rfl (by kernel_rfl) (by kernel_rfl) (by kernel_rfl) (fun _ _ _ h => h) (Or.inl ⟨by rfl, fun w b => by simp [execOp, go_sem, AD1.out]⟩) hb2 ?_
    refine wpAnyH_take (i := 9) (v := .int .i64 ((wt : Int) + (s.nm.size : Int) + (s.ud.size : Int))) rfl (by kernel_rfl) (by kernel_rfl) (by kernel_rfl) (fun _ _ _ h => h) (Or.inl ⟨by rfl, fun w b => by simp [execOp, go_sem, AD2.out]⟩) hb2 ?_
    refine wpAnyH_take (i := 13) (v := .int .i64 ((wt : Int) + (s.nm.size : Int) + (s.ud.size : Int) + (s.gd.size : Int))) rfl (by kernel_rfl) (by kernel_rfl) (by kernel_rfl) (fun _ _ _ h => h) (Or.inl ⟨by rfl, fun w b => by simp [execOp, go_sem, AD3.out]⟩) hb2 ?_
    refine wpAnyH_take (i := 17) (v := .int .i64 ((wt : Int) + (s.nm.size : Int) + (s.ud.size : Int) + (s.gd.size : Int) + (s.mu.size : Int))) rfl (by kernel_rfl) (by kernel_rfl) (by kernel_rfl) (fun _ _ _ h => h) (Or.inl ⟨by rfl, fun w b => by simp [execOp, go_sem, AD4.out]⟩) hb2 ?_
    refine wpAnyH_take (i := 18) (v := .bool bg) rfl (by kernel_rfl) (by kernel_rfl) (by kernel_rfl) (fun _ _ _ h => h) (Or.inl ⟨by rfl, fun w b => by simp [execOp, go_sem, ← HBG.out]⟩) hb2 ?_
    refine wpAnyH_done (by kernel_rfl) ?_ _
    simp [go_sem]
    go_wp2_with fail
    go_meet
    exact ⟨rfl, K2⟩
  case rest =>
    obtain ⟨rfl, hK⟩ := hcut
    obtain ⟨w2, hw2⟩ : ∃ x, x = wc := ⟨_, rfl⟩
    subst hw2
    have K2 : Hid (Kept [] w w2) := K1.out.trans hK.out (fun i hi => by cases hi)
    have C2 : Hid (Bc w2 R text u n p tk fl name pm mode) := BC.out _ (SS.out _ hK.out).1
    have S2 : Hid (w2.heap[RS]? = some (.cells #[.int .u16 s.ty, .int .u32 s.dev, .int .u8 s.kd, .int .u32 s.vr, .int .u64 s.pa, .int .u32 s.mo, .int .u32 s.atm, .int .u32 s.mt, .int .u64 s.ln, .string s.nm, .string s.ud, .string s.gd, .string s.mu] 55 (0, 0))) := (SS.out _ hK.out).2
    cases bg with
    | true =>
      clear TL HBG AD1 AD2 AD3 AD4
      go_wp2_with fail
      go_ret
      exact ⟨rfl, K2.out⟩
    | false =>
      have hsm : ¬ ((8388608 : Int) < (wt : Int) + (s.nm.size : Int) + (s.ud.size : Int) + (s.gd.size : Int) + (s.mu.size : Int)) := of_decide_eq_false HBG.out
      have small : ∀ s : ByteArray, s.size ≤ wt → s.size ≤ maxLen := fun s h => by unfold maxLen; omega
      have su : u.size ≤ maxLen := small u (by rw [hwt]; unfold weightC; omega)
      have sg : n.gid.size ≤ maxLen := small n.gid (by rw [hwt]; unfold weightC; omega)
      have sp : p.gid.size ≤ maxLen := small p.gid (by rw [hwt]; unfold weightC; omega)
      have ss : s.gd.size ≤ maxLen := by unfold maxLen; omega
      have e0s : ((⟨#[]⟩ : ByteArray)).size ≤ maxLen := by decide
      clear hwt hwb small hsm h0 h1 n2 n4 p1 p2 p3 p4 AD1 AD2 AD3 AD4 HBG MUC SS BC K1 hK
      have TL2 : T.length ≤ 1048576 := by omega
      obtain ⟨F28, hF28⟩ : ∃ F : List Value, F = [.int .u64 n.path, .int .u64 n.parent, .string n.name, .int .u32 n.mode, .string n.uid, .string n.gid, .string n.muid, .int .u32 n.atime, .int .u32 n.mtime, .int .u32 n.vers, .int .u64 n.length, .int .i64 n.opens, .int .i64 n.kids, .int .u64 p.path, .int .u64 p.parent, .string p.name, .int .u32 p.mode, .string p.uid, .string p.gid, .string p.muid, .int .u32 p.atime, .int .u32 p.mtime, .int .u32 p.vers, .int .u64 p.length, .int .i64 p.opens, .int .i64 p.kids, .bool tk, .bool fl] := ⟨_, rfl⟩
      have HL : Hid (F28.length = 28) := by rw [hF28]; rfl
      have FR : Hid (∀ wr, Bc wr R text u n p tk fl name pm mode → wr.rangeAt R 2 F28) := fun wr b => by rw [hF28]; exact b.facts
      have hFA : (#[.int .u64 n.path, .int .u64 n.parent, .string n.name, .int .u32 n.mode, .string n.uid, .string n.gid, .string n.muid, .int .u32 n.atime, .int .u32 n.mtime, .int .u32 n.vers, .int .u64 n.length, .int .i64 n.opens, .int .i64 n.kids, .int .u64 p.path, .int .u64 p.parent, .string p.name, .int .u32 p.mode, .string p.uid, .string p.gid, .string p.muid, .int .u32 p.atime, .int .u32 p.mtime, .int .u32 p.vers, .int .u64 p.length, .int .i64 p.opens, .int .i64 p.kids, .bool tk, .bool fl] : Array Value) = F28.toArray := by rw [hF28]
      obtain ⟨RV, hRV⟩ : ∃ A, A = recV n := ⟨_, rfl⟩
      have REC : Hid (∀ w', Calls Tryz.prog 18 #[.agg #[.int .u64 n.path, .int .u64 n.parent, .string n.name, .int .u32 n.mode, .string n.uid, .string n.gid, .string n.muid, .int .u32 n.atime, .int .u32 n.mtime, .int .u32 n.vers, .int .u64 n.length, .int .i64 n.opens, .int .i64 n.kids]] w' fun e w'' => e = .returned (.agg RV) ∧ Kept [] w' w'') := fun w' => by rw [hRV]; exact Record_any w' n hnm
      have KEE : Hid (∀ w', Calls Tryz.prog 19 #[] w' fun e w'' => e = .returned (.agg #[.int .u16 65535, .int .u32 4294967295, .int .u8 255, .int .u32 4294967295, .int .u64 18446744073709551615, .int .u32 4294967295, .int .u32 4294967295, .int .u32 4294967295, .int .u64 18446744073709551615, .string ⟨#[]⟩, .string ⟨#[]⟩, .string ⟨#[]⟩, .string ⟨#[]⟩]) ∧ Kept [] w' w'') := fun w' => Stt.keep_any w'
      have WSO : Hid (∀ w', ∀ {B q : Nat}, Tb w' B q T → Calls Tryz.prog 17 #[.pointer (some ⟨q, 0, none⟩), .string u, .agg F28.toArray, .agg RV] w' fun e w'' => e = .returned (.tuple #[.agg #[.int .u64 n.path, .int .u64 n.parent, .string n.name, .int .u32 n.mode, .string n.uid, .string n.gid, .string n.muid, .int .u32 n.atime, .int .u32 n.mtime, .int .u32 n.vers, .int .u64 n.length, .int .i64 n.opens, .int .i64 n.kids], .int .i64 0]) ∧ Kept [] w' w'') := fun w' B q h => by
        have := Wstat_any h TL2 u n p tk fl (recW n) su sg sp n1 sg hnm
        rw [(wst_own T u n p tk).1, (wst_own T u n p tk).2] at this
        rw [← hFA, hRV, recR_cells]
        exact this
      have WSK : Hid (∀ w', ∀ {B q : Nat}, Tb w' B q T → Calls Tryz.prog 17 #[.pointer (some ⟨q, 0, none⟩), .string u, .agg F28.toArray, .agg #[.int .u16 65535, .int .u32 4294967295, .int .u8 255, .int .u32 4294967295, .int .u64 18446744073709551615, .int .u32 4294967295, .int .u32 4294967295, .int .u32 4294967295, .int .u64 18446744073709551615, .string ⟨#[]⟩, .string ⟨#[]⟩, .string ⟨#[]⟩, .string ⟨#[]⟩]] w' fun e w'' => e = .returned (.tuple #[.agg #[.int .u64 n.path, .int .u64 n.parent, .string n.name, .int .u32 n.mode, .string n.uid, .string n.gid, .string n.muid, .int .u32 n.atime, .int .u32 n.mtime, .int .u32 n.vers, .int .u64 n.length, .int .i64 n.opens, .int .i64 n.kids], .int .i64 0]) ∧ Kept [] w' w'') := fun w' B q h => by
        have := Wstat_any h TL2 u n p tk fl keepW su sg sp (show (0 : Nat) ≤ 140737488355328 by decide) e0s hnm
        rw [(wst_keep T u n p tk).1, (wst_keep T u n p tk).2] at this
        rw [← hFA]
        exact this
      have WSX0 := fun w' B q (h : Tb w' B q T) => Wstat_any h TL2 u n p tk fl s su sg sp z9 ss hnm
      have SHP := fun h => wst_shape (T := T) (u := u) (n := n) (p := p) (tk := tk) (s := s) h
      have BAD : wstE T u n p tk s ≠ 0 → wstN T u n p tk s = noNode := fun h => by unfold wstN; rw [if_neg h]
      obtain ⟨e1, he1⟩ : ∃ z, z = wstE T u n p tk s := ⟨_, rfl⟩
      obtain ⟨x, hx⟩ : ∃ z, z = wstN T u n p tk s := ⟨_, rfl⟩
      rw [← he1, ← hx] at WSX0 SHP BAD
      clear he1 hx hRV h2
      obtain ⟨x0, x1, x30, x31, x32⟩ := C2.out.five
      go_upto_region 7 with (first | (go_at_call 15; refine (KNO.out _ K2.out).mono ?_; rintro e w3 ⟨rfl, k3⟩; clear x0 x1 x30 x31 x32; have K3 : Hid (Kept [] w w3) := K2.out.trans k3 (fun i hi => by cases hi); have C3 := Lib.hid (C2.out.kept k3 (by simp)); have S3 : Hid (w3.heap[RS]? = some (.cells #[.int .u16 s.ty, .int .u32 s.dev, .int .u8 s.kd, .int .u32 s.vr, .int .u64 s.pa, .int .u32 s.mo, .int .u32 s.atm, .int .u32 s.mt, .int .u64 s.ln, .string s.nm, .string s.ud, .string s.gd, .string s.mu] 55 (0, 0))) := (k3.block _ (block_lt S2.out) (by simp)).trans S2.out; obtain ⟨x0, x1, x30, x31, x32⟩ := C3.out.five; clear k3) | (go_at_call 16; refine (TAB.out _ K3.out).mono ?_; rintro e w6 ⟨B, q, rfl, t6, k6⟩; clear x0 x1 x30 x31 x32; have K6 : Hid (Kept [] w w6) := K3.out.trans k6 (fun i hi => by cases hi); have C6 := Lib.hid (C3.out.kept k6 (by simp)); have T6 := Lib.hid t6; have S6 : Hid (w6.heap[RS]? = some (.cells #[.int .u16 s.ty, .int .u32 s.dev, .int .u8 s.kd, .int .u32 s.vr, .int .u64 s.pa, .int .u32 s.mo, .int .u32 s.atm, .int .u32 s.mt, .int .u64 s.ln, .string s.nm, .string s.ud, .string s.gd, .string s.mu] 55 (0, 0))) := (k6.block _ (block_lt S3.out) (by simp)).trans S3.out; clear k6 t6))
      clear KNO TAB K2 K3 C2 C3 S2 S3
      go_upto_region 8 with (first | (refine wpList_nmid (by rfl) (.tmp 47) rfl R 2 rfl [.int .u64 n.path, .int .u64 n.parent, .string n.name, .int .u32 n.mode, .string n.uid, .string n.gid, .string n.muid, .int .u32 n.atime, .int .u32 n.mtime, .int .u32 n.vers, .int .u64 n.length, .int .i64 n.opens, .int .i64 n.kids] C6.out.node rfl ?_))
      obtain ⟨w7, hw7⟩ : ∃ w7, w7 = w6.alloc (.cells #[.int .u64 n.path, .int .u64 n.parent, .string n.name, .int .u32 n.mode, .string n.uid, .string n.gid, .string n.muid, .int .u32 n.atime, .int .u32 n.mtime, .int .u32 n.vers, .int .u64 n.length, .int .i64 n.opens, .int .i64 n.kids] 46) := ⟨_, rfl⟩
      obtain ⟨RN, hRN⟩ : ∃ r, r = w6.heap.size := ⟨_, rfl⟩
      rw [← hw7]
      try rw [← hRN]
      have k67 : Kept [] w6 w7 := by rw [hw7]; exact (Kept.refl _ _).alloc _
      have N7 : Hid (w7.heap[RN]? = some (.cells #[.int .u64 n.path, .int .u64 n.parent, .string n.name, .int .u32 n.mode, .string n.uid, .string n.gid, .string n.muid, .int .u32 n.atime, .int .u32 n.mtime, .int .u32 n.vers, .int .u64 n.length, .int .i64 n.opens, .int .i64 n.kids] 46 (0, 0))) := by rw [hw7, hRN]; exact (MapKept.heap_alloc w6 _).1
      have K7 : Hid (Kept [] w w7) := K6.out.trans k67 (fun i hi => by cases hi)
      have C7 := Lib.hid (C6.out.kept k67 (by simp))
      have T7 := Lib.hid (T6.out.kept k67)
      have S7 : Hid (w7.heap[RS]? = some (.cells #[.int .u16 s.ty, .int .u32 s.dev, .int .u8 s.kd, .int .u32 s.vr, .int .u64 s.pa, .int .u32 s.mo, .int .u32 s.atm, .int .u32 s.mt, .int .u64 s.ln, .string s.nm, .string s.ud, .string s.gd, .string s.mu] 55 (0, 0))) := (k67.block _ (block_lt S6.out) (by simp)).trans S6.out
      have FAC : Hid (∀ w', Kept [] w7 w' → Bc w' R text u n p tk fl name pm mode ∧ Tb w' B q T ∧ w'.heap[RS]? = some (.cells #[.int .u16 s.ty, .int .u32 s.dev, .int .u8 s.kd, .int .u32 s.vr, .int .u64 s.pa, .int .u32 s.mo, .int .u32 s.atm, .int .u32 s.mt, .int .u64 s.ln, .string s.nm, .string s.ud, .string s.gd, .string s.mu] 55 (0, 0)) ∧ w'.heap[RN]? = some (.cells #[.int .u64 n.path, .int .u64 n.parent, .string n.name, .int .u32 n.mode, .string n.uid, .string n.gid, .string n.muid, .int .u32 n.atime, .int .u32 n.mtime, .int .u32 n.vers, .int .u64 n.length, .int .i64 n.opens, .int .i64 n.kids] 46 (0, 0))) := fun w' k => ⟨C7.out.kept k (by simp), T7.out.kept k, (k.block _ (block_lt S7.out) (by simp)).trans S7.out, (k.block _ (block_lt N7.out) (by simp)).trans N7.out⟩
      have RR : Hid (R < w7.heap.size ∧ RS < w7.heap.size ∧ RN < w7.heap.size ∧ R ≠ RN) := ⟨C7.out.lt, block_lt S7.out, block_lt N7.out, by have := C6.out.lt; omega⟩
      clear hw7 hRN k67 K6 C6 T6 S6
      have HSA : Hid (∀ w', Kept [] w7 w' → w'.rangeAt R 2 F28 ∧ w'.cell? ⟨R, 1, none⟩ = some (.string u) ∧ w'.heap[RN]? = some (.cells #[.int .u64 n.path, .int .u64 n.parent, .string n.name, .int .u32 n.mode, .string n.uid, .string n.gid, .string n.muid, .int .u32 n.atime, .int .u32 n.mtime, .int .u32 n.vers, .int .u64 n.length, .int .i64 n.opens, .int .i64 n.kids] 46 (0, 0))) := fun w' k => ⟨FR.out _ (FAC.out _ k).1, (FAC.out _ k).1.five.2.1, (FAC.out _ k).2.2.2⟩
      go_cut [8, 9] from 49 to 59 (fun s8 s9 wx => ∃ RA, s8 = .pointer (some ⟨RA, 0, none⟩) ∧ s9 = .int .i64 0 ∧ Hid (wx.heap[RA]? = some (.cells #[.int .u64 n.path, .int .u64 n.parent, .string n.name, .int .u32 n.mode, .string n.uid, .string n.gid, .string n.muid, .int .u32 n.atime, .int .u32 n.mtime, .int .u32 n.vers, .int .u64 n.length, .int .i64 n.opens, .int .i64 n.kids] 46 (0, 0)) ∧ Kept [] w7 wx))
      case first =>
        clear WSK WSX0 SHP BAD KEE
        have KD7 : Hid (Kept [] w7 w7.drew) := (Kept.refl [] w7).drew
        have hb7 := HSA.out _ KD7.out
        refine wp_region_held (S := fun w' => w'.rangeAt R 2 F28 ∧ w'.cell? ⟨R, 1, none⟩ = some (Value.string u) ∧ w'.heap[RN]? = some (.cells #[.int .u64 n.path, .int .u64 n.parent, .string n.name, .int .u32 n.mode, .string n.uid, .string n.gid, .string n.muid, .int .u32 n.atime, .int .u32 n.mtime, .int .u32 n.vers, .int .u64 n.length, .int .i64 n.opens, .int .i64 n.kids] 46 (0, 0))) (by kernel_rfl) ?_
        try (change wpAnyH _ _ _ _ _ _ _ _ (World.drew _))
        refine wpAnyH_take (i := 0) (v := .pointer (some ⟨q, 0, none⟩)) rfl (by kernel_rfl) (by kernel_rfl) (by kernel_rfl) (fun _ _ _ h => h) (Or.inl ⟨by rfl, fun w b => by simp [execOp, go_sem]⟩) hb7 ?_
        refine wpAnyH_take (i := 1) (v := .pointer (some ⟨R, 1, none⟩)) rfl (by kernel_rfl) (by kernel_rfl) (by kernel_rfl) (fun _ _ _ h => h) (Or.inl ⟨by rfl, fun w b => by simp [execOp, go_sem]⟩) hb7 ?_
        refine wpAnyH_take (i := 2) (v := .string u) rfl (by kernel_rfl) (by kernel_rfl) (by kernel_rfl) (fun _ _ _ h => h) (Or.inl ⟨by rfl, fun w b => by have c := b.2.1; simp [execOp, go_sem, c]⟩) hb7 ?_
        refine wpAnyH_take (i := 3) (v := .pointer (some ⟨R, 2, none⟩)) rfl (by kernel_rfl) (by kernel_rfl) (by kernel_rfl) (fun _ _ _ h => h) (Or.inl ⟨by rfl, fun w b => by simp [execOp, go_sem]⟩) hb7 ?_
        refine wpAnyH_take (i := 4) (v := .agg F28.toArray) rfl (by kernel_rfl) (by kernel_rfl) (by kernel_rfl) (fun _ _ _ h => h) (yieldsIf_load_mid (by rfl) 48 (.tmp 53) rfl R 2 (by simp [go_sem]) F28 _ (fun w b => b.1) Tryz.underlying48 rfl (by rw [HL.out]; exact size_f8)) hb7 ?_
        refine wpAnyH_take (i := 5) (v := .agg #[.int .u64 n.path, .int .u64 n.parent, .string n.name, .int .u32 n.mode, .string n.uid, .string n.gid, .string n.muid, .int .u32 n.atime, .int .u32 n.mtime, .int .u32 n.vers, .int .u64 n.length, .int .i64 n.opens, .int .i64 n.kids]) rfl (by kernel_rfl) (by kernel_rfl) (by kernel_rfl) (fun _ _ _ h => h) (yieldsIf_load_mid (by rfl) 46 (.tmp 7) rfl RN 0 (by simp [go_sem]) [.int .u64 n.path, .int .u64 n.parent, .string n.name, .int .u32 n.mode, .string n.uid, .string n.gid, .string n.muid, .int .u32 n.atime, .int .u32 n.mtime, .int .u32 n.vers, .int .u64 n.length, .int .i64 n.opens, .int .i64 n.kids] _ (fun w b => whole_of b.2.2) Tryz.underlying46 rfl size_node9) hb7 ?_
        refine wpAnyH_all (rs := [6, 11]) (by kernel_rfl) (by simp) ?_
        intro j hj
        simp only [List.mem_cons, List.not_mem_nil, or_false] at hj
        rcases hj with rfl | rfl
        · skip
          refine any_callR rfl rfl 18 #[.agg #[.int .u64 n.path, .int .u64 n.parent, .string n.name, .int .u32 n.mode, .string n.uid, .string n.gid, .string n.muid, .int .u32 n.atime, .int .u32 n.mtime, .int .u32 n.vers, .int .u64 n.length, .int .i64 n.opens, .int .i64 n.kids]] (by simp [go_sem]) (REC.out _) ?_
          rintro e v1 ⟨rfl, k1'⟩
          have KC1 : Kept [] w7 v1 := KD7.out.trans k1' (fun i hi => by cases hi)
          refine ⟨_, rfl, HSA.out _ KC1, ?_⟩
          refine wpAnyH_all (rs := [7, 11]) (by kernel_rfl) (by simp) ?_
          intro j hj
          simp only [List.mem_cons, List.not_mem_nil, or_false] at hj
          rcases hj with rfl | rfl
          · skip
            refine any_callR rfl rfl 17 #[.pointer (some ⟨q, 0, none⟩), .string u, .agg F28.toArray, .agg RV] (by simp [go_sem]) (WSO.out _ (FAC.out _ KC1).2.1) ?_
            rintro e v2 ⟨rfl, k2'⟩
            have KC2 : Kept [] w7 v2 := KC1.trans k2' (fun i hi => by cases hi)
            refine ⟨_, rfl, HSA.out _ KC2, ?_⟩
            refine wpAnyH_take (i := 8) (v := .tuple #[.agg #[.int .u64 n.path, .int .u64 n.parent, .string n.name, .int .u32 n.mode, .string n.uid, .string n.gid, .string n.muid, .int .u32 n.atime, .int .u32 n.mtime, .int .u32 n.vers, .int .u64 n.length, .int .i64 n.opens, .int .i64 n.kids], .int .i64 0]) rfl (by kernel_rfl) (by kernel_rfl) (by kernel_rfl) (fun _ _ _ h => h) (Or.inl ⟨by rfl, fun w b => by simp [execOp, go_sem]⟩) (HSA.out _ KC2) ?_
            refine wpAnyH_take (i := 9) (v := .agg #[.int .u64 n.path, .int .u64 n.parent, .string n.name, .int .u32 n.mode, .string n.uid, .string n.gid, .string n.muid, .int .u32 n.atime, .int .u32 n.mtime, .int .u32 n.vers, .int .u64 n.length, .int .i64 n.opens, .int .i64 n.kids]) rfl (by kernel_rfl) (by kernel_rfl) (by kernel_rfl) (fun _ _ _ h => h) (Or.inl ⟨by rfl, fun w b => by simp [execOp, go_sem]⟩) (HSA.out _ KC2) ?_
            refine wpAnyH_take (i := 10) (v := .int .i64 0) rfl (by kernel_rfl) (by kernel_rfl) (by kernel_rfl) (fun _ _ _ h => h) (Or.inl ⟨by rfl, fun w b => by simp [execOp, go_sem]⟩) (HSA.out _ KC2) ?_
            refine wpAnyH_one (i := 11) (by kernel_rfl) ?_
            have KA3 : Kept [] w7 (v2.alloc (.cells #[.int .u64 0, .int .u64 0, .string ⟨#[]⟩, .int .u32 0, .string ⟨#[]⟩, .string ⟨#[]⟩, .string ⟨#[]⟩, .int .u32 0, .int .u32 0, .int .u32 0, .int .u64 0, .int .i64 0, .int .i64 0] 46)) := KC2.alloc _
            have bA3 : (v2.alloc (.cells #[.int .u64 0, .int .u64 0, .string ⟨#[]⟩, .int .u32 0, .string ⟨#[]⟩, .string ⟨#[]⟩, .string ⟨#[]⟩, .int .u32 0, .int .u32 0, .int .u32 0, .int .u64 0, .int .i64 0, .int .i64 0] 46)).heap[v2.heap.size]? = some (.cells #[.int .u64 0, .int .u64 0, .string ⟨#[]⟩, .int .u32 0, .string ⟨#[]⟩, .string ⟨#[]⟩, .string ⟨#[]⟩, .int .u32 0, .int .u32 0, .int .u32 0, .int .u64 0, .int .i64 0, .int .i64 0] 46 (0, 0)) := (MapKept.heap_alloc v2 _).1
            refine any_alloc8 (w' := (v2.alloc (.cells #[.int .u64 0, .int .u64 0, .string ⟨#[]⟩, .int .u32 0, .string ⟨#[]⟩, .string ⟨#[]⟩, .string ⟨#[]⟩, .int .u32 0, .int .u32 0, .int .u32 0, .int .u64 0, .int .i64 0, .int .i64 0] 46))) rfl rfl (.pointer (some ⟨v2.heap.size, 0, none⟩)) (by simp [execOp, go_sem]) ⟨HSA.out _ KA3, ?_⟩
            have k4 : Kept [v2.heap.size] (v2.alloc (.cells #[.int .u64 0, .int .u64 0, .string ⟨#[]⟩, .int .u32 0, .string ⟨#[]⟩, .string ⟨#[]⟩, .string ⟨#[]⟩, .int .u32 0, .int .u32 0, .int .u32 0, .int .u64 0, .int .i64 0, .int .i64 0] 46)) ((v2.alloc (.cells #[.int .u64 0, .int .u64 0, .string ⟨#[]⟩, .int .u32 0, .string ⟨#[]⟩, .string ⟨#[]⟩, .string ⟨#[]⟩, .int .u32 0, .int .u32 0, .int .u32 0, .int .u64 0, .int .i64 0, .int .i64 0] 46)).setRow v2.heap.size #[.int .u64 n.path, .int .u64 n.parent, .string n.name, .int .u32 n.mode, .string n.uid, .string n.gid, .string n.muid, .int .u32 n.atime, .int .u32 n.mtime, .int .u32 n.vers, .int .u64 n.length, .int .i64 n.opens, .int .i64 n.kids]) := ⟨rfl, rfl, rfl, by simp [World.setRow], fun k _ hk => setRow_other _ _ k _ (by simpa using hk)⟩
            have K4 : Kept [] w7 ((v2.alloc (.cells #[.int .u64 0, .int .u64 0, .string ⟨#[]⟩, .int .u32 0, .string ⟨#[]⟩, .string ⟨#[]⟩, .string ⟨#[]⟩, .int .u32 0, .int .u32 0, .int .u32 0, .int .u64 0, .int .i64 0, .int .i64 0] 46)).setRow v2.heap.size #[.int .u64 n.path, .int .u64 n.parent, .string n.name, .int .u32 n.mode, .string n.uid, .string n.gid, .string n.muid, .int .u32 n.atime, .int .u32 n.mtime, .int .u32 n.vers, .int .u64 n.length, .int .i64 n.opens, .int .i64 n.kids]) := KA3.trans k4 (fun i hi => Or.inr (by rw [List.mem_singleton] at hi; subst hi; exact KC2.size))
            refine wpAnyH_one (i := 12) (by kernel_rfl) ?_
            refine any_store8 rfl rfl 46 (.tmp 8) (.tmp 58) (v2.heap.size) #[.int .u64 n.path, .int .u64 n.parent, .string n.name, .int .u32 n.mode, .string n.uid, .string n.gid, .string n.muid, .int .u32 n.atime, .int .u32 n.mtime, .int .u32 n.vers, .int .u64 n.length, .int .i64 n.opens, .int .i64 n.kids] 46 #[.int .u64 0, .int .u64 0, .string ⟨#[]⟩, .int .u32 0, .string ⟨#[]⟩, .string ⟨#[]⟩, .string ⟨#[]⟩, .int .u32 0, .int .u32 0, .int .u32 0, .int .u64 0, .int .i64 0, .int .i64 0] rfl (by simp [go_sem]) (by simp [go_sem]) bA3 size_node9 rfl (by simp [Value.oneCell']) ⟨HSA.out _ K4, ?_⟩
            refine wpAnyH_one (i := 13) (by kernel_rfl) ?_
            refine any_value8 rfl rfl (.int .i64 0) (by simp [execOp, go_sem]) ⟨HSA.out _ K4, ?_⟩
            refine wpAnyH_done (by kernel_rfl) ?_ _
            simp [go_sem]
            go_wp2_with fail
            go_meet
            exact ⟨_, rfl, rfl, setRow_heap _ _ _ #[.int .u64 n.path, .int .u64 n.parent, .string n.name, .int .u32 n.mode, .string n.uid, .string n.gid, .string n.muid, .int .u32 n.atime, .int .u32 n.mtime, .int .u32 n.vers, .int .u64 n.length, .int .i64 n.opens, .int .i64 n.kids] 46 (0, 0) bA3, K4⟩
          · skip
            have KA5 : Kept [] w7 (v1.alloc (.cells #[.int .u64 0, .int .u64 0, .string ⟨#[]⟩, .int .u32 0, .string ⟨#[]⟩, .string ⟨#[]⟩, .string ⟨#[]⟩, .int .u32 0, .int .u32 0, .int .u32 0, .int .u64 0, .int .i64 0, .int .i64 0] 46)) := KC1.alloc _
            have bA5 : (v1.alloc (.cells #[.int .u64 0, .int .u64 0, .string ⟨#[]⟩, .int .u32 0, .string ⟨#[]⟩, .string ⟨#[]⟩, .string ⟨#[]⟩, .int .u32 0, .int .u32 0, .int .u32 0, .int .u64 0, .int .i64 0, .int .i64 0] 46)).heap[v1.heap.size]? = some (.cells #[.int .u64 0, .int .u64 0, .string ⟨#[]⟩, .int .u32 0, .string ⟨#[]⟩, .string ⟨#[]⟩, .string ⟨#[]⟩, .int .u32 0, .int .u32 0, .int .u32 0, .int .u64 0, .int .i64 0, .int .i64 0] 46 (0, 0)) := (MapKept.heap_alloc v1 _).1
            refine any_alloc8 (w' := (v1.alloc (.cells #[.int .u64 0, .int .u64 0, .string ⟨#[]⟩, .int .u32 0, .string ⟨#[]⟩, .string ⟨#[]⟩, .string ⟨#[]⟩, .int .u32 0, .int .u32 0, .int .u32 0, .int .u64 0, .int .i64 0, .int .i64 0] 46))) rfl rfl (.pointer (some ⟨v1.heap.size, 0, none⟩)) (by simp [execOp, go_sem]) ⟨HSA.out _ KA5, ?_⟩
            refine wpAnyH_one (i := 7) (by kernel_rfl) ?_
            refine any_callR rfl rfl 17 #[.pointer (some ⟨q, 0, none⟩), .string u, .agg F28.toArray, .agg RV] (by simp [go_sem]) (WSO.out _ (FAC.out _ KA5).2.1) ?_
            rintro e v6 ⟨rfl, k6'⟩
            have KC6 : Kept [] w7 v6 := KA5.trans k6' (fun i hi => by cases hi)
            have bC6 := (k6'.block _ (block_lt bA5) (by simp)).trans bA5
            refine ⟨_, rfl, HSA.out _ KC6, ?_⟩
            refine wpAnyH_take (i := 8) (v := .tuple #[.agg #[.int .u64 n.path, .int .u64 n.parent, .string n.name, .int .u32 n.mode, .string n.uid, .string n.gid, .string n.muid, .int .u32 n.atime, .int .u32 n.mtime, .int .u32 n.vers, .int .u64 n.length, .int .i64 n.opens, .int .i64 n.kids], .int .i64 0]) rfl (by kernel_rfl) (by kernel_rfl) (by kernel_rfl) (fun _ _ _ h => h) (Or.inl ⟨by rfl, fun w b => by simp [execOp, go_sem]⟩) (HSA.out _ KC6) ?_
            refine wpAnyH_take (i := 9) (v := .agg #[.int .u64 n.path, .int .u64 n.parent, .string n.name, .int .u32 n.mode, .string n.uid, .string n.gid, .string n.muid, .int .u32 n.atime, .int .u32 n.mtime, .int .u32 n.vers, .int .u64 n.length, .int .i64 n.opens, .int .i64 n.kids]) rfl (by kernel_rfl) (by kernel_rfl) (by kernel_rfl) (fun _ _ _ h => h) (Or.inl ⟨by rfl, fun w b => by simp [execOp, go_sem]⟩) (HSA.out _ KC6) ?_
            refine wpAnyH_take (i := 10) (v := .int .i64 0) rfl (by kernel_rfl) (by kernel_rfl) (by kernel_rfl) (fun _ _ _ h => h) (Or.inl ⟨by rfl, fun w b => by simp [execOp, go_sem]⟩) (HSA.out _ KC6) ?_
            have k4 : Kept [v1.heap.size] v6 (v6.setRow v1.heap.size #[.int .u64 n.path, .int .u64 n.parent, .string n.name, .int .u32 n.mode, .string n.uid, .string n.gid, .string n.muid, .int .u32 n.atime, .int .u32 n.mtime, .int .u32 n.vers, .int .u64 n.length, .int .i64 n.opens, .int .i64 n.kids]) := ⟨rfl, rfl, rfl, by simp [World.setRow], fun k _ hk => setRow_other _ _ k _ (by simpa using hk)⟩
            have K4 : Kept [] w7 (v6.setRow v1.heap.size #[.int .u64 n.path, .int .u64 n.parent, .string n.name, .int .u32 n.mode, .string n.uid, .string n.gid, .string n.muid, .int .u32 n.atime, .int .u32 n.mtime, .int .u32 n.vers, .int .u64 n.length, .int .i64 n.opens, .int .i64 n.kids]) := KC6.trans k4 (fun i hi => Or.inr (by rw [List.mem_singleton] at hi; subst hi; exact KC1.size))
            refine wpAnyH_one (i := 12) (by kernel_rfl) ?_
            refine any_store8 rfl rfl 46 (.tmp 8) (.tmp 58) (v1.heap.size) #[.int .u64 n.path, .int .u64 n.parent, .string n.name, .int .u32 n.mode, .string n.uid, .string n.gid, .string n.muid, .int .u32 n.atime, .int .u32 n.mtime, .int .u32 n.vers, .int .u64 n.length, .int .i64 n.opens, .int .i64 n.kids] 46 #[.int .u64 0, .int .u64 0, .string ⟨#[]⟩, .int .u32 0, .string ⟨#[]⟩, .string ⟨#[]⟩, .string ⟨#[]⟩, .int .u32 0, .int .u32 0, .int .u32 0, .int .u64 0, .int .i64 0, .int .i64 0] rfl (by simp [go_sem]) (by simp [go_sem]) bC6 size_node9 rfl (by simp [Value.oneCell']) ⟨HSA.out _ K4, ?_⟩
            refine wpAnyH_one (i := 13) (by kernel_rfl) ?_
            refine any_value8 rfl rfl (.int .i64 0) (by simp [execOp, go_sem]) ⟨HSA.out _ K4, ?_⟩
            refine wpAnyH_done (by kernel_rfl) ?_ _
            simp [go_sem]
            go_wp2_with fail
            go_meet
            exact ⟨_, rfl, rfl, setRow_heap _ _ _ #[.int .u64 n.path, .int .u64 n.parent, .string n.name, .int .u32 n.mode, .string n.uid, .string n.gid, .string n.muid, .int .u32 n.atime, .int .u32 n.mtime, .int .u32 n.vers, .int .u64 n.length, .int .i64 n.opens, .int .i64 n.kids] 46 (0, 0) bC6, K4⟩
        · skip
          have KA8 : Kept [] w7 (w7.drew.alloc (.cells #[.int .u64 0, .int .u64 0, .string ⟨#[]⟩, .int .u32 0, .string ⟨#[]⟩, .string ⟨#[]⟩, .string ⟨#[]⟩, .int .u32 0, .int .u32 0, .int .u32 0, .int .u64 0, .int .i64 0, .int .i64 0] 46)) := KD7.out.alloc _
          have bA8 : (w7.drew.alloc (.cells #[.int .u64 0, .int .u64 0, .string ⟨#[]⟩, .int .u32 0, .string ⟨#[]⟩, .string ⟨#[]⟩, .string ⟨#[]⟩, .int .u32 0, .int .u32 0, .int .u32 0, .int .u64 0, .int .i64 0, .int .i64 0] 46)).heap[w7.drew.heap.size]? = some (.cells #[.int .u64 0, .int .u64 0, .string ⟨#[]⟩, .int .u32 0, .string ⟨#[]⟩, .string ⟨#[]⟩, .string ⟨#[]⟩, .int .u32 0, .int .u32 0, .int .u32 0, .int .u64 0, .int .i64 0, .int .i64 0] 46 (0, 0)) := (MapKept.heap_alloc w7.drew _).1
          refine any_alloc8 (w' := (w7.drew.alloc (.cells #[.int .u64 0, .int .u64 0, .string ⟨#[]⟩, .int .u32 0, .string ⟨#[]⟩, .string ⟨#[]⟩, .string ⟨#[]⟩, .int .u32 0, .int .u32 0, .int .u32 0, .int .u64 0, .int .i64 0, .int .i64 0] 46))) rfl rfl (.pointer (some ⟨w7.drew.heap.size, 0, none⟩)) (by simp [execOp, go_sem]) ⟨HSA.out _ KA8, ?_⟩
          refine wpAnyH_one (i := 6) (by kernel_rfl) ?_
          refine any_callR rfl rfl 18 #[.agg #[.int .u64 n.path, .int .u64 n.parent, .string n.name, .int .u32 n.mode, .string n.uid, .string n.gid, .string n.muid, .int .u32 n.atime, .int .u32 n.mtime, .int .u32 n.vers, .int .u64 n.length, .int .i64 n.opens, .int .i64 n.kids]] (by simp [go_sem]) (REC.out _) ?_
          rintro e v9 ⟨rfl, k9'⟩
          have KC9 : Kept [] w7 v9 := KA8.trans k9' (fun i hi => by cases hi)
          have bC9 := (k9'.block _ (block_lt bA8) (by simp)).trans bA8
          refine ⟨_, rfl, HSA.out _ KC9, ?_⟩
          refine wpAnyH_one (i := 7) (by kernel_rfl) ?_
          refine any_callR rfl rfl 17 #[.pointer (some ⟨q, 0, none⟩), .string u, .agg F28.toArray, .agg RV] (by simp [go_sem]) (WSO.out _ (FAC.out _ KC9).2.1) ?_
          rintro e v10 ⟨rfl, k10'⟩
          have KC10 : Kept [] w7 v10 := KC9.trans k10' (fun i hi => by cases hi)
          have bC10 := (k10'.block _ (block_lt bC9) (by simp)).trans bC9
          refine ⟨_, rfl, HSA.out _ KC10, ?_⟩
          refine wpAnyH_take (i := 8) (v := .tuple #[.agg #[.int .u64 n.path, .int .u64 n.parent, .string n.name, .int .u32 n.mode, .string n.uid, .string n.gid, .string n.muid, .int .u32 n.atime, .int .u32 n.mtime, .int .u32 n.vers, .int .u64 n.length, .int .i64 n.opens, .int .i64 n.kids], .int .i64 0]) rfl (by kernel_rfl) (by kernel_rfl) (by kernel_rfl) (fun _ _ _ h => h) (Or.inl ⟨by rfl, fun w b => by simp [execOp, go_sem]⟩) (HSA.out _ KC10) ?_
          refine wpAnyH_take (i := 9) (v := .agg #[.int .u64 n.path, .int .u64 n.parent, .string n.name, .int .u32 n.mode, .string n.uid, .string n.gid, .string n.muid, .int .u32 n.atime, .int .u32 n.mtime, .int .u32 n.vers, .int .u64 n.length, .int .i64 n.opens, .int .i64 n.kids]) rfl (by kernel_rfl) (by kernel_rfl) (by kernel_rfl) (fun _ _ _ h => h) (Or.inl ⟨by rfl, fun w b => by simp [execOp, go_sem]⟩) (HSA.out _ KC10) ?_
          refine wpAnyH_take (i := 10) (v := .int .i64 0) rfl (by kernel_rfl) (by kernel_rfl) (by kernel_rfl) (fun _ _ _ h => h) (Or.inl ⟨by rfl, fun w b => by simp [execOp, go_sem]⟩) (HSA.out _ KC10) ?_
          have k4 : Kept [w7.drew.heap.size] v10 (v10.setRow w7.drew.heap.size #[.int .u64 n.path, .int .u64 n.parent, .string n.name, .int .u32 n.mode, .string n.uid, .string n.gid, .string n.muid, .int .u32 n.atime, .int .u32 n.mtime, .int .u32 n.vers, .int .u64 n.length, .int .i64 n.opens, .int .i64 n.kids]) := ⟨rfl, rfl, rfl, by simp [World.setRow], fun k _ hk => setRow_other _ _ k _ (by simpa using hk)⟩
          have K4 : Kept [] w7 (v10.setRow w7.drew.heap.size #[.int .u64 n.path, .int .u64 n.parent, .string n.name, .int .u32 n.mode, .string n.uid, .string n.gid, .string n.muid, .int .u32 n.atime, .int .u32 n.mtime, .int .u32 n.vers, .int .u64 n.length, .int .i64 n.opens, .int .i64 n.kids]) := KC10.trans k4 (fun i hi => Or.inr (by rw [List.mem_singleton] at hi; subst hi; exact KD7.out.size))
          refine wpAnyH_one (i := 12) (by kernel_rfl) ?_
          refine any_store8 rfl rfl 46 (.tmp 8) (.tmp 58) (w7.drew.heap.size) #[.int .u64 n.path, .int .u64 n.parent, .string n.name, .int .u32 n.mode, .string n.uid, .string n.gid, .string n.muid, .int .u32 n.atime, .int .u32 n.mtime, .int .u32 n.vers, .int .u64 n.length, .int .i64 n.opens, .int .i64 n.kids] 46 #[.int .u64 0, .int .u64 0, .string ⟨#[]⟩, .int .u32 0, .string ⟨#[]⟩, .string ⟨#[]⟩, .string ⟨#[]⟩, .int .u32 0, .int .u32 0, .int .u32 0, .int .u64 0, .int .i64 0, .int .i64 0] rfl (by simp [go_sem]) (by simp [go_sem]) bC10 size_node9 rfl (by simp [Value.oneCell']) ⟨HSA.out _ K4, ?_⟩
          refine wpAnyH_one (i := 13) (by kernel_rfl) ?_
          refine any_value8 rfl rfl (.int .i64 0) (by simp [execOp, go_sem]) ⟨HSA.out _ K4, ?_⟩
          refine wpAnyH_done (by kernel_rfl) ?_ _
          simp [go_sem]
          go_wp2_with fail
          go_meet
          exact ⟨_, rfl, rfl, setRow_heap _ _ _ #[.int .u64 n.path, .int .u64 n.parent, .string n.name, .int .u32 n.mode, .string n.uid, .string n.gid, .string n.muid, .int .u32 n.atime, .int .u32 n.mtime, .int .u32 n.vers, .int .u64 n.length, .int .i64 n.opens, .int .i64 n.kids] 46 (0, 0) bC10, K4⟩
      case rest =>
        obtain ⟨RA, rfl, rfl, hA⟩ := hcut
        obtain ⟨w8, hw8⟩ : ∃ x, x = wc := ⟨_, rfl⟩
        subst hw8
        have HSB : Hid (∀ w', Kept [] w8 w' → w'.rangeAt R 2 F28 ∧ w'.cell? ⟨R, 1, none⟩ = some (.string u) ∧ w'.heap[RN]? = some (.cells #[.int .u64 n.path, .int .u64 n.parent, .string n.name, .int .u32 n.mode, .string n.uid, .string n.gid, .string n.muid, .int .u32 n.atime, .int .u32 n.mtime, .int .u32 n.vers, .int .u64 n.length, .int .i64 n.opens, .int .i64 n.kids] 46 (0, 0))) := fun w' k => HSA.out _ (hA.out.2.trans k (fun i hi => by cases hi))
        have FAB : Hid (∀ w', Kept [] w8 w' → Tb w' B q T) := fun w' k => (FAC.out _ (hA.out.2.trans k (fun i hi => by cases hi))).2.1
        go_upto_region 9 with fail
        go_cut [10, 11] from 60 to 69 (fun s10 s11 wx => ∃ RB, s10 = .pointer (some ⟨RB, 0, none⟩) ∧ s11 = .int .i64 0 ∧ Hid (wx.heap[RB]? = some (.cells #[.int .u64 n.path, .int .u64 n.parent, .string n.name, .int .u32 n.mode, .string n.uid, .string n.gid, .string n.muid, .int .u32 n.atime, .int .u32 n.mtime, .int .u32 n.vers, .int .u64 n.length, .int .i64 n.opens, .int .i64 n.kids] 46 (0, 0)) ∧ Kept [] w8 wx))
        case first =>
          clear WSO WSX0 SHP BAD REC
          have KD8 : Hid (Kept [] w8 w8.drew) := (Kept.refl [] w8).drew
          have hb8 := HSB.out _ KD8.out
          refine wp_region_held (S := fun w' => w'.rangeAt R 2 F28 ∧ w'.cell? ⟨R, 1, none⟩ = some (Value.string u) ∧ w'.heap[RN]? = some (.cells #[.int .u64 n.path, .int .u64 n.parent, .string n.name, .int .u32 n.mode, .string n.uid, .string n.gid, .string n.muid, .int .u32 n.atime, .int .u32 n.mtime, .int .u32 n.vers, .int .u64 n.length, .int .i64 n.opens, .int .i64 n.kids] 46 (0, 0))) (by kernel_rfl) ?_
          try (change wpAnyH _ _ _ _ _ _ _ _ (World.drew _))
          refine wpAnyH_take (i := 0) (v := .pointer (some ⟨q, 0, none⟩)) rfl (by kernel_rfl) (by kernel_rfl) (by kernel_rfl) (fun _ _ _ h => h) (Or.inl ⟨by rfl, fun w b => by simp [execOp, go_sem]⟩) hb8 ?_
          refine wpAnyH_take (i := 1) (v := .pointer (some ⟨R, 1, none⟩)) rfl (by kernel_rfl) (by kernel_rfl) (by kernel_rfl) (fun _ _ _ h => h) (Or.inl ⟨by rfl, fun w b => by simp [execOp, go_sem]⟩) hb8 ?_
          refine wpAnyH_take (i := 2) (v := .string u) rfl (by kernel_rfl) (by kernel_rfl) (by kernel_rfl) (fun _ _ _ h => h) (Or.inl ⟨by rfl, fun w b => by have c := b.2.1; simp [execOp, go_sem, c]⟩) hb8 ?_
          refine wpAnyH_take (i := 3) (v := .pointer (some ⟨R, 2, none⟩)) rfl (by kernel_rfl) (by kernel_rfl) (by kernel_rfl) (fun _ _ _ h => h) (Or.inl ⟨by rfl, fun w b => by simp [execOp, go_sem]⟩) hb8 ?_
          refine wpAnyH_take (i := 4) (v := .agg F28.toArray) rfl (by kernel_rfl) (by kernel_rfl) (by kernel_rfl) (fun _ _ _ h => h) (yieldsIf_load_mid (by rfl) 48 (.tmp 64) rfl R 2 (by simp [go_sem]) F28 _ (fun w b => b.1) Tryz.underlying48 rfl (by rw [HL.out]; exact size_f8)) hb8 ?_
          refine wpAnyH_all (rs := [5, 10]) (by kernel_rfl) (by simp) ?_
          intro j hj
          simp only [List.mem_cons, List.not_mem_nil, or_false] at hj
          rcases hj with rfl | rfl
          · skip
            refine any_callR rfl rfl 19 #[] (by simp [go_sem]) (KEE.out _) ?_
            rintro e v1 ⟨rfl, k1'⟩
            have KC1 : Kept [] w8 v1 := KD8.out.trans k1' (fun i hi => by cases hi)
            refine ⟨_, rfl, HSB.out _ KC1, ?_⟩
            refine wpAnyH_all (rs := [6, 10]) (by kernel_rfl) (by simp) ?_
            intro j hj
            simp only [List.mem_cons, List.not_mem_nil, or_false] at hj
            rcases hj with rfl | rfl
            · skip
              refine any_callR rfl rfl 17 #[.pointer (some ⟨q, 0, none⟩), .string u, .agg F28.toArray, .agg #[.int .u16 65535, .int .u32 4294967295, .int .u8 255, .int .u32 4294967295, .int .u64 18446744073709551615, .int .u32 4294967295, .int .u32 4294967295, .int .u32 4294967295, .int .u64 18446744073709551615, .string ⟨#[]⟩, .string ⟨#[]⟩, .string ⟨#[]⟩, .string ⟨#[]⟩]] (by simp [go_sem]) (WSK.out _ (FAB.out _ KC1)) ?_
              rintro e v2 ⟨rfl, k2'⟩
              have KC2 : Kept [] w8 v2 := KC1.trans k2' (fun i hi => by cases hi)
              refine ⟨_, rfl, HSB.out _ KC2, ?_⟩
              refine wpAnyH_take (i := 7) (v := .tuple #[.agg #[.int .u64 n.path, .int .u64 n.parent, .string n.name, .int .u32 n.mode, .string n.uid, .string n.gid, .string n.muid, .int .u32 n.atime, .int .u32 n.mtime, .int .u32 n.vers, .int .u64 n.length, .int .i64 n.opens, .int .i64 n.kids], .int .i64 0]) rfl (by kernel_rfl) (by kernel_rfl) (by kernel_rfl) (fun _ _ _ h => h) (Or.inl ⟨by rfl, fun w b => by simp [execOp, go_sem]⟩) (HSB.out _ KC2) ?_
              refine wpAnyH_take (i := 8) (v := .agg #[.int .u64 n.path, .int .u64 n.parent, .string n.name, .int .u32 n.mode, .string n.uid, .string n.gid, .string n.muid, .int .u32 n.atime, .int .u32 n.mtime, .int .u32 n.vers, .int .u64 n.length, .int .i64 n.opens, .int .i64 n.kids]) rfl (by kernel_rfl) (by kernel_rfl) (by kernel_rfl) (fun _ _ _ h => h) (Or.inl ⟨by rfl, fun w b => by simp [execOp, go_sem]⟩) (HSB.out _ KC2) ?_
              refine wpAnyH_take (i := 9) (v := .int .i64 0) rfl (by kernel_rfl) (by kernel_rfl) (by kernel_rfl) (fun _ _ _ h => h) (Or.inl ⟨by rfl, fun w b => by simp [execOp, go_sem]⟩) (HSB.out _ KC2) ?_
              refine wpAnyH_one (i := 10) (by kernel_rfl) ?_
              have KA3 : Kept [] w8 (v2.alloc (.cells #[.int .u64 0, .int .u64 0, .string ⟨#[]⟩, .int .u32 0, .string ⟨#[]⟩, .string ⟨#[]⟩, .string ⟨#[]⟩, .int .u32 0, .int .u32 0, .int .u32 0, .int .u64 0, .int .i64 0, .int .i64 0] 46)) := KC2.alloc _
              have bA3 : (v2.alloc (.cells #[.int .u64 0, .int .u64 0, .string ⟨#[]⟩, .int .u32 0, .string ⟨#[]⟩, .string ⟨#[]⟩, .string ⟨#[]⟩, .int .u32 0, .int .u32 0, .int .u32 0, .int .u64 0, .int .i64 0, .int .i64 0] 46)).heap[v2.heap.size]? = some (.cells #[.int .u64 0, .int .u64 0, .string ⟨#[]⟩, .int .u32 0, .string ⟨#[]⟩, .string ⟨#[]⟩, .string ⟨#[]⟩, .int .u32 0, .int .u32 0, .int .u32 0, .int .u64 0, .int .i64 0, .int .i64 0] 46 (0, 0)) := (MapKept.heap_alloc v2 _).1
              refine any_alloc8 (w' := (v2.alloc (.cells #[.int .u64 0, .int .u64 0, .string ⟨#[]⟩, .int .u32 0, .string ⟨#[]⟩, .string ⟨#[]⟩, .string ⟨#[]⟩, .int .u32 0, .int .u32 0, .int .u32 0, .int .u64 0, .int .i64 0, .int .i64 0] 46))) rfl rfl (.pointer (some ⟨v2.heap.size, 0, none⟩)) (by simp [execOp, go_sem]) ⟨HSB.out _ KA3, ?_⟩
              have k4 : Kept [v2.heap.size] (v2.alloc (.cells #[.int .u64 0, .int .u64 0, .string ⟨#[]⟩, .int .u32 0, .string ⟨#[]⟩, .string ⟨#[]⟩, .string ⟨#[]⟩, .int .u32 0, .int .u32 0, .int .u32 0, .int .u64 0, .int .i64 0, .int .i64 0] 46)) ((v2.alloc (.cells #[.int .u64 0, .int .u64 0, .string ⟨#[]⟩, .int .u32 0, .string ⟨#[]⟩, .string ⟨#[]⟩, .string ⟨#[]⟩, .int .u32 0, .int .u32 0, .int .u32 0, .int .u64 0, .int .i64 0, .int .i64 0] 46)).setRow v2.heap.size #[.int .u64 n.path, .int .u64 n.parent, .string n.name, .int .u32 n.mode, .string n.uid, .string n.gid, .string n.muid, .int .u32 n.atime, .int .u32 n.mtime, .int .u32 n.vers, .int .u64 n.length, .int .i64 n.opens, .int .i64 n.kids]) := ⟨rfl, rfl, rfl, by simp [World.setRow], fun k _ hk => setRow_other _ _ k _ (by simpa using hk)⟩
              have K4 : Kept [] w8 ((v2.alloc (.cells #[.int .u64 0, .int .u64 0, .string ⟨#[]⟩, .int .u32 0, .string ⟨#[]⟩, .string ⟨#[]⟩, .string ⟨#[]⟩, .int .u32 0, .int .u32 0, .int .u32 0, .int .u64 0, .int .i64 0, .int .i64 0] 46)).setRow v2.heap.size #[.int .u64 n.path, .int .u64 n.parent, .string n.name, .int .u32 n.mode, .string n.uid, .string n.gid, .string n.muid, .int .u32 n.atime, .int .u32 n.mtime, .int .u32 n.vers, .int .u64 n.length, .int .i64 n.opens, .int .i64 n.kids]) := KA3.trans k4 (fun i hi => Or.inr (by rw [List.mem_singleton] at hi; subst hi; exact KC2.size))
              refine wpAnyH_one (i := 11) (by kernel_rfl) ?_
              refine any_store8 rfl rfl 46 (.tmp 10) (.tmp 68) (v2.heap.size) #[.int .u64 n.path, .int .u64 n.parent, .string n.name, .int .u32 n.mode, .string n.uid, .string n.gid, .string n.muid, .int .u32 n.atime, .int .u32 n.mtime, .int .u32 n.vers, .int .u64 n.length, .int .i64 n.opens, .int .i64 n.kids] 46 #[.int .u64 0, .int .u64 0, .string ⟨#[]⟩, .int .u32 0, .string ⟨#[]⟩, .string ⟨#[]⟩, .string ⟨#[]⟩, .int .u32 0, .int .u32 0, .int .u32 0, .int .u64 0, .int .i64 0, .int .i64 0] rfl (by simp [go_sem]) (by simp [go_sem]) bA3 size_node9 rfl (by simp [Value.oneCell']) ⟨HSB.out _ K4, ?_⟩
              refine wpAnyH_one (i := 12) (by kernel_rfl) ?_
              refine any_value8 rfl rfl (.int .i64 0) (by simp [execOp, go_sem]) ⟨HSB.out _ K4, ?_⟩
              refine wpAnyH_done (by kernel_rfl) ?_ _
              simp [go_sem]
              go_wp2_with fail
              go_meet
              exact ⟨_, rfl, rfl, setRow_heap _ _ _ #[.int .u64 n.path, .int .u64 n.parent, .string n.name, .int .u32 n.mode, .string n.uid, .string n.gid, .string n.muid, .int .u32 n.atime, .int .u32 n.mtime, .int .u32 n.vers, .int .u64 n.length, .int .i64 n.opens, .int .i64 n.kids] 46 (0, 0) bA3, K4⟩
            · skip
              have KA5 : Kept [] w8 (v1.alloc (.cells #[.int .u64 0, .int .u64 0, .string ⟨#[]⟩, .int .u32 0, .string ⟨#[]⟩, .string ⟨#[]⟩, .string ⟨#[]⟩, .int .u32 0, .int .u32 0, .int .u32 0, .int .u64 0, .int .i64 0, .int .i64 0] 46)) := KC1.alloc _
              have bA5 : (v1.alloc (.cells #[.int .u64 0, .int .u64 0, .string ⟨#[]⟩, .int .u32 0, .string ⟨#[]⟩, .string ⟨#[]⟩, .string ⟨#[]⟩, .int .u32 0, .int .u32 0, .int .u32 0, .int .u64 0, .int .i64 0, .int .i64 0] 46)).heap[v1.heap.size]? = some (.cells #[.int .u64 0, .int .u64 0, .string ⟨#[]⟩, .int .u32 0, .string ⟨#[]⟩, .string ⟨#[]⟩, .string ⟨#[]⟩, .int .u32 0, .int .u32 0, .int .u32 0, .int .u64 0, .int .i64 0, .int .i64 0] 46 (0, 0)) := (MapKept.heap_alloc v1 _).1
              refine any_alloc8 (w' := (v1.alloc (.cells #[.int .u64 0, .int .u64 0, .string ⟨#[]⟩, .int .u32 0, .string ⟨#[]⟩, .string ⟨#[]⟩, .string ⟨#[]⟩, .int .u32 0, .int .u32 0, .int .u32 0, .int .u64 0, .int .i64 0, .int .i64 0] 46))) rfl rfl (.pointer (some ⟨v1.heap.size, 0, none⟩)) (by simp [execOp, go_sem]) ⟨HSB.out _ KA5, ?_⟩
              refine wpAnyH_one (i := 6) (by kernel_rfl) ?_
              refine any_callR rfl rfl 17 #[.pointer (some ⟨q, 0, none⟩), .string u, .agg F28.toArray, .agg #[.int .u16 65535, .int .u32 4294967295, .int .u8 255, .int .u32 4294967295, .int .u64 18446744073709551615, .int .u32 4294967295, .int .u32 4294967295, .int .u32 4294967295, .int .u64 18446744073709551615, .string ⟨#[]⟩, .string ⟨#[]⟩, .string ⟨#[]⟩, .string ⟨#[]⟩]] (by simp [go_sem]) (WSK.out _ (FAB.out _ KA5)) ?_
              rintro e v6 ⟨rfl, k6'⟩
              have KC6 : Kept [] w8 v6 := KA5.trans k6' (fun i hi => by cases hi)
              have bC6 := (k6'.block _ (block_lt bA5) (by simp)).trans bA5
              refine ⟨_, rfl, HSB.out _ KC6, ?_⟩
              refine wpAnyH_take (i := 7) (v := .tuple #[.agg #[.int .u64 n.path, .int .u64 n.parent, .string n.name, .int .u32 n.mode, .string n.uid, .string n.gid, .string n.muid, .int .u32 n.atime, .int .u32 n.mtime, .int .u32 n.vers, .int .u64 n.length, .int .i64 n.opens, .int .i64 n.kids], .int .i64 0]) rfl (by kernel_rfl) (by kernel_rfl) (by kernel_rfl) (fun _ _ _ h => h) (Or.inl ⟨by rfl, fun w b => by simp [execOp, go_sem]⟩) (HSB.out _ KC6) ?_
              refine wpAnyH_take (i := 8) (v := .agg #[.int .u64 n.path, .int .u64 n.parent, .string n.name, .int .u32 n.mode, .string n.uid, .string n.gid, .string n.muid, .int .u32 n.atime, .int .u32 n.mtime, .int .u32 n.vers, .int .u64 n.length, .int .i64 n.opens, .int .i64 n.kids]) rfl (by kernel_rfl) (by kernel_rfl) (by kernel_rfl) (fun _ _ _ h => h) (Or.inl ⟨by rfl, fun w b => by simp [execOp, go_sem]⟩) (HSB.out _ KC6) ?_
              refine wpAnyH_take (i := 9) (v := .int .i64 0) rfl (by kernel_rfl) (by kernel_rfl) (by kernel_rfl) (fun _ _ _ h => h) (Or.inl ⟨by rfl, fun w b => by simp [execOp, go_sem]⟩) (HSB.out _ KC6) ?_
              have k4 : Kept [v1.heap.size] v6 (v6.setRow v1.heap.size #[.int .u64 n.path, .int .u64 n.parent, .string n.name, .int .u32 n.mode, .string n.uid, .string n.gid, .string n.muid, .int .u32 n.atime, .int .u32 n.mtime, .int .u32 n.vers, .int .u64 n.length, .int .i64 n.opens, .int .i64 n.kids]) := ⟨rfl, rfl, rfl, by simp [World.setRow], fun k _ hk => setRow_other _ _ k _ (by simpa using hk)⟩
              have K4 : Kept [] w8 (v6.setRow v1.heap.size #[.int .u64 n.path, .int .u64 n.parent, .string n.name, .int .u32 n.mode, .string n.uid, .string n.gid, .string n.muid, .int .u32 n.atime, .int .u32 n.mtime, .int .u32 n.vers, .int .u64 n.length, .int .i64 n.opens, .int .i64 n.kids]) := KC6.trans k4 (fun i hi => Or.inr (by rw [List.mem_singleton] at hi; subst hi; exact KC1.size))
              refine wpAnyH_one (i := 11) (by kernel_rfl) ?_
              refine any_store8 rfl rfl 46 (.tmp 10) (.tmp 68) (v1.heap.size) #[.int .u64 n.path, .int .u64 n.parent, .string n.name, .int .u32 n.mode, .string n.uid, .string n.gid, .string n.muid, .int .u32 n.atime, .int .u32 n.mtime, .int .u32 n.vers, .int .u64 n.length, .int .i64 n.opens, .int .i64 n.kids] 46 #[.int .u64 0, .int .u64 0, .string ⟨#[]⟩, .int .u32 0, .string ⟨#[]⟩, .string ⟨#[]⟩, .string ⟨#[]⟩, .int .u32 0, .int .u32 0, .int .u32 0, .int .u64 0, .int .i64 0, .int .i64 0] rfl (by simp [go_sem]) (by simp [go_sem]) bC6 size_node9 rfl (by simp [Value.oneCell']) ⟨HSB.out _ K4, ?_⟩
              refine wpAnyH_one (i := 12) (by kernel_rfl) ?_
              refine any_value8 rfl rfl (.int .i64 0) (by simp [execOp, go_sem]) ⟨HSB.out _ K4, ?_⟩
              refine wpAnyH_done (by kernel_rfl) ?_ _
              simp [go_sem]
              go_wp2_with fail
              go_meet
              exact ⟨_, rfl, rfl, setRow_heap _ _ _ #[.int .u64 n.path, .int .u64 n.parent, .string n.name, .int .u32 n.mode, .string n.uid, .string n.gid, .string n.muid, .int .u32 n.atime, .int .u32 n.mtime, .int .u32 n.vers, .int .u64 n.length, .int .i64 n.opens, .int .i64 n.kids] 46 (0, 0) bC6, K4⟩
          · skip
            have KA8 : Kept [] w8 (w8.drew.alloc (.cells #[.int .u64 0, .int .u64 0, .string ⟨#[]⟩, .int .u32 0, .string ⟨#[]⟩, .string ⟨#[]⟩, .string ⟨#[]⟩, .int .u32 0, .int .u32 0, .int .u32 0, .int .u64 0, .int .i64 0, .int .i64 0] 46)) := KD8.out.alloc _
            have bA8 : (w8.drew.alloc (.cells #[.int .u64 0, .int .u64 0, .string ⟨#[]⟩, .int .u32 0, .string ⟨#[]⟩, .string ⟨#[]⟩, .string ⟨#[]⟩, .int .u32 0, .int .u32 0, .int .u32 0, .int .u64 0, .int .i64 0, .int .i64 0] 46)).heap[w8.drew.heap.size]? = some (.cells #[.int .u64 0, .int .u64 0, .string ⟨#[]⟩, .int .u32 0, .string ⟨#[]⟩, .string ⟨#[]⟩, .string ⟨#[]⟩, .int .u32 0, .int .u32 0, .int .u32 0, .int .u64 0, .int .i64 0, .int .i64 0] 46 (0, 0)) := (MapKept.heap_alloc w8.drew _).1
            refine any_alloc8 (w' := (w8.drew.alloc (.cells #[.int .u64 0, .int .u64 0, .string ⟨#[]⟩, .int .u32 0, .string ⟨#[]⟩, .string ⟨#[]⟩, .string ⟨#[]⟩, .int .u32 0, .int .u32 0, .int .u32 0, .int .u64 0, .int .i64 0, .int .i64 0] 46))) rfl rfl (.pointer (some ⟨w8.drew.heap.size, 0, none⟩)) (by simp [execOp, go_sem]) ⟨HSB.out _ KA8, ?_⟩
            refine wpAnyH_one (i := 5) (by kernel_rfl) ?_
            refine any_callR rfl rfl 19 #[] (by simp [go_sem]) (KEE.out _) ?_
            rintro e v9 ⟨rfl, k9'⟩
            have KC9 : Kept [] w8 v9 := KA8.trans k9' (fun i hi => by cases hi)
            have bC9 := (k9'.block _ (block_lt bA8) (by simp)).trans bA8
            refine ⟨_, rfl, HSB.out _ KC9, ?_⟩
            refine wpAnyH_one (i := 6) (by kernel_rfl) ?_
            refine any_callR rfl rfl 17 #[.pointer (some ⟨q, 0, none⟩), .string u, .agg F28.toArray, .agg #[.int .u16 65535, .int .u32 4294967295, .int .u8 255, .int .u32 4294967295, .int .u64 18446744073709551615, .int .u32 4294967295, .int .u32 4294967295, .int .u32 4294967295, .int .u64 18446744073709551615, .string ⟨#[]⟩, .string ⟨#[]⟩, .string ⟨#[]⟩, .string ⟨#[]⟩]] (by simp [go_sem]) (WSK.out _ (FAB.out _ KC9)) ?_
            rintro e v10 ⟨rfl, k10'⟩
            have KC10 : Kept [] w8 v10 := KC9.trans k10' (fun i hi => by cases hi)
            have bC10 := (k10'.block _ (block_lt bC9) (by simp)).trans bC9
            refine ⟨_, rfl, HSB.out _ KC10, ?_⟩
            refine wpAnyH_take (i := 7) (v := .tuple #[.agg #[.int .u64 n.path, .int .u64 n.parent, .string n.name, .int .u32 n.mode, .string n.uid, .string n.gid, .string n.muid, .int .u32 n.atime, .int .u32 n.mtime, .int .u32 n.vers, .int .u64 n.length, .int .i64 n.opens, .int .i64 n.kids], .int .i64 0]) rfl (by kernel_rfl) (by kernel_rfl) (by kernel_rfl) (fun _ _ _ h => h) (Or.inl ⟨by rfl, fun w b => by simp [execOp, go_sem]⟩) (HSB.out _ KC10) ?_
            refine wpAnyH_take (i := 8) (v := .agg #[.int .u64 n.path, .int .u64 n.parent, .string n.name, .int .u32 n.mode, .string n.uid, .string n.gid, .string n.muid, .int .u32 n.atime, .int .u32 n.mtime, .int .u32 n.vers, .int .u64 n.length, .int .i64 n.opens, .int .i64 n.kids]) rfl (by kernel_rfl) (by kernel_rfl) (by kernel_rfl) (fun _ _ _ h => h) (Or.inl ⟨by rfl, fun w b => by simp [execOp, go_sem]⟩) (HSB.out _ KC10) ?_
            refine wpAnyH_take (i := 9) (v := .int .i64 0) rfl (by kernel_rfl) (by kernel_rfl) (by kernel_rfl) (fun _ _ _ h => h) (Or.inl ⟨by rfl, fun w b => by simp [execOp, go_sem]⟩) (HSB.out _ KC10) ?_
            have k4 : Kept [w8.drew.heap.size] v10 (v10.setRow w8.drew.heap.size #[.int .u64 n.path, .int .u64 n.parent, .string n.name, .int .u32 n.mode, .string n.uid, .string n.gid, .string n.muid, .int .u32 n.atime, .int .u32 n.mtime, .int .u32 n.vers, .int .u64 n.length, .int .i64 n.opens, .int .i64 n.kids]) := ⟨rfl, rfl, rfl, by simp [World.setRow], fun k _ hk => setRow_other _ _ k _ (by simpa using hk)⟩
            have K4 : Kept [] w8 (v10.setRow w8.drew.heap.size #[.int .u64 n.path, .int .u64 n.parent, .string n.name, .int .u32 n.mode, .string n.uid, .string n.gid, .string n.muid, .int .u32 n.atime, .int .u32 n.mtime, .int .u32 n.vers, .int .u64 n.length, .int .i64 n.opens, .int .i64 n.kids]) := KC10.trans k4 (fun i hi => Or.inr (by rw [List.mem_singleton] at hi; subst hi; exact KD8.out.size))
            refine wpAnyH_one (i := 11) (by kernel_rfl) ?_
            refine any_store8 rfl rfl 46 (.tmp 10) (.tmp 68) (w8.drew.heap.size) #[.int .u64 n.path, .int .u64 n.parent, .string n.name, .int .u32 n.mode, .string n.uid, .string n.gid, .string n.muid, .int .u32 n.atime, .int .u32 n.mtime, .int .u32 n.vers, .int .u64 n.length, .int .i64 n.opens, .int .i64 n.kids] 46 #[.int .u64 0, .int .u64 0, .string ⟨#[]⟩, .int .u32 0, .string ⟨#[]⟩, .string ⟨#[]⟩, .string ⟨#[]⟩, .int .u32 0, .int .u32 0, .int .u32 0, .int .u64 0, .int .i64 0, .int .i64 0] rfl (by simp [go_sem]) (by simp [go_sem]) bC10 size_node9 rfl (by simp [Value.oneCell']) ⟨HSB.out _ K4, ?_⟩
            refine wpAnyH_one (i := 12) (by kernel_rfl) ?_
            refine any_value8 rfl rfl (.int .i64 0) (by simp [execOp, go_sem]) ⟨HSB.out _ K4, ?_⟩
            refine wpAnyH_done (by kernel_rfl) ?_ _
            simp [go_sem]
            go_wp2_with fail
            go_meet
            exact ⟨_, rfl, rfl, setRow_heap _ _ _ #[.int .u64 n.path, .int .u64 n.parent, .string n.name, .int .u32 n.mode, .string n.uid, .string n.gid, .string n.muid, .int .u32 n.atime, .int .u32 n.mtime, .int .u32 n.vers, .int .u64 n.length, .int .i64 n.opens, .int .i64 n.kids] 46 (0, 0) bC10, K4⟩
        case rest =>
          obtain ⟨RB, rfl, rfl, hB⟩ := hcut
          obtain ⟨w9, hw9⟩ : ∃ x, x = wc := ⟨_, rfl⟩
          subst hw9
          have L9 : Hid (Kept [] w7 w9) := hA.out.2.trans hB.out.2 (fun i hi => by cases hi)
          have A9 : Hid (w9.heap[RA]? = some (.cells #[.int .u64 n.path, .int .u64 n.parent, .string n.name, .int .u32 n.mode, .string n.uid, .string n.gid, .string n.muid, .int .u32 n.atime, .int .u32 n.mtime, .int .u32 n.vers, .int .u64 n.length, .int .i64 n.opens, .int .i64 n.kids] 46 (0, 0))) := (hB.out.2.block _ (block_lt hA.out.1) (by simp)).trans hA.out.1
          have B9 := Lib.hid hB.out.1
          have N9 := Lib.hid (FAC.out _ L9.out).2.2.2
          clear hA hB HSB FAB HSA WSO WSK REC KEE
          go_upto_region 12 with (first | (refine wpList_nmid (by rfl) (.tmp 8) rfl RA 0 rfl _ (whole13 A9.out) rfl ?_) | (refine wpList_nmid (by rfl) (.tmp 10) rfl RB 0 rfl _ (whole13 B9.out) rfl ?_) | (refine wpList_nmid (by rfl) (.tmp 7) rfl RN 0 rfl _ (whole13 N9.out) rfl ?_))
          obtain ⟨x0, x1, x30, x31, x32⟩ := (FAC.out _ L9.out).1.five
          by_cases he : e1 = 0
          · obtain ⟨xn, xm, xg, xt, xl, hxe, d2, d3, d5, d8, d10⟩ := SHP he
            subst he
            subst hxe
            have yg : xg.size ≤ maxLen := by rcases d5 with rfl | rfl <;> assumption
            have ym : xm < 4294967296 := by rcases d3 with rfl | rfl <;> omega
            have yn : xn.size ≤ 140737488355328 := by rcases d2 with rfl | rfl <;> assumption
            obtain ⟨G28, hG28⟩ : ∃ F : List Value, F = [.int .u64 n.path, .int .u64 n.parent, .string xn, .int .u32 xm, .string n.uid, .string xg, .string n.muid, .int .u32 n.atime, .int .u32 xt, .int .u32 n.vers, .int .u64 xl, .int .i64 n.opens, .int .i64 n.kids, .int .u64 p.path, .int .u64 p.parent, .string p.name, .int .u32 p.mode, .string p.uid, .string p.gid, .string p.muid, .int .u32 p.atime, .int .u32 p.mtime, .int .u32 p.vers, .int .u64 p.length, .int .i64 p.opens, .int .i64 p.kids, .bool true, .bool fl] := ⟨_, rfl⟩
            have HLG : Hid (G28.length = 28) := by rw [hG28]; rfl
            have GR : Hid (∀ wr, Bc wr R text u ⟨n.path, n.parent, xn, xm, n.uid, xg, n.muid, n.atime, xt, n.vers, xl, n.opens, n.kids⟩ p true fl name pm mode → wr.rangeAt R 2 G28) := fun wr b => by rw [hG28]; exact b.facts
            have hGA : (#[.int .u64 n.path, .int .u64 n.parent, .string xn, .int .u32 xm, .string n.uid, .string xg, .string n.muid, .int .u32 n.atime, .int .u32 xt, .int .u32 n.vers, .int .u64 xl, .int .i64 n.opens, .int .i64 n.kids, .int .u64 p.path, .int .u64 p.parent, .string p.name, .int .u32 p.mode, .string p.uid, .string p.gid, .string p.muid, .int .u32 p.atime, .int .u32 p.mtime, .int .u32 p.vers, .int .u64 p.length, .int .i64 p.opens, .int .i64 p.kids, .bool true, .bool fl] : Array Value) = G28.toArray := by rw [hG28]
            obtain ⟨RV2, hRV2⟩ : ∃ A, A = recV ⟨n.path, n.parent, xn, xm, n.uid, xg, n.muid, n.atime, xt, n.vers, xl, n.opens, n.kids⟩ := ⟨_, rfl⟩
            have REC2 : Hid (∀ w', Calls Tryz.prog 18 #[.agg #[.int .u64 n.path, .int .u64 n.parent, .string xn, .int .u32 xm, .string n.uid, .string xg, .string n.muid, .int .u32 n.atime, .int .u32 xt, .int .u32 n.vers, .int .u64 xl, .int .i64 n.opens, .int .i64 n.kids]] w' fun e w'' => e = .returned (.agg RV2) ∧ Kept [] w' w'') := fun w' => by rw [hRV2]; exact Record_any w' ⟨n.path, n.parent, xn, xm, n.uid, xg, n.muid, n.atime, xt, n.vers, xl, n.opens, n.kids⟩ ym
            have WS2 : Hid (∀ w', ∀ {B q : Nat}, Tb w' B q T → Calls Tryz.prog 17 #[.pointer (some ⟨q, 0, none⟩), .string u, .agg G28.toArray, .agg RV2] w' fun e w'' => e = .returned (.tuple #[.agg #[.int .u64 n.path, .int .u64 n.parent, .string xn, .int .u32 xm, .string n.uid, .string xg, .string n.muid, .int .u32 n.atime, .int .u32 xt, .int .u32 n.vers, .int .u64 xl, .int .i64 n.opens, .int .i64 n.kids], .int .i64 0]) ∧ Kept [] w' w'') := fun w' B q h => by
              have := Wstat_any h TL2 u ⟨n.path, n.parent, xn, xm, n.uid, xg, n.muid, n.atime, xt, n.vers, xl, n.opens, n.kids⟩ p true fl (recW ⟨n.path, n.parent, xn, xm, n.uid, xg, n.muid, n.atime, xt, n.vers, xl, n.opens, n.kids⟩) su yg sp yn yg ym
              rw [(wst_own T u ⟨n.path, n.parent, xn, xm, n.uid, xg, n.muid, n.atime, xt, n.vers, xl, n.opens, n.kids⟩ p true).1, (wst_own T u ⟨n.path, n.parent, xn, xm, n.uid, xg, n.muid, n.atime, xt, n.vers, xl, n.opens, n.kids⟩ p true).2] at this
              rw [← hGA, hRV2, recR_cells]
              exact this
            have WSX : Hid (∀ w', ∀ {B q : Nat}, Tb w' B q T → Calls Tryz.prog 17 #[.pointer (some ⟨q, 0, none⟩), .string u, .agg F28.toArray, .agg #[.int .u16 s.ty, .int .u32 s.dev, .int .u8 s.kd, .int .u32 s.vr, .int .u64 s.pa, .int .u32 s.mo, .int .u32 s.atm, .int .u32 s.mt, .int .u64 s.ln, .string s.nm, .string s.ud, .string s.gd, .string s.mu]] w' fun e w'' => e = .returned (.tuple #[.agg #[.int .u64 n.path, .int .u64 n.parent, .string xn, .int .u32 xm, .string n.uid, .string xg, .string n.muid, .int .u32 n.atime, .int .u32 xt, .int .u32 n.vers, .int .u64 xl, .int .i64 n.opens, .int .i64 n.kids], .int .i64 0]) ∧ Kept [] w' w'') := fun w' B q h => by rw [← hFA]; exact WSX0 w' B q h
            have D2 := Lib.hid d2
            have D3 := Lib.hid d3
            have D5 := Lib.hid d5
            have D8 := Lib.hid d8
            have D10 := Lib.hid d10
            clear WSX0 SHP BAD hG28 hGA hRV2 yg ym yn su sg sp ss e0s TL TL2 n1 n3 z0 z1 z2 z3 z4 z5 z6 z7 z8 z9 z10 z11 z12 hnm hpm b3 b4 b6 b7 b8 hF28 hFA d2 d3 d5 d8 d10
            go_upto_region 15 with (first | (refine wpList_fmid (by rfl) (.tmp 90) rfl R 2 rfl F28 (FR.out _ (FAC.out _ L9.out).1) HL.out ?_) | (refine wpList_lstat rfl (.tmp 3) rfl RS _ rfl (FAC.out _ L9.out).2.2.1 rfl ?_) | (go_at_call 17; refine (WSX.out _ (FAC.out _ L9.out).2.1).mono ?_; rintro e w10 ⟨rfl, k10⟩; have L10 : Hid (Kept [] w7 w10) := L9.out.trans k10 (fun i hi => by cases hi); clear k10 x0 x1 x30 x31 x32) | (refine wpList_srow8 rfl (.tmp 12) (.tmp 94) rfl w10.heap.size rfl _ #[.int .u64 n.path, .int .u64 n.parent, .string xn, .int .u32 xm, .string n.uid, .string xg, .string n.muid, .int .u32 n.atime, .int .u32 xt, .int .u32 n.vers, .int .u64 xl, .int .i64 n.opens, .int .i64 n.kids] rfl (MapKept.heap_alloc w10 _).1 rfl rfl (by simp [Value.oneCell']) ?_; intro w11 b11 k11; have L11 : Hid (Kept [] w7 w11) := L10.out.trans (((Kept.refl [] w10).alloc _).trans k11 (fun i hi => Or.inr (by have h1 := List.mem_singleton.1 hi; omega))) (fun i hi => by cases hi); have X11 := Lib.hid b11; clear k11 b11))
            go_upto_region 16 with (first | (refine wpList_nmid (by rfl) (.tmp 12) rfl w10.heap.size 0 rfl _ (whole13 X11.out) rfl ?_))
            obtain ⟨v0, hv0⟩ : ∃ z, z = w11.alloc (.cells #[.int .u64 n.path, .int .u64 n.parent, .string xn, .int .u32 xm, .string n.uid, .string xg, .string n.muid, .int .u32 n.atime, .int .u32 xt, .int .u32 n.vers, .int .u64 xl, .int .i64 n.opens, .int .i64 n.kids] 46) := ⟨_, rfl⟩
            obtain ⟨RK, hRK⟩ : ∃ r, r = w11.heap.size := ⟨_, rfl⟩
            obtain ⟨RX, hRX⟩ : ∃ r, r = w10.heap.size := ⟨_, rfl⟩
            rw [← hv0]
            try rw [← hRK]
            try rw [← hRX]
            have kv : Kept [] w11 v0 := by rw [hv0]; exact (Kept.refl _ _).alloc _
            have P0 : Hid (v0.heap[RK]? = some (.cells #[.int .u64 n.path, .int .u64 n.parent, .string xn, .int .u32 xm, .string n.uid, .string xg, .string n.muid, .int .u32 n.atime, .int .u32 xt, .int .u32 n.vers, .int .u64 xl, .int .i64 n.opens, .int .i64 n.kids] 46 (0, 0))) := by rw [hv0, hRK]; exact (MapKept.heap_alloc w11 _).1
            have L0 : Hid (Kept [] w7 v0) := L11.out.trans kv (fun i hi => by cases hi)
            have X0 : Hid (v0.heap[RX]? = some (.cells #[.int .u64 n.path, .int .u64 n.parent, .string xn, .int .u32 xm, .string n.uid, .string xg, .string n.muid, .int .u32 n.atime, .int .u32 xt, .int .u32 n.vers, .int .u64 xl, .int .i64 n.opens, .int .i64 n.kids] 46 (0, 0))) := by rw [hRX]; exact (kv.block _ (block_lt X11.out) (by simp)).trans X11.out
            have QQ : Hid (w7.heap.size ≤ RX ∧ RX < RK ∧ w7.heap.size ≤ RK) := by have a := L10.out.size; have b := block_lt X11.out; have c := L11.out.size; show _ ∧ _; omega
            clear hv0 hRK hRX kv X11 L10 L11
            have N0 := Lib.hid (FAC.out _ L0.out).2.2.2
            have cn := cell_of_row v0 RN 3 _ _ (0, 0) N0.out
            have ck := cell_of_row v0 RK 3 _ _ (0, 0) P0.out
            have cf := frozen_of_row v0 RK 3 _ _ P0.out
            go_upto_region 17 with fail
            obtain ⟨v1, hv⟩ : ∃ z, z = v0.setCell ⟨RK, 3, none⟩ (.int .u32 n.mode) := ⟨_, rfl⟩
            rw [← hv]
            have kv : Kept [RK] v0 v1 := by rw [hv]; exact (Kept.refl [RK] _).setCell (Or.inl (by simp)) _
            have P1 : Hid (v1.heap[RK]? = some (.cells #[.int .u64 n.path, .int .u64 n.parent, .string xn, .int .u32 n.mode, .string n.uid, .string xg, .string n.muid, .int .u32 n.atime, .int .u32 xt, .int .u32 n.vers, .int .u64 xl, .int .i64 n.opens, .int .i64 n.kids] 46 (0, 0))) := by rw [hv]; exact (heap_set _ P0.out).trans rfl
            have L1 : Hid (Kept [] w7 v1) := L0.out.trans kv (fun i hi => Or.inr (by rw [List.mem_singleton] at hi; subst hi; exact QQ.out.2.2))
            have X1 : Hid (v1.heap[RX]? = some (.cells #[.int .u64 n.path, .int .u64 n.parent, .string xn, .int .u32 xm, .string n.uid, .string xg, .string n.muid, .int .u32 n.atime, .int .u32 xt, .int .u32 n.vers, .int .u64 xl, .int .i64 n.opens, .int .i64 n.kids] 46 (0, 0))) := (kv.block _ (block_lt X0.out) (by have := QQ.out; simp; omega)).trans X0.out
            clear hv kv cn ck cf N0 P0 L0 X0
            have N1 := Lib.hid (FAC.out _ L1.out).2.2.2
            have cn := cell_of_row v1 RN 8 _ _ (0, 0) N1.out
            have ck := cell_of_row v1 RK 8 _ _ (0, 0) P1.out
            have cf := frozen_of_row v1 RK 8 _ _ P1.out
            go_upto_region 18 with fail
            obtain ⟨v2, hv⟩ : ∃ z, z = v1.setCell ⟨RK, 8, none⟩ (.int .u32 n.mtime) := ⟨_, rfl⟩
            rw [← hv]
            have kv : Kept [RK] v1 v2 := by rw [hv]; exact (Kept.refl [RK] _).setCell (Or.inl (by simp)) _
            have P2 : Hid (v2.heap[RK]? = some (.cells #[.int .u64 n.path, .int .u64 n.parent, .string xn, .int .u32 n.mode, .string n.uid, .string xg, .string n.muid, .int .u32 n.atime, .int .u32 n.mtime, .int .u32 n.vers, .int .u64 xl, .int .i64 n.opens, .int .i64 n.kids] 46 (0, 0))) := by rw [hv]; exact (heap_set _ P1.out).trans rfl
            have L2 : Hid (Kept [] w7 v2) := L1.out.trans kv (fun i hi => Or.inr (by rw [List.mem_singleton] at hi; subst hi; exact QQ.out.2.2))
            have X2 : Hid (v2.heap[RX]? = some (.cells #[.int .u64 n.path, .int .u64 n.parent, .string xn, .int .u32 xm, .string n.uid, .string xg, .string n.muid, .int .u32 n.atime, .int .u32 xt, .int .u32 n.vers, .int .u64 xl, .int .i64 n.opens, .int .i64 n.kids] 46 (0, 0))) := (kv.block _ (block_lt X1.out) (by have := QQ.out; simp; omega)).trans X1.out
            clear hv kv cn ck cf N1 P1 L1 X1
            have N2 := Lib.hid (FAC.out _ L2.out).2.2.2
            have cn := cell_of_row v2 RN 10 _ _ (0, 0) N2.out
            have ck := cell_of_row v2 RK 10 _ _ (0, 0) P2.out
            have cf := frozen_of_row v2 RK 10 _ _ P2.out
            go_upto_region 19 with fail
            obtain ⟨v3, hv⟩ : ∃ z, z = v2.setCell ⟨RK, 10, none⟩ (.int .u64 n.length) := ⟨_, rfl⟩
            rw [← hv]
            have kv : Kept [RK] v2 v3 := by rw [hv]; exact (Kept.refl [RK] _).setCell (Or.inl (by simp)) _
            have P3 : Hid (v3.heap[RK]? = some (.cells #[.int .u64 n.path, .int .u64 n.parent, .string xn, .int .u32 n.mode, .string n.uid, .string xg, .string n.muid, .int .u32 n.atime, .int .u32 n.mtime, .int .u32 n.vers, .int .u64 n.length, .int .i64 n.opens, .int .i64 n.kids] 46 (0, 0))) := by rw [hv]; exact (heap_set _ P2.out).trans rfl
            have L3 : Hid (Kept [] w7 v3) := L2.out.trans kv (fun i hi => Or.inr (by rw [List.mem_singleton] at hi; subst hi; exact QQ.out.2.2))
            have X3 : Hid (v3.heap[RX]? = some (.cells #[.int .u64 n.path, .int .u64 n.parent, .string xn, .int .u32 xm, .string n.uid, .string xg, .string n.muid, .int .u32 n.atime, .int .u32 xt, .int .u32 n.vers, .int .u64 xl, .int .i64 n.opens, .int .i64 n.kids] 46 (0, 0))) := (kv.block _ (block_lt X2.out) (by have := QQ.out; simp; omega)).trans X2.out
            clear hv kv cn ck cf N2 P2 L2 X2
            have N3 := Lib.hid (FAC.out _ L3.out).2.2.2
            have cn := cell_of_row v3 RN 2 _ _ (0, 0) N3.out
            have ck := cell_of_row v3 RK 2 _ _ (0, 0) P3.out
            have cf := frozen_of_row v3 RK 2 _ _ P3.out
            go_upto_region 20 with fail
            obtain ⟨v4, hv⟩ : ∃ z, z = v3.setCell ⟨RK, 2, none⟩ (.string n.name) := ⟨_, rfl⟩
            rw [← hv]
            have kv : Kept [RK] v3 v4 := by rw [hv]; exact (Kept.refl [RK] _).setCell (Or.inl (by simp)) _
            have P4 : Hid (v4.heap[RK]? = some (.cells #[.int .u64 n.path, .int .u64 n.parent, .string n.name, .int .u32 n.mode, .string n.uid, .string xg, .string n.muid, .int .u32 n.atime, .int .u32 n.mtime, .int .u32 n.vers, .int .u64 n.length, .int .i64 n.opens, .int .i64 n.kids] 46 (0, 0))) := by rw [hv]; exact (heap_set _ P3.out).trans rfl
            have L4 : Hid (Kept [] w7 v4) := L3.out.trans kv (fun i hi => Or.inr (by rw [List.mem_singleton] at hi; subst hi; exact QQ.out.2.2))
            have X4 : Hid (v4.heap[RX]? = some (.cells #[.int .u64 n.path, .int .u64 n.parent, .string xn, .int .u32 xm, .string n.uid, .string xg, .string n.muid, .int .u32 n.atime, .int .u32 xt, .int .u32 n.vers, .int .u64 xl, .int .i64 n.opens, .int .i64 n.kids] 46 (0, 0))) := (kv.block _ (block_lt X3.out) (by have := QQ.out; simp; omega)).trans X3.out
            clear hv kv cn ck cf N3 P3 L3 X3
            have N4 := Lib.hid (FAC.out _ L4.out).2.2.2
            have cn := cell_of_row v4 RN 5 _ _ (0, 0) N4.out
            have ck := cell_of_row v4 RK 5 _ _ (0, 0) P4.out
            have cf := frozen_of_row v4 RK 5 _ _ P4.out
            go_upto_region 21 with fail
            obtain ⟨v5, hv⟩ : ∃ z, z = v4.setCell ⟨RK, 5, none⟩ (.string n.gid) := ⟨_, rfl⟩
            rw [← hv]
            have kv : Kept [RK] v4 v5 := by rw [hv]; exact (Kept.refl [RK] _).setCell (Or.inl (by simp)) _
            have P5 : Hid (v5.heap[RK]? = some (.cells #[.int .u64 n.path, .int .u64 n.parent, .string n.name, .int .u32 n.mode, .string n.uid, .string n.gid, .string n.muid, .int .u32 n.atime, .int .u32 n.mtime, .int .u32 n.vers, .int .u64 n.length, .int .i64 n.opens, .int .i64 n.kids] 46 (0, 0))) := by rw [hv]; exact (heap_set _ P4.out).trans rfl
            have L5 : Hid (Kept [] w7 v5) := L4.out.trans kv (fun i hi => Or.inr (by rw [List.mem_singleton] at hi; subst hi; exact QQ.out.2.2))
            have X5 : Hid (v5.heap[RX]? = some (.cells #[.int .u64 n.path, .int .u64 n.parent, .string xn, .int .u32 xm, .string n.uid, .string xg, .string n.muid, .int .u32 n.atime, .int .u32 xt, .int .u32 n.vers, .int .u64 xl, .int .i64 n.opens, .int .i64 n.kids] 46 (0, 0))) := (kv.block _ (block_lt X4.out) (by have := QQ.out; simp; omega)).trans X4.out
            clear hv kv cn ck cf N4 P4 L4 X4
            have N5 := Lib.hid (FAC.out _ L5.out).2.2.2
            go_upto_region 23 with (first | (refine wpList_nmid (by rfl) (.tmp 14) rfl RK 0 rfl _ (whole13 P5.out) rfl ?_) | (refine wpList_nmid (by rfl) (.tmp 7) rfl RN 0 rfl _ (whole13 N5.out) rfl ?_))
            go_cut [187] from 120 to 186 (fun sc wx => sc = .bool false ∧ v5 = wx)
            case first =>
              obtain ⟨-, -, a2, a3, -, a5, -, -, a8, -, a10, -, -⟩ := node_cells X5.out
              obtain ⟨-, -, c2, c3, -, c5, -, -, c8, -, c10, -, -⟩ := node_cells N5.out
              obtain ⟨-, -, -, -, -, q5, -, q7, q8, q9, -, q11, -⟩ := stat_cells (FAC.out _ L5.out).2.2.1
              have d2 := D2.out
              have d3 := D3.out
              have d5 := D5.out
              have d8 := D8.out
              have d10 := D10.out
              clear D2 D3 D5 D8 D10 WS2 REC2 WSX FAC L5 X5 N5 P5 L9 A9 B9 C7 T7 S7 N7 K7 RR QQ GR HLG FR HL
              simp only [List.append]
              by_cases hh0 : xm = n.mode
              · subst hh0
                clear d3
                by_cases hh1 : xt = n.mtime
                · subst hh1
                  clear d8
                  by_cases hh2 : xl = n.length
                  · subst hh2
                    clear d10
                    by_cases hh3 : xn = n.name
                    · subst hh3
                      clear d2
                      by_cases hh4 : xg = n.gid
                      · subst hh4
                        clear d5
                        as_aux_lemma =>
                          go_wp2_with fail
                          go_meet
                          exact ⟨rfl, rfl⟩
                      · obtain rfl := d5.resolve_left hh4
                        have qq4 : (s.gd.toList == n.gid.toList) = false := by
                          rw [Bool.eq_false_iff]
                          intro e
                          exact hh4 (bytes_eq (eq_of_beq e))
                        clear d5 hh4
                        as_aux_lemma =>
                          go_wp2_with fail
                          go_meet
                          exact ⟨rfl, rfl⟩
                    · obtain rfl := d2.resolve_left hh3
                      have qq3 : (s.nm.toList == n.name.toList) = false := by
                        rw [Bool.eq_false_iff]
                        intro e
                        exact hh3 (bytes_eq (eq_of_beq e))
                      clear d2 hh3
                      by_cases hh4 : xg = n.gid
                      · subst hh4
                        clear d5
                        as_aux_lemma =>
                          go_wp2_with fail
                          go_meet
                          exact ⟨rfl, rfl⟩
                      · obtain rfl := d5.resolve_left hh4
                        have qq4 : (s.gd.toList == n.gid.toList) = false := by
                          rw [Bool.eq_false_iff]
                          intro e
                          exact hh4 (bytes_eq (eq_of_beq e))
                        clear d5 hh4
                        as_aux_lemma =>
                          go_wp2_with fail
                          go_meet
                          exact ⟨rfl, rfl⟩
                  · obtain rfl := d10.resolve_left hh2
                    have qq2 : ((s.ln : Int) == (n.length : Int)) = false := by simp; omega
                    have qi2 : ¬ ((s.ln : Int) = (n.length : Int)) := by omega
                    clear d10
                    by_cases hh3 : xn = n.name
                    · subst hh3
                      clear d2
                      by_cases hh4 : xg = n.gid
                      · subst hh4
                        clear d5
                        as_aux_lemma =>
                          go_wp2_with fail
                          go_meet
                          exact ⟨rfl, rfl⟩
                      · obtain rfl := d5.resolve_left hh4
                        have qq4 : (s.gd.toList == n.gid.toList) = false := by
                          rw [Bool.eq_false_iff]
                          intro e
                          exact hh4 (bytes_eq (eq_of_beq e))
                        clear d5 hh4
                        as_aux_lemma =>
                          go_wp2_with fail
                          go_meet
                          exact ⟨rfl, rfl⟩
                    · obtain rfl := d2.resolve_left hh3
                      have qq3 : (s.nm.toList == n.name.toList) = false := by
                        rw [Bool.eq_false_iff]
                        intro e
                        exact hh3 (bytes_eq (eq_of_beq e))
                      clear d2 hh3
                      by_cases hh4 : xg = n.gid
                      · subst hh4
                        clear d5
                        as_aux_lemma =>
                          go_wp2_with fail
                          go_meet
                          exact ⟨rfl, rfl⟩
                      · obtain rfl := d5.resolve_left hh4
                        have qq4 : (s.gd.toList == n.gid.toList) = false := by
                          rw [Bool.eq_false_iff]
                          intro e
                          exact hh4 (bytes_eq (eq_of_beq e))
                        clear d5 hh4
                        as_aux_lemma =>
                          go_wp2_with fail
                          go_meet
                          exact ⟨rfl, rfl⟩
                · obtain rfl := d8.resolve_left hh1
                  have qq1 : ((s.mt : Int) == (n.mtime : Int)) = false := by simp; omega
                  have qi1 : ¬ ((s.mt : Int) = (n.mtime : Int)) := by omega
                  clear d8
                  by_cases hh2 : xl = n.length
                  · subst hh2
                    clear d10
                    by_cases hh3 : xn = n.name
                    · subst hh3
                      clear d2
                      by_cases hh4 : xg = n.gid
                      · subst hh4
                        clear d5
                        as_aux_lemma =>
                          go_wp2_with fail
                          go_meet
                          exact ⟨rfl, rfl⟩
                      · obtain rfl := d5.resolve_left hh4
                        have qq4 : (s.gd.toList == n.gid.toList) = false := by
                          rw [Bool.eq_false_iff]
                          intro e
                          exact hh4 (bytes_eq (eq_of_beq e))
                        clear d5 hh4
                        as_aux_lemma =>
                          go_wp2_with fail
                          go_meet
                          exact ⟨rfl, rfl⟩
                    · obtain rfl := d2.resolve_left hh3
                      have qq3 : (s.nm.toList == n.name.toList) = false := by
                        rw [Bool.eq_false_iff]
                        intro e
                        exact hh3 (bytes_eq (eq_of_beq e))
                      clear d2 hh3
                      by_cases hh4 : xg = n.gid
                      · subst hh4
                        clear d5
                        as_aux_lemma =>
                          go_wp2_with fail
                          go_meet
                          exact ⟨rfl, rfl⟩
                      · obtain rfl := d5.resolve_left hh4
                        have qq4 : (s.gd.toList == n.gid.toList) = false := by
                          rw [Bool.eq_false_iff]
                          intro e
                          exact hh4 (bytes_eq (eq_of_beq e))
                        clear d5 hh4
                        as_aux_lemma =>
                          go_wp2_with fail
                          go_meet
                          exact ⟨rfl, rfl⟩
                  · obtain rfl := d10.resolve_left hh2
                    have qq2 : ((s.ln : Int) == (n.length : Int)) = false := by simp; omega
                    have qi2 : ¬ ((s.ln : Int) = (n.length : Int)) := by omega
                    clear d10
                    by_cases hh3 : xn = n.name
                    · subst hh3
                      clear d2
                      by_cases hh4 : xg = n.gid
                      · subst hh4
                        clear d5
                        as_aux_lemma =>
                          go_wp2_with fail
                          go_meet
                          exact ⟨rfl, rfl⟩
                      · obtain rfl := d5.resolve_left hh4
                        have qq4 : (s.gd.toList == n.gid.toList) = false := by
                          rw [Bool.eq_false_iff]
                          intro e
                          exact hh4 (bytes_eq (eq_of_beq e))
                        clear d5 hh4
                        as_aux_lemma =>
                          go_wp2_with fail
                          go_meet
                          exact ⟨rfl, rfl⟩
                    · obtain rfl := d2.resolve_left hh3
                      have qq3 : (s.nm.toList == n.name.toList) = false := by
                        rw [Bool.eq_false_iff]
                        intro e
                        exact hh3 (bytes_eq (eq_of_beq e))
                      clear d2 hh3
                      by_cases hh4 : xg = n.gid
                      · subst hh4
                        clear d5
                        as_aux_lemma =>
                          go_wp2_with fail
                          go_meet
                          exact ⟨rfl, rfl⟩
                      · obtain rfl := d5.resolve_left hh4
                        have qq4 : (s.gd.toList == n.gid.toList) = false := by
                          rw [Bool.eq_false_iff]
                          intro e
                          exact hh4 (bytes_eq (eq_of_beq e))
                        clear d5 hh4
                        as_aux_lemma =>
                          go_wp2_with fail
                          go_meet
                          exact ⟨rfl, rfl⟩
              · obtain rfl := d3.resolve_left hh0
                have qq0 : ((s.mo : Int) == (n.mode : Int)) = false := by simp; omega
                have qi0 : ¬ ((s.mo : Int) = (n.mode : Int)) := by omega
                clear d3
                by_cases hh1 : xt = n.mtime
                · subst hh1
                  clear d8
                  by_cases hh2 : xl = n.length
                  · subst hh2
                    clear d10
                    by_cases hh3 : xn = n.name
                    · subst hh3
                      clear d2
                      by_cases hh4 : xg = n.gid
                      · subst hh4
                        clear d5
                        as_aux_lemma =>
                          go_wp2_with fail
                          go_meet
                          exact ⟨rfl, rfl⟩
                      · obtain rfl := d5.resolve_left hh4
                        have qq4 : (s.gd.toList == n.gid.toList) = false := by
                          rw [Bool.eq_false_iff]
                          intro e
                          exact hh4 (bytes_eq (eq_of_beq e))
                        clear d5 hh4
                        as_aux_lemma =>
                          go_wp2_with fail
                          go_meet
                          exact ⟨rfl, rfl⟩
                    · obtain rfl := d2.resolve_left hh3
                      have qq3 : (s.nm.toList == n.name.toList) = false := by
                        rw [Bool.eq_false_iff]
                        intro e
                        exact hh3 (bytes_eq (eq_of_beq e))
                      clear d2 hh3
                      by_cases hh4 : xg = n.gid
                      · subst hh4
                        clear d5
                        as_aux_lemma =>
                          go_wp2_with fail
                          go_meet
                          exact ⟨rfl, rfl⟩
                      · obtain rfl := d5.resolve_left hh4
                        have qq4 : (s.gd.toList == n.gid.toList) = false := by
                          rw [Bool.eq_false_iff]
                          intro e
                          exact hh4 (bytes_eq (eq_of_beq e))
                        clear d5 hh4
                        as_aux_lemma =>
                          go_wp2_with fail
                          go_meet
                          exact ⟨rfl, rfl⟩
                  · obtain rfl := d10.resolve_left hh2
                    have qq2 : ((s.ln : Int) == (n.length : Int)) = false := by simp; omega
                    have qi2 : ¬ ((s.ln : Int) = (n.length : Int)) := by omega
                    clear d10
                    by_cases hh3 : xn = n.name
                    · subst hh3
                      clear d2
                      by_cases hh4 : xg = n.gid
                      · subst hh4
                        clear d5
                        as_aux_lemma =>
                          go_wp2_with fail
                          go_meet
                          exact ⟨rfl, rfl⟩
                      · obtain rfl := d5.resolve_left hh4
                        have qq4 : (s.gd.toList == n.gid.toList) = false := by
                          rw [Bool.eq_false_iff]
                          intro e
                          exact hh4 (bytes_eq (eq_of_beq e))
                        clear d5 hh4
                        as_aux_lemma =>
                          go_wp2_with fail
                          go_meet
                          exact ⟨rfl, rfl⟩
                    · obtain rfl := d2.resolve_left hh3
                      have qq3 : (s.nm.toList == n.name.toList) = false := by
                        rw [Bool.eq_false_iff]
                        intro e
                        exact hh3 (bytes_eq (eq_of_beq e))
                      clear d2 hh3
                      by_cases hh4 : xg = n.gid
                      · subst hh4
                        clear d5
                        as_aux_lemma =>
                          go_wp2_with fail
                          go_meet
                          exact ⟨rfl, rfl⟩
                      · obtain rfl := d5.resolve_left hh4
                        have qq4 : (s.gd.toList == n.gid.toList) = false := by
                          rw [Bool.eq_false_iff]
                          intro e
                          exact hh4 (bytes_eq (eq_of_beq e))
                        clear d5 hh4
                        as_aux_lemma =>
                          go_wp2_with fail
                          go_meet
                          exact ⟨rfl, rfl⟩
                · obtain rfl := d8.resolve_left hh1
                  have qq1 : ((s.mt : Int) == (n.mtime : Int)) = false := by simp; omega
                  have qi1 : ¬ ((s.mt : Int) = (n.mtime : Int)) := by omega
                  clear d8
                  by_cases hh2 : xl = n.length
                  · subst hh2
                    clear d10
                    by_cases hh3 : xn = n.name
                    · subst hh3
                      clear d2
                      by_cases hh4 : xg = n.gid
                      · subst hh4
                        clear d5
                        as_aux_lemma =>
                          go_wp2_with fail
                          go_meet
                          exact ⟨rfl, rfl⟩
                      · obtain rfl := d5.resolve_left hh4
                        have qq4 : (s.gd.toList == n.gid.toList) = false := by
                          rw [Bool.eq_false_iff]
                          intro e
                          exact hh4 (bytes_eq (eq_of_beq e))
                        clear d5 hh4
                        as_aux_lemma =>
                          go_wp2_with fail
                          go_meet
                          exact ⟨rfl, rfl⟩
                    · obtain rfl := d2.resolve_left hh3
                      have qq3 : (s.nm.toList == n.name.toList) = false := by
                        rw [Bool.eq_false_iff]
                        intro e
                        exact hh3 (bytes_eq (eq_of_beq e))
                      clear d2 hh3
                      by_cases hh4 : xg = n.gid
                      · subst hh4
                        clear d5
                        as_aux_lemma =>
                          go_wp2_with fail
                          go_meet
                          exact ⟨rfl, rfl⟩
                      · obtain rfl := d5.resolve_left hh4
                        have qq4 : (s.gd.toList == n.gid.toList) = false := by
                          rw [Bool.eq_false_iff]
                          intro e
                          exact hh4 (bytes_eq (eq_of_beq e))
                        clear d5 hh4
                        as_aux_lemma =>
                          go_wp2_with fail
                          go_meet
                          exact ⟨rfl, rfl⟩
                  · obtain rfl := d10.resolve_left hh2
                    have qq2 : ((s.ln : Int) == (n.length : Int)) = false := by simp; omega
                    have qi2 : ¬ ((s.ln : Int) = (n.length : Int)) := by omega
                    clear d10
                    by_cases hh3 : xn = n.name
                    · subst hh3
                      clear d2
                      by_cases hh4 : xg = n.gid
                      · subst hh4
                        clear d5
                        as_aux_lemma =>
                          go_wp2_with fail
                          go_meet
                          exact ⟨rfl, rfl⟩
                      · obtain rfl := d5.resolve_left hh4
                        have qq4 : (s.gd.toList == n.gid.toList) = false := by
                          rw [Bool.eq_false_iff]
                          intro e
                          exact hh4 (bytes_eq (eq_of_beq e))
                        clear d5 hh4
                        as_aux_lemma =>
                          go_wp2_with fail
                          go_meet
                          exact ⟨rfl, rfl⟩
                    · obtain rfl := d2.resolve_left hh3
                      have qq3 : (s.nm.toList == n.name.toList) = false := by
                        rw [Bool.eq_false_iff]
                        intro e
                        exact hh3 (bytes_eq (eq_of_beq e))
                      clear d2 hh3
                      by_cases hh4 : xg = n.gid
                      · subst hh4
                        clear d5
                        as_aux_lemma =>
                          go_wp2_with fail
                          go_meet
                          exact ⟨rfl, rfl⟩
                      · obtain rfl := d5.resolve_left hh4
                        have qq4 : (s.gd.toList == n.gid.toList) = false := by
                          rw [Bool.eq_false_iff]
                          intro e
                          exact hh4 (bytes_eq (eq_of_beq e))
                        clear d5 hh4
                        as_aux_lemma =>
                          go_wp2_with fail
                          go_meet
                          exact ⟨rfl, rfl⟩
            case rest =>
              obtain ⟨rfl, hw⟩ := hcut
              subst hw
              clear D2 D3 D5 D8 D10 WSX P5
              have C5 := Lib.hid (FAC.out _ L5.out).1
              have T5 := Lib.hid (FAC.out _ L5.out).2.1
              go_upto_region 26 with (first | (refine wpList_nmid (by rfl) (.tmp 12) rfl RX 0 rfl _ (whole13 X5.out) rfl ?_) | (refine wpList_scase rfl (.tmp 190) (.tmp 188) rfl R rfl ⟨n.path, n.parent, xn, xm, n.uid, xg, n.muid, n.atime, xt, n.vers, xl, n.opens, n.kids⟩ rfl C5.out ?_; intro u1 c1 k1; have C25 := Lib.hid c1; have M25 := Lib.hid k1; clear c1 k1))
              have y28 := C25.out.taken
              have z28 := frozen_of_row u1 R 28 _ _ C25.out
              go_upto_region 27 with fail
              obtain ⟨u2, hu2⟩ : ∃ z, z = u1.setCell ⟨R, 28, none⟩ (.bool true) := ⟨_, rfl⟩
              rw [← hu2]
              have C26 : Hid (Bc u2 R text u ⟨n.path, n.parent, xn, xm, n.uid, xg, n.muid, n.atime, xt, n.vers, xl, n.opens, n.kids⟩ p true fl name pm mode) := by rw [hu2]; exact C25.out.taken_set
              have M26 : Kept [R] v5 u2 := M25.out.trans (by rw [hu2]; exact (Kept.refl [R] u1).setCell (Or.inl (by simp)) _) (fun i hi => Or.inl hi)
              have T26 := Lib.hid (Tb.keptC T5.out M26 C5.out)
              have X26 : Hid (u2.heap[RX]? = some (.cells #[.int .u64 n.path, .int .u64 n.parent, .string xn, .int .u32 xm, .string n.uid, .string xg, .string n.muid, .int .u32 n.atime, .int .u32 xt, .int .u32 n.vers, .int .u64 xl, .int .i64 n.opens, .int .i64 n.kids] 46 (0, 0))) := (M26.block _ (block_lt X5.out) (by have := RR.out; have := QQ.out; simp; omega)).trans X5.out
              have K26 : Hid (Kept [] w u2) := (K7.out.trans L5.out (fun i hi => by cases hi)).trans M26 (fun i hi => Or.inr (by rw [List.mem_singleton] at hi; subst hi; exact NRW.out.1))
              clear hu2 y28 z28 M26 M25 C25 T5 C5 X5 L5 FAC
              have HSC : Hid (∀ w', Kept [] u2 w' → w'.rangeAt R 2 G28 ∧ w'.cell? ⟨R, 1, none⟩ = some (.string u) ∧ w'.heap[RX]? = some (.cells #[.int .u64 n.path, .int .u64 n.parent, .string xn, .int .u32 xm, .string n.uid, .string xg, .string n.muid, .int .u32 n.atime, .int .u32 xt, .int .u32 n.vers, .int .u64 xl, .int .i64 n.opens, .int .i64 n.kids] 46 (0, 0))) := fun w' k => ⟨GR.out _ (C26.out.kept k (by simp)), (C26.out.kept k (by simp)).five.2.1, (k.block _ (block_lt X26.out) (by simp)).trans X26.out⟩
              have FAD : Hid (∀ w', Kept [] u2 w' → Tb w' B q T) := fun w' k => T26.out.kept k
              go_cut [15, 16] from 193 to 203 (fun s15 s16 wx => ∃ RD, s15 = .pointer (some ⟨RD, 0, none⟩) ∧ s16 = .int .i64 0 ∧ Hid (wx.heap[RD]? = some (.cells #[.int .u64 n.path, .int .u64 n.parent, .string xn, .int .u32 xm, .string n.uid, .string xg, .string n.muid, .int .u32 n.atime, .int .u32 xt, .int .u32 n.vers, .int .u64 xl, .int .i64 n.opens, .int .i64 n.kids] 46 (0, 0)) ∧ Kept [] u2 wx))
              case first =>
                have KDc : Hid (Kept [] u2 u2.drew) := (Kept.refl [] u2).drew
                have hbc := HSC.out _ KDc.out
                refine wp_region_held (S := fun w' => w'.rangeAt R 2 G28 ∧ w'.cell? ⟨R, 1, none⟩ = some (Value.string u) ∧ w'.heap[RX]? = some (.cells #[.int .u64 n.path, .int .u64 n.parent, .string xn, .int .u32 xm, .string n.uid, .string xg, .string n.muid, .int .u32 n.atime, .int .u32 xt, .int .u32 n.vers, .int .u64 xl, .int .i64 n.opens, .int .i64 n.kids] 46 (0, 0))) (by kernel_rfl) ?_
                try (change wpAnyH _ _ _ _ _ _ _ _ (World.drew _))
                refine wpAnyH_take (i := 0) (v := .pointer (some ⟨q, 0, none⟩)) rfl (by kernel_rfl) (by kernel_rfl) (by kernel_rfl) (fun _ _ _ h => h) (Or.inl ⟨by rfl, fun w b => by simp [execOp, go_sem]⟩) hbc ?_
                refine wpAnyH_take (i := 1) (v := .pointer (some ⟨R, 1, none⟩)) rfl (by kernel_rfl) (by kernel_rfl) (by kernel_rfl) (fun _ _ _ h => h) (Or.inl ⟨by rfl, fun w b => by simp [execOp, go_sem]⟩) hbc ?_
                refine wpAnyH_take (i := 2) (v := .string u) rfl (by kernel_rfl) (by kernel_rfl) (by kernel_rfl) (fun _ _ _ h => h) (Or.inl ⟨by rfl, fun w b => by have c := b.2.1; simp [execOp, go_sem, c]⟩) hbc ?_
                refine wpAnyH_take (i := 3) (v := .pointer (some ⟨R, 2, none⟩)) rfl (by kernel_rfl) (by kernel_rfl) (by kernel_rfl) (fun _ _ _ h => h) (Or.inl ⟨by rfl, fun w b => by simp [execOp, go_sem]⟩) hbc ?_
                refine wpAnyH_take (i := 4) (v := .agg G28.toArray) rfl (by kernel_rfl) (by kernel_rfl) (by kernel_rfl) (fun _ _ _ h => h) (yieldsIf_load_mid (by rfl) 48 (.tmp 197) rfl R 2 (by simp [go_sem]) G28 _ (fun w b => b.1) Tryz.underlying48 rfl (by rw [HLG.out]; exact size_f8)) hbc ?_
                refine wpAnyH_take (i := 5) (v := .agg #[.int .u64 n.path, .int .u64 n.parent, .string xn, .int .u32 xm, .string n.uid, .string xg, .string n.muid, .int .u32 n.atime, .int .u32 xt, .int .u32 n.vers, .int .u64 xl, .int .i64 n.opens, .int .i64 n.kids]) rfl (by kernel_rfl) (by kernel_rfl) (by kernel_rfl) (fun _ _ _ h => h) (yieldsIf_load_mid (by rfl) 46 (.tmp 12) rfl RX 0 (by simp [go_sem]) [.int .u64 n.path, .int .u64 n.parent, .string xn, .int .u32 xm, .string n.uid, .string xg, .string n.muid, .int .u32 n.atime, .int .u32 xt, .int .u32 n.vers, .int .u64 xl, .int .i64 n.opens, .int .i64 n.kids] _ (fun w b => whole_of b.2.2) Tryz.underlying46 rfl size_node9) hbc ?_
                refine wpAnyH_all (rs := [6, 11]) (by kernel_rfl) (by simp) ?_
                intro j hj
                simp only [List.mem_cons, List.not_mem_nil, or_false] at hj
                rcases hj with rfl | rfl
                · skip
                  refine any_callR rfl rfl 18 #[.agg #[.int .u64 n.path, .int .u64 n.parent, .string xn, .int .u32 xm, .string n.uid, .string xg, .string n.muid, .int .u32 n.atime, .int .u32 xt, .int .u32 n.vers, .int .u64 xl, .int .i64 n.opens, .int .i64 n.kids]] (by simp [go_sem]) (REC2.out _) ?_
                  rintro e v1 ⟨rfl, k1'⟩
                  have KC1 : Kept [] u2 v1 := KDc.out.trans k1' (fun i hi => by cases hi)
                  refine ⟨_, rfl, HSC.out _ KC1, ?_⟩
                  refine wpAnyH_all (rs := [7, 11]) (by kernel_rfl) (by simp) ?_
                  intro j hj
                  simp only [List.mem_cons, List.not_mem_nil, or_false] at hj
                  rcases hj with rfl | rfl
                  · skip
                    refine any_callR rfl rfl 17 #[.pointer (some ⟨q, 0, none⟩), .string u, .agg G28.toArray, .agg RV2] (by simp [go_sem]) (WS2.out _ (FAD.out _ KC1)) ?_
                    rintro e v2 ⟨rfl, k2'⟩
                    have KC2 : Kept [] u2 v2 := KC1.trans k2' (fun i hi => by cases hi)
                    refine ⟨_, rfl, HSC.out _ KC2, ?_⟩
                    refine wpAnyH_take (i := 8) (v := .tuple #[.agg #[.int .u64 n.path, .int .u64 n.parent, .string xn, .int .u32 xm, .string n.uid, .string xg, .string n.muid, .int .u32 n.atime, .int .u32 xt, .int .u32 n.vers, .int .u64 xl, .int .i64 n.opens, .int .i64 n.kids], .int .i64 0]) rfl (by kernel_rfl) (by kernel_rfl) (by kernel_rfl) (fun _ _ _ h => h) (Or.inl ⟨by rfl, fun w b => by simp [execOp, go_sem]⟩) (HSC.out _ KC2) ?_
                    refine wpAnyH_take (i := 9) (v := .agg #[.int .u64 n.path, .int .u64 n.parent, .string xn, .int .u32 xm, .string n.uid, .string xg, .string n.muid, .int .u32 n.atime, .int .u32 xt, .int .u32 n.vers, .int .u64 xl, .int .i64 n.opens, .int .i64 n.kids]) rfl (by kernel_rfl) (by kernel_rfl) (by kernel_rfl) (fun _ _ _ h => h) (Or.inl ⟨by rfl, fun w b => by simp [execOp, go_sem]⟩) (HSC.out _ KC2) ?_
                    refine wpAnyH_take (i := 10) (v := .int .i64 0) rfl (by kernel_rfl) (by kernel_rfl) (by kernel_rfl) (fun _ _ _ h => h) (Or.inl ⟨by rfl, fun w b => by simp [execOp, go_sem]⟩) (HSC.out _ KC2) ?_
                    refine wpAnyH_one (i := 11) (by kernel_rfl) ?_
                    have KA3 : Kept [] u2 (v2.alloc (.cells #[.int .u64 0, .int .u64 0, .string ⟨#[]⟩, .int .u32 0, .string ⟨#[]⟩, .string ⟨#[]⟩, .string ⟨#[]⟩, .int .u32 0, .int .u32 0, .int .u32 0, .int .u64 0, .int .i64 0, .int .i64 0] 46)) := KC2.alloc _
                    have bA3 : (v2.alloc (.cells #[.int .u64 0, .int .u64 0, .string ⟨#[]⟩, .int .u32 0, .string ⟨#[]⟩, .string ⟨#[]⟩, .string ⟨#[]⟩, .int .u32 0, .int .u32 0, .int .u32 0, .int .u64 0, .int .i64 0, .int .i64 0] 46)).heap[v2.heap.size]? = some (.cells #[.int .u64 0, .int .u64 0, .string ⟨#[]⟩, .int .u32 0, .string ⟨#[]⟩, .string ⟨#[]⟩, .string ⟨#[]⟩, .int .u32 0, .int .u32 0, .int .u32 0, .int .u64 0, .int .i64 0, .int .i64 0] 46 (0, 0)) := (MapKept.heap_alloc v2 _).1
                    refine any_alloc8 (w' := (v2.alloc (.cells #[.int .u64 0, .int .u64 0, .string ⟨#[]⟩, .int .u32 0, .string ⟨#[]⟩, .string ⟨#[]⟩, .string ⟨#[]⟩, .int .u32 0, .int .u32 0, .int .u32 0, .int .u64 0, .int .i64 0, .int .i64 0] 46))) rfl rfl (.pointer (some ⟨v2.heap.size, 0, none⟩)) (by simp [execOp, go_sem]) ⟨HSC.out _ KA3, ?_⟩
                    have k4 : Kept [v2.heap.size] (v2.alloc (.cells #[.int .u64 0, .int .u64 0, .string ⟨#[]⟩, .int .u32 0, .string ⟨#[]⟩, .string ⟨#[]⟩, .string ⟨#[]⟩, .int .u32 0, .int .u32 0, .int .u32 0, .int .u64 0, .int .i64 0, .int .i64 0] 46)) ((v2.alloc (.cells #[.int .u64 0, .int .u64 0, .string ⟨#[]⟩, .int .u32 0, .string ⟨#[]⟩, .string ⟨#[]⟩, .string ⟨#[]⟩, .int .u32 0, .int .u32 0, .int .u32 0, .int .u64 0, .int .i64 0, .int .i64 0] 46)).setRow v2.heap.size #[.int .u64 n.path, .int .u64 n.parent, .string xn, .int .u32 xm, .string n.uid, .string xg, .string n.muid, .int .u32 n.atime, .int .u32 xt, .int .u32 n.vers, .int .u64 xl, .int .i64 n.opens, .int .i64 n.kids]) := ⟨rfl, rfl, rfl, by simp [World.setRow], fun k _ hk => setRow_other _ _ k _ (by simpa using hk)⟩
                    have K4 : Kept [] u2 ((v2.alloc (.cells #[.int .u64 0, .int .u64 0, .string ⟨#[]⟩, .int .u32 0, .string ⟨#[]⟩, .string ⟨#[]⟩, .string ⟨#[]⟩, .int .u32 0, .int .u32 0, .int .u32 0, .int .u64 0, .int .i64 0, .int .i64 0] 46)).setRow v2.heap.size #[.int .u64 n.path, .int .u64 n.parent, .string xn, .int .u32 xm, .string n.uid, .string xg, .string n.muid, .int .u32 n.atime, .int .u32 xt, .int .u32 n.vers, .int .u64 xl, .int .i64 n.opens, .int .i64 n.kids]) := KA3.trans k4 (fun i hi => Or.inr (by rw [List.mem_singleton] at hi; subst hi; exact KC2.size))
                    refine wpAnyH_one (i := 12) (by kernel_rfl) ?_
                    refine any_store8 rfl rfl 46 (.tmp 15) (.tmp 202) (v2.heap.size) #[.int .u64 n.path, .int .u64 n.parent, .string xn, .int .u32 xm, .string n.uid, .string xg, .string n.muid, .int .u32 n.atime, .int .u32 xt, .int .u32 n.vers, .int .u64 xl, .int .i64 n.opens, .int .i64 n.kids] 46 #[.int .u64 0, .int .u64 0, .string ⟨#[]⟩, .int .u32 0, .string ⟨#[]⟩, .string ⟨#[]⟩, .string ⟨#[]⟩, .int .u32 0, .int .u32 0, .int .u32 0, .int .u64 0, .int .i64 0, .int .i64 0] rfl (by simp [go_sem]) (by simp [go_sem]) bA3 size_node9 rfl (by simp [Value.oneCell']) ⟨HSC.out _ K4, ?_⟩
                    refine wpAnyH_one (i := 13) (by kernel_rfl) ?_
                    refine any_value8 rfl rfl (.int .i64 0) (by simp [execOp, go_sem]) ⟨HSC.out _ K4, ?_⟩
                    refine wpAnyH_done (by kernel_rfl) ?_ _
                    simp [go_sem]
                    go_wp2_with fail
                    go_meet
                    exact ⟨_, rfl, rfl, setRow_heap _ _ _ #[.int .u64 n.path, .int .u64 n.parent, .string xn, .int .u32 xm, .string n.uid, .string xg, .string n.muid, .int .u32 n.atime, .int .u32 xt, .int .u32 n.vers, .int .u64 xl, .int .i64 n.opens, .int .i64 n.kids] 46 (0, 0) bA3, K4⟩
                  · skip
                    have KA5 : Kept [] u2 (v1.alloc (.cells #[.int .u64 0, .int .u64 0, .string ⟨#[]⟩, .int .u32 0, .string ⟨#[]⟩, .string ⟨#[]⟩, .string ⟨#[]⟩, .int .u32 0, .int .u32 0, .int .u32 0, .int .u64 0, .int .i64 0, .int .i64 0] 46)) := KC1.alloc _
                    have bA5 : (v1.alloc (.cells #[.int .u64 0, .int .u64 0, .string ⟨#[]⟩, .int .u32 0, .string ⟨#[]⟩, .string ⟨#[]⟩, .string ⟨#[]⟩, .int .u32 0, .int .u32 0, .int .u32 0, .int .u64 0, .int .i64 0, .int .i64 0] 46)).heap[v1.heap.size]? = some (.cells #[.int .u64 0, .int .u64 0, .string ⟨#[]⟩, .int .u32 0, .string ⟨#[]⟩, .string ⟨#[]⟩, .string ⟨#[]⟩, .int .u32 0, .int .u32 0, .int .u32 0, .int .u64 0, .int .i64 0, .int .i64 0] 46 (0, 0)) := (MapKept.heap_alloc v1 _).1
                    refine any_alloc8 (w' := (v1.alloc (.cells #[.int .u64 0, .int .u64 0, .string ⟨#[]⟩, .int .u32 0, .string ⟨#[]⟩, .string ⟨#[]⟩, .string ⟨#[]⟩, .int .u32 0, .int .u32 0, .int .u32 0, .int .u64 0, .int .i64 0, .int .i64 0] 46))) rfl rfl (.pointer (some ⟨v1.heap.size, 0, none⟩)) (by simp [execOp, go_sem]) ⟨HSC.out _ KA5, ?_⟩
                    refine wpAnyH_one (i := 7) (by kernel_rfl) ?_
                    refine any_callR rfl rfl 17 #[.pointer (some ⟨q, 0, none⟩), .string u, .agg G28.toArray, .agg RV2] (by simp [go_sem]) (WS2.out _ (FAD.out _ KA5)) ?_
                    rintro e v6 ⟨rfl, k6'⟩
                    have KC6 : Kept [] u2 v6 := KA5.trans k6' (fun i hi => by cases hi)
                    have bC6 := (k6'.block _ (block_lt bA5) (by simp)).trans bA5
                    refine ⟨_, rfl, HSC.out _ KC6, ?_⟩
                    refine wpAnyH_take (i := 8) (v := .tuple #[.agg #[.int .u64 n.path, .int .u64 n.parent, .string xn, .int .u32 xm, .string n.uid, .string xg, .string n.muid, .int .u32 n.atime, .int .u32 xt, .int .u32 n.vers, .int .u64 xl, .int .i64 n.opens, .int .i64 n.kids], .int .i64 0]) rfl (by kernel_rfl) (by kernel_rfl) (by kernel_rfl) (fun _ _ _ h => h) (Or.inl ⟨by rfl, fun w b => by simp [execOp, go_sem]⟩) (HSC.out _ KC6) ?_
                    refine wpAnyH_take (i := 9) (v := .agg #[.int .u64 n.path, .int .u64 n.parent, .string xn, .int .u32 xm, .string n.uid, .string xg, .string n.muid, .int .u32 n.atime, .int .u32 xt, .int .u32 n.vers, .int .u64 xl, .int .i64 n.opens, .int .i64 n.kids]) rfl (by kernel_rfl) (by kernel_rfl) (by kernel_rfl) (fun _ _ _ h => h) (Or.inl ⟨by rfl, fun w b => by simp [execOp, go_sem]⟩) (HSC.out _ KC6) ?_
                    refine wpAnyH_take (i := 10) (v := .int .i64 0) rfl (by kernel_rfl) (by kernel_rfl) (by kernel_rfl) (fun _ _ _ h => h) (Or.inl ⟨by rfl, fun w b => by simp [execOp, go_sem]⟩) (HSC.out _ KC6) ?_
                    have k4 : Kept [v1.heap.size] v6 (v6.setRow v1.heap.size #[.int .u64 n.path, .int .u64 n.parent, .string xn, .int .u32 xm, .string n.uid, .string xg, .string n.muid, .int .u32 n.atime, .int .u32 xt, .int .u32 n.vers, .int .u64 xl, .int .i64 n.opens, .int .i64 n.kids]) := ⟨rfl, rfl, rfl, by simp [World.setRow], fun k _ hk => setRow_other _ _ k _ (by simpa using hk)⟩
                    have K4 : Kept [] u2 (v6.setRow v1.heap.size #[.int .u64 n.path, .int .u64 n.parent, .string xn, .int .u32 xm, .string n.uid, .string xg, .string n.muid, .int .u32 n.atime, .int .u32 xt, .int .u32 n.vers, .int .u64 xl, .int .i64 n.opens, .int .i64 n.kids]) := KC6.trans k4 (fun i hi => Or.inr (by rw [List.mem_singleton] at hi; subst hi; exact KC1.size))
                    refine wpAnyH_one (i := 12) (by kernel_rfl) ?_
                    refine any_store8 rfl rfl 46 (.tmp 15) (.tmp 202) (v1.heap.size) #[.int .u64 n.path, .int .u64 n.parent, .string xn, .int .u32 xm, .string n.uid, .string xg, .string n.muid, .int .u32 n.atime, .int .u32 xt, .int .u32 n.vers, .int .u64 xl, .int .i64 n.opens, .int .i64 n.kids] 46 #[.int .u64 0, .int .u64 0, .string ⟨#[]⟩, .int .u32 0, .string ⟨#[]⟩, .string ⟨#[]⟩, .string ⟨#[]⟩, .int .u32 0, .int .u32 0, .int .u32 0, .int .u64 0, .int .i64 0, .int .i64 0] rfl (by simp [go_sem]) (by simp [go_sem]) bC6 size_node9 rfl (by simp [Value.oneCell']) ⟨HSC.out _ K4, ?_⟩
                    refine wpAnyH_one (i := 13) (by kernel_rfl) ?_
                    refine any_value8 rfl rfl (.int .i64 0) (by simp [execOp, go_sem]) ⟨HSC.out _ K4, ?_⟩
                    refine wpAnyH_done (by kernel_rfl) ?_ _
                    simp [go_sem]
                    go_wp2_with fail
                    go_meet
                    exact ⟨_, rfl, rfl, setRow_heap _ _ _ #[.int .u64 n.path, .int .u64 n.parent, .string xn, .int .u32 xm, .string n.uid, .string xg, .string n.muid, .int .u32 n.atime, .int .u32 xt, .int .u32 n.vers, .int .u64 xl, .int .i64 n.opens, .int .i64 n.kids] 46 (0, 0) bC6, K4⟩
                · skip
                  have KA8 : Kept [] u2 (u2.drew.alloc (.cells #[.int .u64 0, .int .u64 0, .string ⟨#[]⟩, .int .u32 0, .string ⟨#[]⟩, .string ⟨#[]⟩, .string ⟨#[]⟩, .int .u32 0, .int .u32 0, .int .u32 0, .int .u64 0, .int .i64 0, .int .i64 0] 46)) := KDc.out.alloc _
                  have bA8 : (u2.drew.alloc (.cells #[.int .u64 0, .int .u64 0, .string ⟨#[]⟩, .int .u32 0, .string ⟨#[]⟩, .string ⟨#[]⟩, .string ⟨#[]⟩, .int .u32 0, .int .u32 0, .int .u32 0, .int .u64 0, .int .i64 0, .int .i64 0] 46)).heap[u2.drew.heap.size]? = some (.cells #[.int .u64 0, .int .u64 0, .string ⟨#[]⟩, .int .u32 0, .string ⟨#[]⟩, .string ⟨#[]⟩, .string ⟨#[]⟩, .int .u32 0, .int .u32 0, .int .u32 0, .int .u64 0, .int .i64 0, .int .i64 0] 46 (0, 0)) := (MapKept.heap_alloc u2.drew _).1
                  refine any_alloc8 (w' := (u2.drew.alloc (.cells #[.int .u64 0, .int .u64 0, .string ⟨#[]⟩, .int .u32 0, .string ⟨#[]⟩, .string ⟨#[]⟩, .string ⟨#[]⟩, .int .u32 0, .int .u32 0, .int .u32 0, .int .u64 0, .int .i64 0, .int .i64 0] 46))) rfl rfl (.pointer (some ⟨u2.drew.heap.size, 0, none⟩)) (by simp [execOp, go_sem]) ⟨HSC.out _ KA8, ?_⟩
                  refine wpAnyH_one (i := 6) (by kernel_rfl) ?_
                  refine any_callR rfl rfl 18 #[.agg #[.int .u64 n.path, .int .u64 n.parent, .string xn, .int .u32 xm, .string n.uid, .string xg, .string n.muid, .int .u32 n.atime, .int .u32 xt, .int .u32 n.vers, .int .u64 xl, .int .i64 n.opens, .int .i64 n.kids]] (by simp [go_sem]) (REC2.out _) ?_
                  rintro e v9 ⟨rfl, k9'⟩
                  have KC9 : Kept [] u2 v9 := KA8.trans k9' (fun i hi => by cases hi)
                  have bC9 := (k9'.block _ (block_lt bA8) (by simp)).trans bA8
                  refine ⟨_, rfl, HSC.out _ KC9, ?_⟩
                  refine wpAnyH_one (i := 7) (by kernel_rfl) ?_
                  refine any_callR rfl rfl 17 #[.pointer (some ⟨q, 0, none⟩), .string u, .agg G28.toArray, .agg RV2] (by simp [go_sem]) (WS2.out _ (FAD.out _ KC9)) ?_
                  rintro e v10 ⟨rfl, k10'⟩
                  have KC10 : Kept [] u2 v10 := KC9.trans k10' (fun i hi => by cases hi)
                  have bC10 := (k10'.block _ (block_lt bC9) (by simp)).trans bC9
                  refine ⟨_, rfl, HSC.out _ KC10, ?_⟩
                  refine wpAnyH_take (i := 8) (v := .tuple #[.agg #[.int .u64 n.path, .int .u64 n.parent, .string xn, .int .u32 xm, .string n.uid, .string xg, .string n.muid, .int .u32 n.atime, .int .u32 xt, .int .u32 n.vers, .int .u64 xl, .int .i64 n.opens, .int .i64 n.kids], .int .i64 0]) rfl (by kernel_rfl) (by kernel_rfl) (by kernel_rfl) (fun _ _ _ h => h) (Or.inl ⟨by rfl, fun w b => by simp [execOp, go_sem]⟩) (HSC.out _ KC10) ?_
                  refine wpAnyH_take (i := 9) (v := .agg #[.int .u64 n.path, .int .u64 n.parent, .string xn, .int .u32 xm, .string n.uid, .string xg, .string n.muid, .int .u32 n.atime, .int .u32 xt, .int .u32 n.vers, .int .u64 xl, .int .i64 n.opens, .int .i64 n.kids]) rfl (by kernel_rfl) (by kernel_rfl) (by kernel_rfl) (fun _ _ _ h => h) (Or.inl ⟨by rfl, fun w b => by simp [execOp, go_sem]⟩) (HSC.out _ KC10) ?_
                  refine wpAnyH_take (i := 10) (v := .int .i64 0) rfl (by kernel_rfl) (by kernel_rfl) (by kernel_rfl) (fun _ _ _ h => h) (Or.inl ⟨by rfl, fun w b => by simp [execOp, go_sem]⟩) (HSC.out _ KC10) ?_
                  have k4 : Kept [u2.drew.heap.size] v10 (v10.setRow u2.drew.heap.size #[.int .u64 n.path, .int .u64 n.parent, .string xn, .int .u32 xm, .string n.uid, .string xg, .string n.muid, .int .u32 n.atime, .int .u32 xt, .int .u32 n.vers, .int .u64 xl, .int .i64 n.opens, .int .i64 n.kids]) := ⟨rfl, rfl, rfl, by simp [World.setRow], fun k _ hk => setRow_other _ _ k _ (by simpa using hk)⟩
                  have K4 : Kept [] u2 (v10.setRow u2.drew.heap.size #[.int .u64 n.path, .int .u64 n.parent, .string xn, .int .u32 xm, .string n.uid, .string xg, .string n.muid, .int .u32 n.atime, .int .u32 xt, .int .u32 n.vers, .int .u64 xl, .int .i64 n.opens, .int .i64 n.kids]) := KC10.trans k4 (fun i hi => Or.inr (by rw [List.mem_singleton] at hi; subst hi; exact KDc.out.size))
                  refine wpAnyH_one (i := 12) (by kernel_rfl) ?_
                  refine any_store8 rfl rfl 46 (.tmp 15) (.tmp 202) (u2.drew.heap.size) #[.int .u64 n.path, .int .u64 n.parent, .string xn, .int .u32 xm, .string n.uid, .string xg, .string n.muid, .int .u32 n.atime, .int .u32 xt, .int .u32 n.vers, .int .u64 xl, .int .i64 n.opens, .int .i64 n.kids] 46 #[.int .u64 0, .int .u64 0, .string ⟨#[]⟩, .int .u32 0, .string ⟨#[]⟩, .string ⟨#[]⟩, .string ⟨#[]⟩, .int .u32 0, .int .u32 0, .int .u32 0, .int .u64 0, .int .i64 0, .int .i64 0] rfl (by simp [go_sem]) (by simp [go_sem]) bC10 size_node9 rfl (by simp [Value.oneCell']) ⟨HSC.out _ K4, ?_⟩
                  refine wpAnyH_one (i := 13) (by kernel_rfl) ?_
                  refine any_value8 rfl rfl (.int .i64 0) (by simp [execOp, go_sem]) ⟨HSC.out _ K4, ?_⟩
                  refine wpAnyH_done (by kernel_rfl) ?_ _
                  simp [go_sem]
                  go_wp2_with fail
                  go_meet
                  exact ⟨_, rfl, rfl, setRow_heap _ _ _ #[.int .u64 n.path, .int .u64 n.parent, .string xn, .int .u32 xm, .string n.uid, .string xg, .string n.muid, .int .u32 n.atime, .int .u32 xt, .int .u32 n.vers, .int .u64 xl, .int .i64 n.opens, .int .i64 n.kids] 46 (0, 0) bC10, K4⟩
              case rest =>
                obtain ⟨RD, rfl, rfl, hD⟩ := hcut
                obtain ⟨u3, hu3⟩ : ∃ x, x = wc := ⟨_, rfl⟩
                subst hu3
                have X3 := Lib.hid (HSC.out _ hD.out.2).2.2
                have D3 := Lib.hid hD.out.1
                have KF : Hid (Kept [] w u3) := K26.out.trans hD.out.2 (fun i hi => by cases hi)
                clear hD HSC FAD REC2 WS2
                go_wp2_with (first | (refine wpList_nmid (by rfl) (.tmp 15) rfl RD 0 rfl _ (whole13 D3.out) rfl ?_) | (refine wpList_nmid (by rfl) (.tmp 12) rfl RX 0 rfl _ (whole13 X3.out) rfl ?_))
                go_ret
                exact ⟨by simp, KF.out⟩
          · have hx0 := BAD he
            subst hx0
            have heb : (e1 != 0) = true := by simp [he]
            have WSX : Hid (∀ w', ∀ {B q : Nat}, Tb w' B q T → Calls Tryz.prog 17 #[.pointer (some ⟨q, 0, none⟩), .string u, .agg F28.toArray, .agg #[.int .u16 s.ty, .int .u32 s.dev, .int .u8 s.kd, .int .u32 s.vr, .int .u64 s.pa, .int .u32 s.mo, .int .u32 s.atm, .int .u32 s.mt, .int .u64 s.ln, .string s.nm, .string s.ud, .string s.gd, .string s.mu]] w' fun e w'' => e = .returned (.tuple #[.agg #[.int .u64 0, .int .u64 0, .string ⟨#[]⟩, .int .u32 0, .string ⟨#[]⟩, .string ⟨#[]⟩, .string ⟨#[]⟩, .int .u32 0, .int .u32 0, .int .u32 0, .int .u64 0, .int .i64 0, .int .i64 0], .int .i64 e1]) ∧ Kept [] w' w'') := fun w' B q h => by rw [← hFA]; exact WSX0 w' B q h
            clear WSX0 SHP BAD su sg sp ss e0s TL TL2 n1 n3 z0 z1 z2 z3 z4 z5 z6 z7 z8 z9 z10 z11 z12 hnm hpm b3 b4 b6 b7 b8 hF28 hFA he
            go_wp2_with (first | (refine wpList_fmid (by rfl) (.tmp 90) rfl R 2 rfl F28 (FR.out _ (FAC.out _ L9.out).1) HL.out ?_) | (refine wpList_lstat rfl (.tmp 3) rfl RS _ rfl (FAC.out _ L9.out).2.2.1 rfl ?_) | (go_at_call 17; refine (WSX.out _ (FAC.out _ L9.out).2.1).mono ?_; rintro e w10 ⟨rfl, k10⟩; have L10 : Hid (Kept [] w7 w10) := L9.out.trans k10 (fun i hi => by cases hi); clear k10 x0 x1 x30 x31 x32) | (refine wpList_srow8 rfl (.tmp 12) (.tmp 94) rfl w10.heap.size rfl _ #[.int .u64 0, .int .u64 0, .string ⟨#[]⟩, .int .u32 0, .string ⟨#[]⟩, .string ⟨#[]⟩, .string ⟨#[]⟩, .int .u32 0, .int .u32 0, .int .u32 0, .int .u64 0, .int .i64 0, .int .i64 0] rfl (MapKept.heap_alloc w10 _).1 rfl rfl (by simp [Value.oneCell']) ?_; intro w11 b11 k11; have L11 : Hid (Kept [] w7 w11) := L10.out.trans (((Kept.refl [] w10).alloc _).trans k11 (fun i hi => Or.inr (by have h1 := List.mem_singleton.1 hi; omega))) (fun i hi => by cases hi); have X11 := Lib.hid b11; clear k11 b11) | (refine wpList_nmid (by rfl) (.tmp 12) rfl w10.heap.size 0 rfl _ (whole13 X11.out) rfl ?_))
            go_ret
            exact ⟨by simp, K7.out.trans L11.out (fun i hi => by cases hi)⟩
end Ru
end Go.Proofs.YteeheapenfklcaaGreatDoor
