/- RulesClasses walked. -/
import Derived.Test.YtedkeomaldhojaaDoorRcl
import Derived.Test.YtedkeomaldhojaaDoorRcw
namespace Go.Proofs.YtedkeomaldhojaaDoor
set_option linter.unusedVariables false
open Go.RowKit Go.Shelf
attribute [local go_sem] Oper.semAt_some
namespace Ru
open Go.Proofs.YtedkeomaldhojaaDoor.Utf Go.Proofs.YtedkeomaldhojaaDoor.Txt Go.PlainAid Go.Proofs.YtedkeomaldhojaaDoor.Mpf Go.Proofs.YtedkeomaldhojaaDoor.Us

set_option maxRecDepth 100000 in
theorem Bc.four {w : World} {R : Nat} {text u : ByteArray} {n p : Nd} {tk fl : Bool} {name : ByteArray} {pm mode : Int} (h : Bc w R text u n p tk fl name pm mode) : w.cell? ⟨R, 2, none⟩ = some (Value.int .u64 n.path) ∧ w.cell? ⟨R, 5, none⟩ = some (Value.int .u32 n.mode) ∧ w.cell? ⟨R, 28, none⟩ = some (Value.bool tk) ∧ w.cell? ⟨R, 29, none⟩ = some (Value.bool fl) := by
  refine ⟨?_, ?_, ?_, ?_⟩ <;> (rw [cell_of_row w R _ _ _ (0, 0) h]; rfl)
set_option maxHeartbeats 32000000 in
set_option maxRecDepth 100000 in
theorem classes_law (w : World) (hm : Ml w) (text u : ByteArray) (n p : Nd) (tk fl : Bool) (name : ByteArray) (pm mode : Int) (h0 : text.size ≤ 140737488355328) (h1 : u.size ≤ 140737488355328) (h2 : name.size ≤ 140737488355328) (n1 : n.name.size ≤ 140737488355328) (n2 : n.uid.size ≤ 140737488355328) (n3 : n.gid.size ≤ 140737488355328) (n4 : n.muid.size ≤ 140737488355328) (p1 : p.name.size ≤ 140737488355328) (p2 : p.uid.size ≤ 140737488355328) (p3 : p.gid.size ≤ 140737488355328) (p4 : p.muid.size ≤ 140737488355328) (hnm : n.mode < 4294967296) (hpm : p.mode < 4294967296) :
    Calls Tryd.prog 6 #[.agg #[.string text, .string u, .int .u64 n.path, .int .u64 n.parent, .string n.name, .int .u32 n.mode, .string n.uid, .string n.gid, .string n.muid, .int .u32 n.atime, .int .u32 n.mtime, .int .u32 n.vers, .int .u64 n.length, .int .i64 n.opens, .int .i64 n.kids, .int .u64 p.path, .int .u64 p.parent, .string p.name, .int .u32 p.mode, .string p.uid, .string p.gid, .string p.muid, .int .u32 p.atime, .int .u32 p.mtime, .int .u32 p.vers, .int .u64 p.length, .int .i64 p.opens, .int .i64 p.kids, .bool tk, .bool fl, .string name, .int .u32 pm, .int .u8 mode]] w fun e w' => e = .returned (.bool true) ∧ Kept [] w w' := by
  obtain ⟨V, hV⟩ : ∃ V : Array Value, V = #[.string text, .string u, .int .u64 n.path, .int .u64 n.parent, .string n.name, .int .u32 n.mode, .string n.uid, .string n.gid, .string n.muid, .int .u32 n.atime, .int .u32 n.mtime, .int .u32 n.vers, .int .u64 n.length, .int .i64 n.opens, .int .i64 n.kids, .int .u64 p.path, .int .u64 p.parent, .string p.name, .int .u32 p.mode, .string p.uid, .string p.gid, .string p.muid, .int .u32 p.atime, .int .u32 p.mtime, .int .u32 p.vers, .int .u64 p.length, .int .i64 p.opens, .int .i64 p.kids, .bool tk, .bool fl, .string name, .int .u32 pm, .int .u8 mode] := ⟨_, rfl⟩
  have HVS : Hid (V.size = 33) := by rw [hV]; rfl
  rw [← hV]
  have MUC : Hid (∀ w, Calls Tryd.prog 16 #[.agg V] w fun e w' => e = .returned (.int .i64 (weightC text u n p name)) ∧ Kept [] w w') := fun w => by rw [hV]; exact much_any w text u n p tk fl name pm mode h0 h1 h2 n1 n2 n3 n4 p1 p2 p3 p4
  obtain ⟨wt, hwt⟩ : ∃ wt, wt = weightC text u n p name := ⟨_, rfl⟩
  rw [← hwt] at MUC
  have B0 : Hid ((w.alloc (.cells V 38)).heap[w.heap.size]? = some (.cells V 38 (0, 0))) := (MapKept.heap_alloc w _).1
  obtain ⟨w1, hw1⟩ : ∃ w1, w1 = w.alloc (.cells V 38) := ⟨_, rfl⟩
  obtain ⟨R, hR⟩ : ∃ R, R = w.heap.size := ⟨_, rfl⟩
  have K1 : Hid (Kept [] w w1) := by rw [hw1]; exact (Kept.refl _ _).alloc _
  have C1 : Hid (Bc w1 R text u n p tk fl name pm mode) := by
    have := B0.out
    rw [← hw1, ← hR, hV] at this
    exact this
  have NRW : Hid (w.heap.size ≤ R) := by show _ ≤ _; omega
  have HW1 := Lib.hid hw1
  have HR := Lib.hid hR
  have KNO := Lib.hid (fun w' (k : Kept [] w w') => known_any w' (ml_kept hm k))
  have TAB := Lib.hid (fun w' (k : Kept [] w w') => table_any w' text (ml_kept hm k) h0)
  obtain ⟨T, hT⟩ : ∃ T, T = tableT text := ⟨_, rfl⟩
  rw [← hT] at TAB
  clear hT hw1 hR hm hV
  by_cases hbig : 8388608 < wt
  · have hb : (8388608 : Int) < (wt : Int) := by omega
    clear hbig hwt h0 h1 h2 n1 n2 n3 n4 p1 p2 p3 p4
    go_enter Tryd.func6, Tryd.ntmps6
    go_wp2_with (first | (refine wpList_cmid (by rfl) (.tmp 1) rfl w.heap.size rfl V B0.out HVS.out ?_) | (go_at_call 16; rw [← HW1.out, ← HR.out]; refine (MUC.out _).mono ?_; rintro e w2 ⟨rfl, k2⟩))
    go_ret
    exact ⟨rfl, K1.out.trans k2 (fun i hi => by cases hi)⟩
  · have hb : ¬ (8388608 : Int) < (wt : Int) := by omega
    have small : ∀ s : ByteArray, s.size ≤ wt → s.size ≤ maxLen := fun s h => by unfold maxLen; omega
    have su : u.size ≤ maxLen := small u (by rw [hwt]; unfold weightC; omega)
    have sg : n.gid.size ≤ maxLen := small n.gid (by rw [hwt]; unfold weightC; omega)
    have sp : p.gid.size ≤ maxLen := small p.gid (by rw [hwt]; unfold weightC; omega)
    clear hbig hwt small h0 h1 n1 n2 n3 n4 p1 p2 p3 p4
    obtain ⟨wn, hwn, wn7, wnp⟩ := wantsV_nat mode
    have on7 := ownN_le T u n
    have an7 := ownN_le T u p
    have FO : Hid (openE T u n p mode = 0 → wantsE mode = 0 ∧ (dirV n = true → mode = 0) ∧ bits .and .u32 (ownN T u n : Int) (wn : Int) = (wn : Int) ∧ 0 < wn ∧ (bits .and .u8 mode 64 ≠ 0 → bits .and .u32 (ownN T u p : Int) 2 ≠ 0)) := fun h => by
      obtain ⟨a, b, c, d⟩ := open_ok h
      rw [hwn] at c
      exact ⟨a, b, (may_and T u n wn wn7).1 c, wnp a, fun hb => (may_two T u p).1 (d hb)⟩
    have FM : Hid (makeE T u n tk fl name pm mode = 0 → dirV n = true ∧ Nm.chk name = true ∧ bits .and .u32 (ownN T u n : Int) 2 ≠ 0 ∧ tk = false ∧ fl = false) := fun h => by
      obtain ⟨a, b, _, _, _, c, d, e⟩ := make_ok h
      exact ⟨a, b, (may_two T u n).1 c, d, e⟩
    have FR : Hid (removeE T u n p = 0 → ((n.path : Int) == 1) = false ∧ bits .and .u32 (ownN T u p : Int) 2 ≠ 0) := fun h => by
      obtain ⟨a, b⟩ := remove_ok h
      exact ⟨a, (may_two T u p).1 b⟩
    have FS : Hid (stepE T u n = 0 ↔ bits .and .u32 (ownN T u n : Int) 1 ≠ 0 ∧ dirV n = true) := by
      show _ ↔ _
      rw [step_iff, may_one]
    have CL1 := Lib.hid (fun w' B q (h : Tb w' B q T) => classesL_any h u n su sg hnm)
    have CL2 := Lib.hid (fun w' B q (h : Tb w' B q T) => classesL_any h u p su sp hpm)
    have RIG : Hid (∀ w' B q, Tb w' B q T → Calls Tryd.prog 19 #[.pointer (some ⟨q, 0, none⟩), .string u, .agg #[.int .u64 n.path, .int .u64 n.parent, .string n.name, .int .u32 n.mode, .string n.uid, .string n.gid, .string n.muid, .int .u32 n.atime, .int .u32 n.mtime, .int .u32 n.vers, .int .u64 n.length, .int .i64 n.opens, .int .i64 n.kids]] w' fun e w'' => e = .returned (.int .u8 (ownN T u n)) ∧ Kept [] w' w'') := fun w' B q h => by
      have := rights_t h u n su sg
      rw [rightsV_nat] at this
      exact this
    have OPE := Lib.hid (fun w' B q (h : Tb w' B q T) => Open_any h u n p tk fl mode su sg sp)
    have CRE := Lib.hid (fun w' B q (h : Tb w' B q T) => Create_any h u n p tk fl name pm mode su sg h2)
    have REM := Lib.hid (fun w' B q (h : Tb w' B q T) => Remove_any h u n p tk fl su sp)
    have STE := Lib.hid (fun w' B q (h : Tb w' B q T) => Step_any h u n su sg)
    have CLO := Lib.hid (fun w' B q (h : Tb w' B q T) => Closes_any h u n p tk fl su sp)
    have WAN : Hid (∀ w, Calls Tryd.prog 11 #[.int .u8 mode] w fun e w' => e = .returned (.tuple #[.int .u8 wn, .int .i64 (wantsE mode)]) ∧ w = w') := fun w => by rw [← hwn]; exact Wants_any w mode
    have CHK := Lib.hid (fun w' => Nm.check_any w' name h2)
    have MS1 := Lib.hid (createA_ok T u n tk fl name pm mode)
    obtain ⟨A1, hA1⟩ : ∃ A, A = createA T u n tk fl name pm mode := ⟨_, rfl⟩
    obtain ⟨e1, he1⟩ : ∃ A, A = makeE T u n tk fl name pm mode := ⟨_, rfl⟩
    obtain ⟨o1, ho1⟩ : ∃ A, A = openE T u n p mode := ⟨_, rfl⟩
    obtain ⟨r1, hr1⟩ : ∃ A, A = removeE T u n p := ⟨_, rfl⟩
    obtain ⟨s1, hs1⟩ : ∃ A, A = stepE T u n := ⟨_, rfl⟩
    obtain ⟨we, hwe⟩ : ∃ A, A = wantsE mode := ⟨_, rfl⟩
    obtain ⟨on, hon⟩ : ∃ A, A = ownN T u n := ⟨_, rfl⟩
    obtain ⟨an, han⟩ : ∃ A, A = ownN T u p := ⟨_, rfl⟩
    rw [← hA1, ← he1] at CRE
    rw [← hA1] at MS1
    rw [← ho1] at OPE
    rw [← hr1] at REM CLO
    rw [← hs1] at STE
    rw [← hwe] at WAN
    rw [← hon] at CL1 RIG on7
    rw [← han] at CL2 an7
    rw [← ho1, ← hwe, ← hon, ← han] at FO
    rw [← he1, ← hon] at FM
    rw [← hr1, ← han] at FR
    rw [← hs1, ← hon] at FS
    clear hA1 he1 ho1 hr1 hs1 hwe hon han hwn wnp su sg sp h2 hnm hpm
    have i1 : (0 : Int) ≤ (on : Int) := by omega
    have i2 : (on : Int) ≤ 255 := by omega
    have i3 : (0 : Int) ≤ (wn : Int) := by omega
    have i4 : (wn : Int) ≤ 255 := by omega
    clear on7 an7 wn7
    go_enter Tryd.func6, Tryd.ntmps6
    go_wp2_with (first | (refine wpList_cmid (by rfl) (.tmp 1) rfl w.heap.size rfl V B0.out HVS.out ?_) | (go_at_call 16; rw [← HW1.out, ← HR.out]; refine (MUC.out _).mono ?_; rintro e w2 ⟨rfl, k2⟩; have K2 : Hid (Kept [] w w2) := K1.out.trans k2 (fun i hi => by cases hi); have C2 := Lib.hid (C1.out.kept k2 (by simp)); obtain ⟨x0, x1, x30, x31, x32⟩ := C2.out.five; clear k2) | (go_at_call 10; refine (KNO.out _ K2.out).mono ?_; rintro e w3 ⟨rfl, k3⟩; clear x0 x1 x30 x31 x32; have K3 : Hid (Kept [] w w3) := K2.out.trans k3 (fun i hi => by cases hi); have C3 := Lib.hid (C2.out.kept k3 (by simp)); obtain ⟨x0, x1, x30, x31, x32⟩ := C3.out.five; clear k3) | (go_at_call 17; refine (TAB.out _ K3.out).mono ?_; rintro e w4 ⟨B, q, rfl, t4, k4⟩; clear x0 x1 x30 x31 x32; have K4 : Hid (Kept [] w w4) := K3.out.trans k4 (fun i hi => by cases hi); have C4 := Lib.hid (C3.out.kept k4 (by simp)); obtain ⟨x0, x1, x30, x31, x32⟩ := C4.out.five; have T4 := Lib.hid t4; clear k4 t4) | (refine wpList_nmid (by rfl) (.tmp 31) rfl R 2 rfl [.int .u64 n.path, .int .u64 n.parent, .string n.name, .int .u32 n.mode, .string n.uid, .string n.gid, .string n.muid, .int .u32 n.atime, .int .u32 n.mtime, .int .u32 n.vers, .int .u64 n.length, .int .i64 n.opens, .int .i64 n.kids] C4.out.node rfl ?_) | (go_at_call 18; refine (CL1.out _ _ _ T4.out).mono ?_; rintro e w5 ⟨rfl, k5⟩; clear x0 x1 x30 x31 x32; have K5 : Hid (Kept [] w w5) := K4.out.trans k5 (fun i hi => by cases hi); have C5 := Lib.hid (C4.out.kept k5 (by simp)); obtain ⟨x0, x1, x30, x31, x32⟩ := C5.out.five; have T5 := Lib.hid (T4.out.kept k5); clear k5; clear CL1) | (refine wpList_nmid (by rfl) (.tmp 38) rfl R 15 rfl [.int .u64 p.path, .int .u64 p.parent, .string p.name, .int .u32 p.mode, .string p.uid, .string p.gid, .string p.muid, .int .u32 p.atime, .int .u32 p.mtime, .int .u32 p.vers, .int .u64 p.length, .int .i64 p.opens, .int .i64 p.kids] C5.out.parent rfl ?_) | (go_at_call 18; refine (CL2.out _ _ _ T5.out).mono ?_; rintro e w6 ⟨rfl, k6⟩; clear x0 x1 x30 x31 x32; have K6 : Hid (Kept [] w w6) := K5.out.trans k6 (fun i hi => by cases hi); have C6 := Lib.hid (C5.out.kept k6 (by simp)); obtain ⟨x0, x1, x30, x31, x32⟩ := C6.out.five; have T6 := Lib.hid (T5.out.kept k6); clear k6) | (refine wpList_nmid (by rfl) (.tmp 45) rfl R 2 rfl [.int .u64 n.path, .int .u64 n.parent, .string n.name, .int .u32 n.mode, .string n.uid, .string n.gid, .string n.muid, .int .u32 n.atime, .int .u32 n.mtime, .int .u32 n.vers, .int .u64 n.length, .int .i64 n.opens, .int .i64 n.kids] C6.out.node rfl ?_) | (go_at_call 19; refine (RIG.out _ _ _ T6.out).mono ?_; rintro e w7 ⟨rfl, k7⟩; clear x0 x1 x30 x31 x32; have K7 : Hid (Kept [] w w7) := K6.out.trans k7 (fun i hi => by cases hi); have C7 := Lib.hid (C6.out.kept k7 (by simp)); obtain ⟨x0, x1, x30, x31, x32⟩ := C7.out.five; have T7 := Lib.hid (T6.out.kept k7); clear k7) | (refine wpList_fmid (by rfl) (.tmp 54) rfl R 2 rfl [.int .u64 n.path, .int .u64 n.parent, .string n.name, .int .u32 n.mode, .string n.uid, .string n.gid, .string n.muid, .int .u32 n.atime, .int .u32 n.mtime, .int .u32 n.vers, .int .u64 n.length, .int .i64 n.opens, .int .i64 n.kids, .int .u64 p.path, .int .u64 p.parent, .string p.name, .int .u32 p.mode, .string p.uid, .string p.gid, .string p.muid, .int .u32 p.atime, .int .u32 p.mtime, .int .u32 p.vers, .int .u64 p.length, .int .i64 p.opens, .int .i64 p.kids, .bool tk, .bool fl] C7.out.facts rfl ?_) | (go_at_call 20; refine (OPE.out _ _ _ T7.out).mono ?_; rintro e w8 ⟨rfl, k8⟩; clear x0 x1 x30 x31 x32; have K8 : Hid (Kept [] w w8) := K7.out.trans k8 (fun i hi => by cases hi); have C8 := Lib.hid (C7.out.kept k8 (by simp)); obtain ⟨x0, x1, x30, x31, x32⟩ := C8.out.five; have T8 := Lib.hid (T7.out.kept k8); clear k8))
    refine (WAN.out _).mono ?_
    rintro e w9 ⟨rfl, rfl⟩
    go_upto_region 13 with (fail)
    go_cut [5, 83] from 65 to 82 (fun s5 s83 wx => s5 = .int .u32 (on : Int) ∧ s83 = .bool false ∧ w8 = wx)
    case first =>
      by_cases ho : o1 = 0
      · subst ho
        obtain ⟨a, b, c, d, -⟩ := FO.out rfl
        subst a
        have d1 : ((wn : Int) == 0) = false := by simp; omega
        clear b d
        go_wp2_with fail
        go_meet
        exact ⟨rfl, rfl, rfl⟩
      · have o1b : (o1 == 0) = false := by simpa using ho
        clear ho
        go_wp2_with fail
        go_meet
        exact ⟨rfl, rfl, rfl⟩
    case rest =>
      obtain ⟨rfl, rfl, rfl⟩ := hcut
      go_upto_region 15 with (fail)
      go_cut [5, 96] from 84 to 95 (fun s5 s96 wx => s5 = .int .u32 (on : Int) ∧ s96 = .bool false ∧ w8 = wx)
      case first =>
        by_cases ho : o1 = 0
        · subst ho
          obtain ⟨-, -, -, -, e⟩ := FO.out rfl
          by_cases hb6 : bits .and .u8 mode 64 = 0
          · clear e
            go_wp2_with fail
            go_meet
            exact ⟨rfl, rfl, rfl⟩
          · have b1 : (bits .and .u8 mode 64 != 0) = true := by simp [hb6]
            have b2 : (bits .and .u32 (an : Int) 2 == 0) = false := by simpa using e hb6
            clear e hb6
            go_wp2_with fail
            go_meet
            exact ⟨rfl, rfl, rfl⟩
        · have o1b : (o1 == 0) = false := by simpa using ho
          clear ho
          go_wp2_with fail
          go_meet
          exact ⟨rfl, rfl, rfl⟩
      case rest =>
        obtain ⟨rfl, rfl, rfl⟩ := hcut
        go_upto_region 17 with (fail)
        go_cut [5, 111] from 97 to 110 (fun s5 s111 wx => s5 = .int .u32 (on : Int) ∧ s111 = .bool false ∧ w8 = wx)
        case first =>
          obtain ⟨y2, y5, y28, y29⟩ := C8.out.four
          by_cases ho : o1 = 0
          · subst ho
            obtain ⟨-, b, -⟩ := FO.out rfl
            unfold dirV at b
            by_cases hd : bits .and .u32 (n.mode : Int) 2147483648 = 0
            · clear b
              go_wp2_with fail
              go_meet
              exact ⟨rfl, rfl, rfl⟩
            · have b1 : (bits .and .u32 (n.mode : Int) 2147483648 != 0) = true := by simp [hd]
              have b2 := b b1
              subst b2
              clear b hd
              go_wp2_with fail
              go_meet
              exact ⟨rfl, rfl, rfl⟩
          · have o1b : (o1 == 0) = false := by simpa using ho
            clear ho
            go_wp2_with fail
            go_meet
            exact ⟨rfl, rfl, rfl⟩
        case rest =>
          obtain ⟨rfl, rfl, rfl⟩ := hcut
          go_upto_region 20 with (first | (refine wpList_fmid (by rfl) (.tmp 116) rfl R 2 rfl [.int .u64 n.path, .int .u64 n.parent, .string n.name, .int .u32 n.mode, .string n.uid, .string n.gid, .string n.muid, .int .u32 n.atime, .int .u32 n.mtime, .int .u32 n.vers, .int .u64 n.length, .int .i64 n.opens, .int .i64 n.kids, .int .u64 p.path, .int .u64 p.parent, .string p.name, .int .u32 p.mode, .string p.uid, .string p.gid, .string p.muid, .int .u32 p.atime, .int .u32 p.mtime, .int .u32 p.vers, .int .u64 p.length, .int .i64 p.opens, .int .i64 p.kids, .bool tk, .bool fl] C8.out.facts rfl ?_) | (go_at_call 21; refine (CRE.out _ _ _ T8.out).mono ?_; rintro e w10 ⟨rfl, k10⟩; clear x0 x1 x30 x31 x32; have K10 : Hid (Kept [] w w10) := K8.out.trans k10 (fun i hi => by cases hi); have C10 := Lib.hid (C8.out.kept k10 (by simp)); obtain ⟨x0, x1, x30, x31, x32⟩ := C10.out.five; have T10 := Lib.hid (T8.out.kept k10); clear k10) | (refine wpList_srow8 rfl (.tmp 10) (.tmp 125) rfl w10.heap.size rfl _ A1 rfl (MapKept.heap_alloc w10 _).1 rfl MS1.out.1 MS1.out.2 ?_; intro w11 b11 k11'; have k11 : Kept [] w10 w11 := ((Kept.refl [] w10).alloc _).trans k11' (fun i hi => Or.inr (by simp at hi; omega)); clear x0 x1 x30 x31 x32 b11 k11'; have K11 : Hid (Kept [] w w11) := K10.out.trans k11 (fun i hi => by cases hi); have C11 := Lib.hid (C10.out.kept k11 (by simp)); obtain ⟨x0, x1, x30, x31, x32⟩ := C11.out.five; have T11 := Lib.hid (T10.out.kept k11); clear k11))
          obtain ⟨y2, y5, y28, y29⟩ := C11.out.four
          go_cut [5, 157] from 127 to 156 (fun s5 s157 wx => s5 = .int .u32 (on : Int) ∧ s157 = .bool false ∧ Hid (Kept [] w11 wx))
          case first =>
            by_cases he : e1 = 0
            · subst he
              obtain ⟨f1, f2, f3, f4, f5⟩ := FM.out rfl
              subst f4
              subst f5
              rw [if_pos f2] at CHK
              unfold dirV at f1
              have b1 : (bits .and .u32 (n.mode : Int) 2147483648 == 0) = false := by
                cases hx : (bits .and .u32 (n.mode : Int) 2147483648 == 0) with
                | false => rfl
                | true => simp [bne, hx] at f1
              have b2 : (bits .and .u32 (on : Int) 2 == 0) = false := by simpa using f3
              clear f1 f2 f3
              go_wp2_with (first | (go_at_call 22; refine (CHK.out _).mono ?_; rintro e wk ⟨rfl, kc⟩))
              go_meet
              exact ⟨rfl, rfl, Lib.hid kc⟩
            · have e1b : (e1 == 0) = false := by simpa using he
              clear he
              go_wp2_with fail
              go_meet
              exact ⟨rfl, rfl, Lib.hid (Kept.refl _ _)⟩
          case rest =>
            obtain ⟨rfl, rfl, k12⟩ := hcut
            obtain ⟨w12, rfl⟩ : ∃ x, x = wc := ⟨_, rfl⟩
            clear y2 y5 y28 y29 x0 x1 x30 x31 x32
            have K12 : Hid (Kept [] w w12) := K11.out.trans k12.out (fun i hi => by cases hi)
            have C12 := Lib.hid (C11.out.kept k12.out (by simp))
            obtain ⟨x0, x1, x30, x31, x32⟩ := C12.out.five
            have T12 := Lib.hid (T11.out.kept k12.out)
            clear k12
            go_upto_region 23 with (first | (refine wpList_fmid (by rfl) (.tmp 161) rfl R 2 rfl [.int .u64 n.path, .int .u64 n.parent, .string n.name, .int .u32 n.mode, .string n.uid, .string n.gid, .string n.muid, .int .u32 n.atime, .int .u32 n.mtime, .int .u32 n.vers, .int .u64 n.length, .int .i64 n.opens, .int .i64 n.kids, .int .u64 p.path, .int .u64 p.parent, .string p.name, .int .u32 p.mode, .string p.uid, .string p.gid, .string p.muid, .int .u32 p.atime, .int .u32 p.mtime, .int .u32 p.vers, .int .u64 p.length, .int .i64 p.opens, .int .i64 p.kids, .bool tk, .bool fl] C12.out.facts rfl ?_) | (go_at_call 23; refine (REM.out _ _ _ T12.out).mono ?_; rintro e w13 ⟨rfl, k13⟩; clear x0 x1 x30 x31 x32; have K13 : Hid (Kept [] w w13) := K12.out.trans k13 (fun i hi => by cases hi); have C13 := Lib.hid (C12.out.kept k13 (by simp)); obtain ⟨x0, x1, x30, x31, x32⟩ := C13.out.five; have T13 := Lib.hid (T12.out.kept k13); clear k13))
            obtain ⟨y2, y5, y28, y29⟩ := C13.out.four
            go_cut [6, 177] from 164 to 176 (fun s6 s177 wx => s6 = .int .u32 (an : Int) ∧ s177 = .bool false ∧ w13 = wx)
            case first =>
              by_cases hr : r1 = 0
              · subst hr
                obtain ⟨p1, p2⟩ := FR.out rfl
                have p3 : (bits .and .u32 (an : Int) 2 == 0) = false := by simpa using p2
                clear p2
                go_wp2_with fail
                go_meet
                exact ⟨rfl, rfl, rfl⟩
              · have r1b : (r1 == 0) = false := by simpa using hr
                clear hr
                go_wp2_with fail
                go_meet
                exact ⟨rfl, rfl, rfl⟩
            case rest =>
              obtain ⟨rfl, rfl, rfl⟩ := hcut
              clear y2 y5 y28 y29
              go_upto_region 26 with (first | (refine wpList_nmid (by rfl) (.tmp 182) rfl R 2 rfl [.int .u64 n.path, .int .u64 n.parent, .string n.name, .int .u32 n.mode, .string n.uid, .string n.gid, .string n.muid, .int .u32 n.atime, .int .u32 n.mtime, .int .u32 n.vers, .int .u64 n.length, .int .i64 n.opens, .int .i64 n.kids] C13.out.node rfl ?_) | (go_at_call 24; refine (STE.out _ _ _ T13.out).mono ?_; rintro e w14 ⟨rfl, k14⟩; clear x0 x1 x30 x31 x32; have K14 : Hid (Kept [] w w14) := K13.out.trans k14 (fun i hi => by cases hi); have C14 := Lib.hid (C13.out.kept k14 (by simp)); obtain ⟨x0, x1, x30, x31, x32⟩ := C14.out.five; have T14 := Lib.hid (T13.out.kept k14); clear k14))
              obtain ⟨y2, y5, y28, y29⟩ := C14.out.four
              have FSo := FS.out
              unfold dirV at FSo
              by_cases hs : s1 = 0
              · obtain ⟨q1, q2⟩ := FSo.1 hs
                have q1b : (bits .and .u32 (on : Int) 1 != 0) = true := by simpa using q1
                subst hs
                clear q1 FSo FS
                go_wp2_with (first | (refine wpList_fmid (by rfl) (.tmp 203) rfl R 2 rfl [.int .u64 n.path, .int .u64 n.parent, .string n.name, .int .u32 n.mode, .string n.uid, .string n.gid, .string n.muid, .int .u32 n.atime, .int .u32 n.mtime, .int .u32 n.vers, .int .u64 n.length, .int .i64 n.opens, .int .i64 n.kids, .int .u64 p.path, .int .u64 p.parent, .string p.name, .int .u32 p.mode, .string p.uid, .string p.gid, .string p.muid, .int .u32 p.atime, .int .u32 p.mtime, .int .u32 p.vers, .int .u64 p.length, .int .i64 p.opens, .int .i64 p.kids, .bool tk, .bool fl] C14.out.facts rfl ?_) | (go_at_call 25; refine (CLO.out _ _ _ T14.out).mono ?_; rintro e w15 ⟨rfl, k15⟩; clear x0 x1 x30 x31 x32; have K15 : Hid (Kept [] w w15) := K14.out.trans k15 (fun i hi => by cases hi); have C15 := Lib.hid (C14.out.kept k15 (by simp)); obtain ⟨x0, x1, x30, x31, x32⟩ := C15.out.five; have T15 := Lib.hid (T14.out.kept k15); clear k15))
                go_ret
                exact ⟨by simp, K15.out⟩
              · have sb : (s1 == 0) = false := by simpa using hs
                by_cases q1 : bits .and .u32 (on : Int) 1 = 0
                · have q1b : (bits .and .u32 (on : Int) 1 != 0) = false := by simp [q1]
                  clear hs q1 FSo FS
                  go_wp2_with (first | (refine wpList_fmid (by rfl) (.tmp 203) rfl R 2 rfl [.int .u64 n.path, .int .u64 n.parent, .string n.name, .int .u32 n.mode, .string n.uid, .string n.gid, .string n.muid, .int .u32 n.atime, .int .u32 n.mtime, .int .u32 n.vers, .int .u64 n.length, .int .i64 n.opens, .int .i64 n.kids, .int .u64 p.path, .int .u64 p.parent, .string p.name, .int .u32 p.mode, .string p.uid, .string p.gid, .string p.muid, .int .u32 p.atime, .int .u32 p.mtime, .int .u32 p.vers, .int .u64 p.length, .int .i64 p.opens, .int .i64 p.kids, .bool tk, .bool fl] C14.out.facts rfl ?_) | (go_at_call 25; refine (CLO.out _ _ _ T14.out).mono ?_; rintro e w15 ⟨rfl, k15⟩; clear x0 x1 x30 x31 x32; have K15 : Hid (Kept [] w w15) := K14.out.trans k15 (fun i hi => by cases hi); have C15 := Lib.hid (C14.out.kept k15 (by simp)); obtain ⟨x0, x1, x30, x31, x32⟩ := C15.out.five; have T15 := Lib.hid (T14.out.kept k15); clear k15))
                  go_ret
                  exact ⟨by simp, K15.out⟩
                · have q1b : (bits .and .u32 (on : Int) 1 != 0) = true := by simpa using q1
                  have q2 : (bits .and .u32 (n.mode : Int) 2147483648 != 0) = false := by
                    cases hx : (bits .and .u32 (n.mode : Int) 2147483648 != 0) with
                    | false => rfl
                    | true => exact absurd (FSo.2 ⟨q1, hx⟩) hs
                  clear hs q1 FSo FS
                  go_wp2_with (first | (refine wpList_fmid (by rfl) (.tmp 203) rfl R 2 rfl [.int .u64 n.path, .int .u64 n.parent, .string n.name, .int .u32 n.mode, .string n.uid, .string n.gid, .string n.muid, .int .u32 n.atime, .int .u32 n.mtime, .int .u32 n.vers, .int .u64 n.length, .int .i64 n.opens, .int .i64 n.kids, .int .u64 p.path, .int .u64 p.parent, .string p.name, .int .u32 p.mode, .string p.uid, .string p.gid, .string p.muid, .int .u32 p.atime, .int .u32 p.mtime, .int .u32 p.vers, .int .u64 p.length, .int .i64 p.opens, .int .i64 p.kids, .bool tk, .bool fl] C14.out.facts rfl ?_) | (go_at_call 25; refine (CLO.out _ _ _ T14.out).mono ?_; rintro e w15 ⟨rfl, k15⟩; clear x0 x1 x30 x31 x32; have K15 : Hid (Kept [] w w15) := K14.out.trans k15 (fun i hi => by cases hi); have C15 := Lib.hid (C14.out.kept k15 (by simp)); obtain ⟨x0, x1, x30, x31, x32⟩ := C15.out.five; have T15 := Lib.hid (T14.out.kept k15); clear k15))
                  go_ret
                  exact ⟨by simp, K15.out⟩
end Ru
end Go.Proofs.YtedkeomaldhojaaDoor
