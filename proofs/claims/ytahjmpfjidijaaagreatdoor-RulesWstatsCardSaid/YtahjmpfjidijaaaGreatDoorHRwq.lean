/- RulesWstats walked. -/
import Derived.Test.YtahjmpfjidijaaaGreatDoorGaq
import Derived.Test.YtahjmpfjidijaaaGreatDoorHRwb
import Derived.Test.YtahjmpfjidijaaaGreatDoorHRwx
namespace Go.Proofs.YtahjmpfjidijaaaGreatDoor
set_option linter.unusedVariables false
open Go.RowKit Go.Shelf
attribute [local go_sem] Oper.semAt_some
namespace Ru
open Go.Proofs.YtahjmpfjidijaaaGreatDoor.Utf Go.Proofs.YtahjmpfjidijaaaGreatDoor.Txt Go.PlainAid Go.Proofs.YtahjmpfjidijaaaGreatDoor.Mpf Go.Proofs.YtahjmpfjidijaaaGreatDoor.Us
theorem Tb.keptN {w w' : World} {B p R : Nat} {T : List Acc} {ds : Array Value} {z : Nat × Nat} (h : Tb w B p T) (k : Kept [R] w w') (hR : w.heap[R]? = some (.cells ds 51 z)) : Tb w' B p T := by
  obtain ⟨sl, m1, m2, n2, L, h, e⟩ := h
  have n1 : ∀ b cs t z', w.heap[b]? = some (.cells cs t z') → t ≠ 51 → b ∉ [R] := fun b cs t z' hb ht hm => by
    simp at hm
    subst hm
    rw [hb] at hR
    cases hR
    exact ht rfl
  have n3 : ∀ b es c, w.heap[b]? = some (.map es c) → b ∉ [R] := fun b es c hb hm => by
    simp at hm
    subst hm
    rw [hb] at hR
    cases hR
  refine ⟨sl, m1, m2, n2, L, ⟨(k.block _ (block_lt h.box) (n1 _ _ _ _ h.box (by decide))).trans h.box, h.pl.kept k ?_, h.bl.kept k ?_, own_kept h.row k ?_, fun x hx => (h.mem x hx).kept k ?_, h.far, h.ne⟩, e⟩
  · obtain ⟨es, c, hb, _⟩ := h.pl
    exact n3 _ _ _ hb
  · obtain ⟨es, c, hb, _⟩ := h.bl
    exact n3 _ _ _ hb
  · intro b hb
    obtain ⟨cs, hc⟩ := own_type h.row b hb
    exact n1 _ _ _ _ hc (by decide)
  · intro b hb
    obtain ⟨cs, hc⟩ := own_type (h.mem x hx) b hb
    exact n1 _ _ _ _ hc (by decide)
theorem Rt.keptC {w w' : World} {p R : Nat} {T : List Acc} {ds : Array Value} {z : Nat × Nat} (h : Rt w p T) (k : Kept [R] w w') (hR : w.heap[R]? = some (.cells ds 55 z)) : Rt w' p T := by
  obtain ⟨sl, L, hb, hr, hT, hL, hF⟩ := h
  refine ⟨sl, L, (k.block _ (block_lt hb) (fun hm => ?_)).trans hb, hr.kept k (fun b hb cs => ?_), hT, hL, hF⟩
  · simp at hm
    subst hm
    rw [hb] at hR
    simp at hR
  · simp at hb
    subst hb
    rw [hR]
    simp
theorem Rt.keptN {w w' : World} {p R : Nat} {T : List Acc} {ds : Array Value} {z : Nat × Nat} (h : Rt w p T) (k : Kept [R] w w') (hR : w.heap[R]? = some (.cells ds 51 z)) : Rt w' p T := by
  obtain ⟨sl, L, hb, hr, hT, hL, hF⟩ := h
  refine ⟨sl, L, (k.block _ (block_lt hb) (fun hm => ?_)).trans hb, hr.kept k (fun b hb cs => ?_), hT, hL, hF⟩
  · simp at hm
    subst hm
    rw [hb] at hR
    simp at hR
  · simp at hb
    subst hb
    rw [hR]
    simp
theorem wst_fit {T : List Acc} {u : ByteArray} {n p : Nd} {tk : Bool} {s : Wn} (h : wstE T u n p tk s = 0) (m : Nat) (hg : n.gid.size ≤ m) (hs : s.gd.size ≤ m) (hnm : n.mode < 4294967296) (b3 : n.vers ≤ 4294967295) (b4 : n.path ≤ 18446744073709551615) (b6 : n.atime ≤ 4294967295) (b7 : n.mtime ≤ 4294967295) (b8 : n.length ≤ 18446744073709551615) (z5 : s.mo ≤ 4294967295) (z7 : s.mt ≤ 4294967295) (z8 : s.ln ≤ 18446744073709551615) :
    (wstN T u n p tk s).gid.size ≤ m ∧ (wstN T u n p tk s).mode < 4294967296 ∧ (wstN T u n p tk s).vers ≤ 4294967295 ∧ (wstN T u n p tk s).path ≤ 18446744073709551615 ∧ (wstN T u n p tk s).atime ≤ 4294967295 ∧ (wstN T u n p tk s).mtime ≤ 4294967295 ∧ (wstN T u n p tk s).length ≤ 18446744073709551615 := by
  unfold wstN
  rw [if_pos h, setN_all]
  refine ⟨?_, ?_, b3, b4, b6, ?_, ?_⟩
  · show (if _ then s.gd else n.gid).size ≤ m
    split <;> assumption
  · show (if _ then s.mo else n.mode) < _
    split <;> omega
  · show (if _ then s.mt else n.mtime) ≤ _
    split <;> omega
  · show (if _ then s.ln else n.length) ≤ _
    split <;> omega
set_option maxHeartbeats 32000000 in
set_option maxRecDepth 100000 in
theorem wstats_law (w : World) (hm : Ml w) (text u : ByteArray) (n p : Nd) (tk fl : Bool) (name : ByteArray) (pm mode : Int) (s : Wn) (h0 : text.size ≤ 140737488355328) (h1 : u.size ≤ 140737488355328) (h2 : name.size ≤ 140737488355328) (n1 : n.name.size ≤ 140737488355328) (n2 : n.uid.size ≤ 140737488355328) (n3 : n.gid.size ≤ 140737488355328) (n4 : n.muid.size ≤ 140737488355328) (p1 : p.name.size ≤ 140737488355328) (p2 : p.uid.size ≤ 140737488355328) (p3 : p.gid.size ≤ 140737488355328) (p4 : p.muid.size ≤ 140737488355328) (z0 : s.ty ≤ 65535) (z1 : s.dev ≤ 4294967295) (z2 : s.kd ≤ 255) (z3 : s.vr ≤ 4294967295) (z4 : s.pa ≤ 18446744073709551615) (z5 : s.mo ≤ 4294967295) (z6 : s.atm ≤ 4294967295) (z7 : s.mt ≤ 4294967295) (z8 : s.ln ≤ 18446744073709551615) (z9 : s.nm.size ≤ 140737488355328) (z10 : s.ud.size ≤ 140737488355328) (z11 : s.gd.size ≤ 140737488355328) (z12 : s.mu.size ≤ 140737488355328) (hnm : n.mode < 4294967296) (hpm : p.mode < 4294967296) (b3 : n.vers ≤ 4294967295) (b4 : n.path ≤ 18446744073709551615) (b6 : n.atime ≤ 4294967295) (b7 : n.mtime ≤ 4294967295) (b8 : n.length ≤ 18446744073709551615) :
    Calls Tryz.prog 5 #[.agg #[.string text, .string u, .int .u64 n.path, .int .u64 n.parent, .string n.name, .int .u32 n.mode, .string n.uid, .string n.gid, .string n.muid, .int .u32 n.atime, .int .u32 n.mtime, .int .u32 n.vers, .int .u64 n.length, .int .i64 n.opens, .int .i64 n.kids, .int .u64 p.path, .int .u64 p.parent, .string p.name, .int .u32 p.mode, .string p.uid, .string p.gid, .string p.muid, .int .u32 p.atime, .int .u32 p.mtime, .int .u32 p.vers, .int .u64 p.length, .int .i64 p.opens, .int .i64 p.kids, .bool tk, .bool fl, .string name, .int .u32 pm, .int .u8 mode], .agg #[.int .u16 s.ty, .int .u32 s.dev, .int .u8 s.kd, .int .u32 s.vr, .int .u64 s.pa, .int .u32 s.mo, .int .u32 s.atm, .int .u32 s.mt, .int .u64 s.ln, .string s.nm, .string s.ud, .string s.gd, .string s.mu]] w fun e w' => e = .returned (.bool true) ∧ Kept [] w w' := by
  obtain ⟨V, hV⟩ : ∃ V : Array Value, V = #[.string text, .string u, .int .u64 n.path, .int .u64 n.parent, .string n.name, .int .u32 n.mode, .string n.uid, .string n.gid, .string n.muid, .int .u32 n.atime, .int .u32 n.mtime, .int .u32 n.vers, .int .u64 n.length, .int .i64 n.opens, .int .i64 n.kids, .int .u64 p.path, .int .u64 p.parent, .string p.name, .int .u32 p.mode, .string p.uid, .string p.gid, .string p.muid, .int .u32 p.atime, .int .u32 p.mtime, .int .u32 p.vers, .int .u64 p.length, .int .i64 p.opens, .int .i64 p.kids, .bool tk, .bool fl, .string name, .int .u32 pm, .int .u8 mode] := ⟨_, rfl⟩
  have HVS : Hid (V.size = 33) := by rw [hV]; rfl
  rw [← hV]
  have MUC : Hid (∀ w, Calls Tryz.prog 20 #[.agg V] w fun e w' => e = .returned (.int .i64 (weightC text u n p name)) ∧ Kept [] w w') := fun w => by rw [hV]; exact much_any w text u n p tk fl name pm mode h0 h1 h2 n1 n2 n3 n4 p1 p2 p3 p4
  obtain ⟨wt, hwt⟩ : ∃ wt, wt = weightC text u n p name := ⟨_, rfl⟩
  have hwb : wt ≤ 1548112371908608 := by rw [hwt]; unfold weightC; omega
  rw [← hwt] at MUC
  obtain ⟨w1, hw1⟩ : ∃ w1, w1 = (w.alloc (.cells V 55)).alloc (.cells #[.int .u16 s.ty, .int .u32 s.dev, .int .u8 s.kd, .int .u32 s.vr, .int .u64 s.pa, .int .u32 s.mo, .int .u32 s.atm, .int .u32 s.mt, .int .u64 s.ln, .string s.nm, .string s.ud, .string s.gd, .string s.mu] 60) := ⟨_, rfl⟩
  obtain ⟨R, hR⟩ : ∃ R, R = w.heap.size := ⟨_, rfl⟩
  obtain ⟨RS, hRS⟩ : ∃ R, R = w.heap.size + 1 := ⟨_, rfl⟩
  have K1 : Hid (Kept [] w w1) := by rw [hw1]; exact ((Kept.refl _ _).alloc _).alloc _
  have c1 : w1.heap[R]? = some (.cells V 55 (0, 0)) := by rw [hw1, hR]; exact two_old w _ _
  have s1 : w1.heap[RS]? = some (.cells #[.int .u16 s.ty, .int .u32 s.dev, .int .u8 s.kd, .int .u32 s.vr, .int .u64 s.pa, .int .u32 s.mo, .int .u32 s.atm, .int .u32 s.mt, .int .u64 s.ln, .string s.nm, .string s.ud, .string s.gd, .string s.mu] 60 (0, 0)) := by rw [hw1, hRS]; exact two_new w _ _
  have SS : Hid (∀ w', Kept [] w1 w' → w'.heap[R]? = some (.cells V 55 (0, 0)) ∧ w'.heap[RS]? = some (.cells #[.int .u16 s.ty, .int .u32 s.dev, .int .u8 s.kd, .int .u32 s.vr, .int .u64 s.pa, .int .u32 s.mo, .int .u32 s.atm, .int .u32 s.mt, .int .u64 s.ln, .string s.nm, .string s.ud, .string s.gd, .string s.mu] 60 (0, 0))) := fun w' k => ⟨(k.block _ (block_lt c1) (by simp)).trans c1, (k.block _ (block_lt s1) (by simp)).trans s1⟩
  have BC : Hid (∀ w', w'.heap[R]? = some (.cells V 55 (0, 0)) → Bc w' R text u n p tk fl name pm mode) := fun w' h => by rw [hV] at h; exact h
  have NRW : Hid (w.heap.size ≤ R ∧ w.heap.size ≤ RS ∧ R ≠ RS) := by show _ ∧ _; omega
  have HW1 := Lib.hid hw1
  have HR := Lib.hid hR
  have HRS := Lib.hid hRS
  have KNO := Lib.hid (fun w' (k : Kept [] w w') => known_any w' (ml_kept hm k))
  have TAB := Lib.hid (fun w' (k : Kept [] w w') => tables_any w' text (ml_kept hm k) h0)
  have GD := gd_table text
  have TL := tableT_len text
  obtain ⟨T, hT⟩ : ∃ T, T = tableT text := ⟨_, rfl⟩
  rw [← hT] at TAB GD TL
  have AD1 : Hid (IntKind.i64.wrap ((wt : Int) + (s.nm.size : Int)) = (wt : Int) + (s.nm.size : Int)) := by show _ = _; simp [IntKind.wrap_i64]; omega
  have AD2 : Hid (IntKind.i64.wrap ((wt : Int) + (s.nm.size : Int) + (s.ud.size : Int)) = (wt : Int) + (s.nm.size : Int) + (s.ud.size : Int)) := by show _ = _; simp [IntKind.wrap_i64]; omega
  have AD3 : Hid (IntKind.i64.wrap ((wt : Int) + (s.nm.size : Int) + (s.ud.size : Int) + (s.gd.size : Int)) = (wt : Int) + (s.nm.size : Int) + (s.ud.size : Int) + (s.gd.size : Int)) := by show _ = _; simp [IntKind.wrap_i64]; omega
  have AD4 : Hid (IntKind.i64.wrap ((wt : Int) + (s.nm.size : Int) + (s.ud.size : Int) + (s.gd.size : Int) + (s.mu.size : Int)) = (wt : Int) + (s.nm.size : Int) + (s.ud.size : Int) + (s.gd.size : Int) + (s.mu.size : Int)) := by show _ = _; simp [IntKind.wrap_i64]; omega
  obtain ⟨bg, hbg⟩ : ∃ b, decide ((8388608 : Int) < (wt : Int) + (s.nm.size : Int) + (s.ud.size : Int) + (s.gd.size : Int) + (s.mu.size : Int)) = b := ⟨_, rfl⟩
  have HBG := Lib.hid hbg
  clear hT hw1 hR hRS hm hV c1 s1 hbg
  go_enter Tryz.func5, Tryz.ntmps5
  go_upto_region 1 with fail
  rw [← HW1.out, ← HRS.out, ← HR.out]
  go_cut [31] from 13 to 30 (fun sc wx => sc = .bool bg ∧ Hid (Kept [] w1 wx))
  case first =>
    have KD : Hid (Kept [] w1 w1.drew) := (Kept.refl [] w1).drew
    have hb := SS.out _ KD.out
    refine wp_region_held (S := fun w' => w'.heap[R]? = some (.cells V 55 (0, 0)) ∧ w'.heap[RS]? = some (.cells #[.int .u16 s.ty, .int .u32 s.dev, .int .u8 s.kd, .int .u32 s.vr, .int .u64 s.pa, .int .u32 s.mo, .int .u32 s.atm, .int .u32 s.mt, .int .u64 s.ln, .string s.nm, .string s.ud, .string s.gd, .string s.mu] 60 (0, 0))) (by kernel_rfl) ?_
    try (change wpAnyH _ _ _ _ _ _ _ _ (World.drew _))
    refine wpAnyH_take (i := 0) (v := .agg V.toList.toArray) rfl (by kernel_rfl) (by kernel_rfl) (by kernel_rfl) (fun _ _ _ h => h) (yieldsIf_load_mid (by rfl) 55 (.tmp 2) rfl R 0 (by simp [go_sem]) V.toList _ (fun w b => whole_of b.1) Tryz.underlying55 rfl (by rw [Array.length_toList, HVS.out]; exact size_c8)) hb ?_
    refine wpAnyH_take (i := 2) (v := .pointer (some ⟨RS, 9, none⟩)) rfl (by kernel_rfl) (by kernel_rfl) (by kernel_rfl) (fun _ _ _ h => h) (Or.inl ⟨by rfl, fun w b => by simp [execOp, go_sem]⟩) hb ?_
    refine wpAnyH_take (i := 3) (v := .string s.nm) rfl (by kernel_rfl) (by kernel_rfl) (by kernel_rfl) (fun _ _ _ h => h) (Or.inl ⟨by rfl, fun w b => by have c := (stat_cells b.2).2.2.2.2.2.2.2.2.2.1; simp [execOp, go_sem, c]⟩) hb ?_
    refine wpAnyH_take (i := 4) (v := .int .i64 (s.nm.size : Int)) rfl (by kernel_rfl) (by kernel_rfl) (by kernel_rfl) (fun _ _ _ h => h) (Or.inl ⟨by rfl, fun w b => by simp [execOp, go_sem]⟩) hb ?_
    refine wpAnyH_take (i := 6) (v := .pointer (some ⟨RS, 10, none⟩)) rfl (by kernel_rfl) (by kernel_rfl) (by kernel_rfl) (fun _ _ _ h => h) (Or.inl ⟨by rfl, fun w b => by simp [execOp, go_sem]⟩) hb ?_
    refine wpAnyH_take (i := 7) (v := .string s.ud) rfl (by kernel_rfl) (by kernel_rfl) (by kernel_rfl) (fun _ _ _ h => h) (Or.inl ⟨by rfl, fun w b => by have c := (stat_cells b.2).2.2.2.2.2.2.2.2.2.2.1; simp [execOp, go_sem, c]⟩) hb ?_
    refine wpAnyH_take (i := 8) (v := .int .i64 (s.ud.size : Int)) rfl (by kernel_rfl) (by kernel_rfl) (by kernel_rfl) (fun _ _ _ h => h) (Or.inl ⟨by rfl, fun w b => by simp [execOp, go_sem]⟩) hb ?_
    refine wpAnyH_take (i := 10) (v := .pointer (some ⟨RS, 11, none⟩)) rfl (by kernel_rfl) (by kernel_rfl) (by kernel_rfl) (fun _ _ _ h => h) (Or.inl ⟨by rfl, fun w b => by simp [execOp, go_sem]⟩) hb ?_
    refine wpAnyH_take (i := 11) (v := .string s.gd) rfl (by kernel_rfl) (by kernel_rfl) (by kernel_rfl) (fun _ _ _ h => h) (Or.inl ⟨by rfl, fun w b => by have c := (stat_cells b.2).2.2.2.2.2.2.2.2.2.2.2.1; simp [execOp, go_sem, c]⟩) hb ?_
    refine wpAnyH_take (i := 12) (v := .int .i64 (s.gd.size : Int)) rfl (by kernel_rfl) (by kernel_rfl) (by kernel_rfl) (fun _ _ _ h => h) (Or.inl ⟨by rfl, fun w b => by simp [execOp, go_sem]⟩) hb ?_
    refine wpAnyH_take (i := 14) (v := .pointer (some ⟨RS, 12, none⟩)) rfl (by kernel_rfl) (by kernel_rfl) (by kernel_rfl) (fun _ _ _ h => h) (Or.inl ⟨by rfl, fun w b => by simp [execOp, go_sem]⟩) hb ?_
    refine wpAnyH_take (i := 15) (v := .string s.mu) rfl (by kernel_rfl) (by kernel_rfl) (by kernel_rfl) (fun _ _ _ h => h) (Or.inl ⟨by rfl, fun w b => by have c := (stat_cells b.2).2.2.2.2.2.2.2.2.2.2.2.2; simp [execOp, go_sem, c]⟩) hb ?_
    refine wpAnyH_take (i := 16) (v := .int .i64 (s.mu.size : Int)) rfl (by kernel_rfl) (by kernel_rfl) (by kernel_rfl) (fun _ _ _ h => h) (Or.inl ⟨by rfl, fun w b => by simp [execOp, go_sem]⟩) hb ?_
    refine wpAnyH_one (i := 1) (by kernel_rfl) ?_
    refine any_callR rfl rfl 20 #[.agg V] (by simp [go_sem]) (MUC.out _) ?_
    rintro e w2 ⟨rfl, k2⟩
    have K2 : Kept [] w1 w2 := KD.out.trans k2 (fun i hi => by cases hi)
    have hb2 := SS.out _ K2
    refine ⟨_, rfl, hb2, ?_⟩
    simp only [go_sem]
    refine wpAnyH_take (i := 5) (v := .int .i64 ((wt : Int) + (s.nm.size : Int))) rfl (by kernel_rfl) (by kernel_rfl) (by kernel_rfl) (fun _ _ _ h => h) (Or.inl ⟨by rfl, fun w b => by simp [execOp, go_sem, AD1.out]⟩) hb2 ?_
    refine wpAnyH_take (i := 9) (v := .int .i64 ((wt : Int) + (s.nm.size : Int) + (s.ud.size : Int))) rfl (by kernel_rfl) (by kernel_rfl) (by kernel_rfl) (fun _ _ _ h => h) (Or.inl ⟨by rfl, fun w b => by simp [execOp, go_sem, AD2.out]⟩) hb2 ?_
    refine wpAnyH_take (i := 13) (v := .int .i64 ((wt : Int) + (s.nm.size : Int) + (s.ud.size : Int) + (s.gd.size : Int))) rfl (by kernel_rfl) (by kernel_rfl) (by kernel_rfl) (fun _ _ _ h => h) (Or.inl ⟨by rfl, fun w b => by simp [execOp, go_sem, AD3.out]⟩) hb2 ?_
    refine wpAnyH_take (i := 17) (v := .int .i64 ((wt : Int) + (s.nm.size : Int) + (s.ud.size : Int) + (s.gd.size : Int) + (s.mu.size : Int))) rfl (by kernel_rfl) (by kernel_rfl) (by kernel_rfl) (fun _ _ _ h => h) (Or.inl ⟨by rfl, fun w b => by simp [execOp, go_sem, AD4.out]⟩) hb2 ?_
    refine wpAnyH_take (i := 18) (v := .bool bg) rfl (by kernel_rfl) (by kernel_rfl) (by kernel_rfl) (fun _ _ _ h => h) (Or.inl ⟨by rfl, fun w b => by simp [execOp, go_sem, ← HBG.out]⟩) hb2 ?_
    refine wpAnyH_done (by kernel_rfl) ?_ _
    simp [go_sem]
    go_wp2_with fail
    go_meet
    exact ⟨rfl, K2⟩
  case rest =>
    obtain ⟨rfl, hK⟩ := hcut
    obtain ⟨w2, hw2⟩ : ∃ x, x = wc := ⟨_, rfl⟩
    subst hw2
    have K2 : Hid (Kept [] w w2) := K1.out.trans hK.out (fun i hi => by cases hi)
    have C2 : Hid (Bc w2 R text u n p tk fl name pm mode) := BC.out _ (SS.out _ hK.out).1
    have S2 : Hid (w2.heap[RS]? = some (.cells #[.int .u16 s.ty, .int .u32 s.dev, .int .u8 s.kd, .int .u32 s.vr, .int .u64 s.pa, .int .u32 s.mo, .int .u32 s.atm, .int .u32 s.mt, .int .u64 s.ln, .string s.nm, .string s.ud, .string s.gd, .string s.mu] 60 (0, 0))) := (SS.out _ hK.out).2
    have SZ2 : Hid (R < w2.heap.size) := block_lt (SS.out _ hK.out).1
    cases bg with
    | true =>
      clear GD TL HBG AD1 AD2 AD3 AD4
      go_wp2_with fail
      go_ret
      exact ⟨rfl, K2.out⟩
    | false =>
      have hsm : ¬ ((8388608 : Int) < (wt : Int) + (s.nm.size : Int) + (s.ud.size : Int) + (s.gd.size : Int) + (s.mu.size : Int)) := of_decide_eq_false HBG.out
      have small : ∀ s : ByteArray, s.size ≤ wt → s.size ≤ maxLen := fun s h => by unfold maxLen; omega
      have su : u.size ≤ maxLen := small u (by rw [hwt]; unfold weightC; omega)
      have sg : n.gid.size ≤ maxLen := small n.gid (by rw [hwt]; unfold weightC; omega)
      have sp : p.gid.size ≤ maxLen := small p.gid (by rw [hwt]; unfold weightC; omega)
      have ss : s.gd.size ≤ maxLen := by unfold maxLen; omega
      clear hwt hwb small hsm h0 h1 n1 n2 n3 n4 p1 p2 p3 p4 AD1 AD2 AD3 AD4 HBG MUC SS BC K1 hK
      have TL2 : T.length ≤ 1048576 := by omega
      have WSA0 := fun w' B q (h : Tb w' B q T) => Wstat_any h TL2 u n p tk fl s su sg sp z9 ss hnm
      have RSA0 := fun w' q (h : Rt w' q T) => rWstat_any h GD u n p tk fl s z9 hnm hpm z0 z1 z2 z3 z4 z5 z6 z7 z8 b3 b4 b6 b7 b8
      have FIT := fun h => wst_fit (T := T) (u := u) (n := n) (p := p) (tk := tk) (s := s) h maxLen sg ss hnm b3 b4 b6 b7 b8 z5 z7 z8
      obtain ⟨e1, he1⟩ : ∃ z, z = wstE T u n p tk s := ⟨_, rfl⟩
      obtain ⟨x, hx⟩ : ∃ z, z = wstN T u n p tk s := ⟨_, rfl⟩
      rw [← he1, ← hx] at WSA0 RSA0 FIT
      have WSB0 := fun (h0 : e1 = 0) w' B q (h : Tb w' B q T) => Wstat_any h TL2 u x p tk fl s su (FIT h0).1 sp z9 ss (FIT h0).2.1
      have RSB0 := fun (h0 : e1 = 0) w' q (h : Rt w' q T) => rWstat_any h GD u x p tk fl s z9 (FIT h0).2.1 hpm z0 z1 z2 z3 z4 z5 z6 z7 z8 (FIT h0).2.2.1 (FIT h0).2.2.2.1 (FIT h0).2.2.2.2.1 (FIT h0).2.2.2.2.2.1 (FIT h0).2.2.2.2.2.2
      obtain ⟨e2, he2⟩ : ∃ z, z = wstE T u x p tk s := ⟨_, rfl⟩
      obtain ⟨y, hy⟩ : ∃ z, z = wstN T u x p tk s := ⟨_, rfl⟩
      rw [← he2, ← hy] at WSB0 RSB0
      clear he1 hx he2 hy FIT GD TL TL2 su sg sp ss z0 z1 z2 z3 z4 z5 z6 z7 z8 z9 z10 z11 z12 hnm hpm b3 b4 b6 b7 b8 h2
      obtain ⟨F28, hF28⟩ : ∃ F : List Value, F = [.int .u64 n.path, .int .u64 n.parent, .string n.name, .int .u32 n.mode, .string n.uid, .string n.gid, .string n.muid, .int .u32 n.atime, .int .u32 n.mtime, .int .u32 n.vers, .int .u64 n.length, .int .i64 n.opens, .int .i64 n.kids, .int .u64 p.path, .int .u64 p.parent, .string p.name, .int .u32 p.mode, .string p.uid, .string p.gid, .string p.muid, .int .u32 p.atime, .int .u32 p.mtime, .int .u32 p.vers, .int .u64 p.length, .int .i64 p.opens, .int .i64 p.kids, .bool tk, .bool fl] := ⟨_, rfl⟩
      obtain ⟨G28, hG28⟩ : ∃ F : List Value, F = [.int .u64 x.path, .int .u64 x.parent, .string x.name, .int .u32 x.mode, .string x.uid, .string x.gid, .string x.muid, .int .u32 x.atime, .int .u32 x.mtime, .int .u32 x.vers, .int .u64 x.length, .int .i64 x.opens, .int .i64 x.kids, .int .u64 p.path, .int .u64 p.parent, .string p.name, .int .u32 p.mode, .string p.uid, .string p.gid, .string p.muid, .int .u32 p.atime, .int .u32 p.mtime, .int .u32 p.vers, .int .u64 p.length, .int .i64 p.opens, .int .i64 p.kids, .bool tk, .bool fl] := ⟨_, rfl⟩
      have HL : Hid (F28.length = 28) := by rw [hF28]; rfl
      have HLG : Hid (G28.length = 28) := by rw [hG28]; rfl
      have FR : Hid (∀ wr, Bc wr R text u n p tk fl name pm mode → wr.rangeAt R 2 F28) := fun wr b => by rw [hF28]; exact b.facts
      have GR : Hid (∀ wr, Bc wr R text u x p tk fl name pm mode → wr.rangeAt R 2 G28) := fun wr b => by rw [hG28]; exact b.facts
      have hFA : (#[.int .u64 n.path, .int .u64 n.parent, .string n.name, .int .u32 n.mode, .string n.uid, .string n.gid, .string n.muid, .int .u32 n.atime, .int .u32 n.mtime, .int .u32 n.vers, .int .u64 n.length, .int .i64 n.opens, .int .i64 n.kids, .int .u64 p.path, .int .u64 p.parent, .string p.name, .int .u32 p.mode, .string p.uid, .string p.gid, .string p.muid, .int .u32 p.atime, .int .u32 p.mtime, .int .u32 p.vers, .int .u64 p.length, .int .i64 p.opens, .int .i64 p.kids, .bool tk, .bool fl] : Array Value) = F28.toArray := by rw [hF28]
      have hGA : (#[.int .u64 x.path, .int .u64 x.parent, .string x.name, .int .u32 x.mode, .string x.uid, .string x.gid, .string x.muid, .int .u32 x.atime, .int .u32 x.mtime, .int .u32 x.vers, .int .u64 x.length, .int .i64 x.opens, .int .i64 x.kids, .int .u64 p.path, .int .u64 p.parent, .string p.name, .int .u32 p.mode, .string p.uid, .string p.gid, .string p.muid, .int .u32 p.atime, .int .u32 p.mtime, .int .u32 p.vers, .int .u64 p.length, .int .i64 p.opens, .int .i64 p.kids, .bool tk, .bool fl] : Array Value) = G28.toArray := by rw [hG28]
      have WSA : Hid (∀ w', ∀ {B q : Nat}, Tb w' B q T → Calls Tryz.prog 23 #[.pointer (some ⟨q, 0, none⟩), .string u, .agg F28.toArray, .agg #[.int .u16 s.ty, .int .u32 s.dev, .int .u8 s.kd, .int .u32 s.vr, .int .u64 s.pa, .int .u32 s.mo, .int .u32 s.atm, .int .u32 s.mt, .int .u64 s.ln, .string s.nm, .string s.ud, .string s.gd, .string s.mu]] w' fun e w'' => e = .returned (.tuple #[.agg #[.int .u64 x.path, .int .u64 x.parent, .string x.name, .int .u32 x.mode, .string x.uid, .string x.gid, .string x.muid, .int .u32 x.atime, .int .u32 x.mtime, .int .u32 x.vers, .int .u64 x.length, .int .i64 x.opens, .int .i64 x.kids], .int .i64 e1]) ∧ Kept [] w' w'') := fun w' B q h => by rw [← hFA]; exact WSA0 w' B q h
      have RSA : Hid (∀ w', ∀ {q : Nat}, Rt w' q T → Calls Tryz.prog 24 #[.pointer (some ⟨q, 0, none⟩), .string u, .agg F28.toArray, .agg #[.int .u16 s.ty, .int .u32 s.dev, .int .u8 s.kd, .int .u32 s.vr, .int .u64 s.pa, .int .u32 s.mo, .int .u32 s.atm, .int .u32 s.mt, .int .u64 s.ln, .string s.nm, .string s.ud, .string s.gd, .string s.mu]] w' fun e w'' => e = .returned (.tuple #[.agg #[.int .u64 x.path, .int .u64 x.parent, .string x.name, .int .u32 x.mode, .string x.uid, .string x.gid, .string x.muid, .int .u32 x.atime, .int .u32 x.mtime, .int .u32 x.vers, .int .u64 x.length, .int .i64 x.opens, .int .i64 x.kids], .int .i64 e1]) ∧ Kept [] w' w'') := fun w' q h => by rw [← hFA]; exact RSA0 w' q h
      have WSB : Hid (e1 = 0 → ∀ w', ∀ {B q : Nat}, Tb w' B q T → Calls Tryz.prog 23 #[.pointer (some ⟨q, 0, none⟩), .string u, .agg G28.toArray, .agg #[.int .u16 s.ty, .int .u32 s.dev, .int .u8 s.kd, .int .u32 s.vr, .int .u64 s.pa, .int .u32 s.mo, .int .u32 s.atm, .int .u32 s.mt, .int .u64 s.ln, .string s.nm, .string s.ud, .string s.gd, .string s.mu]] w' fun e w'' => e = .returned (.tuple #[.agg #[.int .u64 y.path, .int .u64 y.parent, .string y.name, .int .u32 y.mode, .string y.uid, .string y.gid, .string y.muid, .int .u32 y.atime, .int .u32 y.mtime, .int .u32 y.vers, .int .u64 y.length, .int .i64 y.opens, .int .i64 y.kids], .int .i64 e2]) ∧ Kept [] w' w'') := fun h0 w' B q h => by rw [← hGA]; exact WSB0 h0 w' B q h
      have RSB : Hid (e1 = 0 → ∀ w', ∀ {q : Nat}, Rt w' q T → Calls Tryz.prog 24 #[.pointer (some ⟨q, 0, none⟩), .string u, .agg G28.toArray, .agg #[.int .u16 s.ty, .int .u32 s.dev, .int .u8 s.kd, .int .u32 s.vr, .int .u64 s.pa, .int .u32 s.mo, .int .u32 s.atm, .int .u32 s.mt, .int .u64 s.ln, .string s.nm, .string s.ud, .string s.gd, .string s.mu]] w' fun e w'' => e = .returned (.tuple #[.agg #[.int .u64 y.path, .int .u64 y.parent, .string y.name, .int .u32 y.mode, .string y.uid, .string y.gid, .string y.muid, .int .u32 y.atime, .int .u32 y.mtime, .int .u32 y.vers, .int .u64 y.length, .int .i64 y.opens, .int .i64 y.kids], .int .i64 e2]) ∧ Kept [] w' w'') := fun h0 w' q h => by rw [← hGA]; exact RSB0 h0 w' q h
      clear WSA0 RSA0 WSB0 RSB0 hF28 hG28 hFA hGA
      obtain ⟨x0, x1, x30, x31, x32⟩ := C2.out.five
      go_upto_region 7 with (first | (go_at_call 21; refine (KNO.out _ K2.out).mono ?_; rintro e w3 ⟨rfl, k3⟩; clear x0 x1 x30 x31 x32; have K3 : Hid (Kept [] w w3) := K2.out.trans k3 (fun i hi => by cases hi); have M3 := Lib.hid k3; have C3 := Lib.hid (C2.out.kept k3 (by simp)); obtain ⟨x0, x1, x30, x31, x32⟩ := C3.out.five; clear k3) | (go_at_call 22; refine (TAB.out _ K3.out).mono ?_; rintro e w6 ⟨B, pp, qq, rfl, t6, r6, k6⟩; clear x0 x1 x30 x31 x32; have M6 : Hid (Kept [] w2 w6) := M3.out.trans k6 (fun i hi => by cases hi); have K6 : Hid (Kept [] w w6) := K3.out.trans k6 (fun i hi => by cases hi); have C6 := Lib.hid (C3.out.kept k6 (by simp)); obtain ⟨x0, x1, x30, x31, x32⟩ := C6.out.five; have T6 := Lib.hid t6; have R6 := Lib.hid r6; have S6 : Hid (w6.heap[RS]? = some (.cells #[.int .u16 s.ty, .int .u32 s.dev, .int .u8 s.kd, .int .u32 s.vr, .int .u64 s.pa, .int .u32 s.mo, .int .u32 s.atm, .int .u32 s.mt, .int .u64 s.ln, .string s.nm, .string s.ud, .string s.gd, .string s.mu] 60 (0, 0))) := (M6.out.block _ (block_lt S2.out) (by simp)).trans S2.out; have Z6 : Hid (R < w6.heap.size ∧ RS < w6.heap.size) := ⟨Nat.lt_of_lt_of_le SZ2.out M6.out.size, block_lt S6.out⟩; clear k6 t6 r6))
      clear KNO TAB K2 K3 M3 M6 C2 C3 S2 SZ2
      go_upto_region 8 with (first | (refine wpList_fmid (by rfl) (.tmp 50) rfl R 2 rfl F28 (FR.out _ C6.out) HL.out ?_) | (refine wpList_lstat rfl (.tmp 3) rfl RS _ rfl S6.out rfl ?_) | (go_at_call 23; refine (WSA.out _ T6.out).mono ?_; rintro e w7 ⟨rfl, k7⟩; have K7 : Hid (Kept [] w w7) := K6.out.trans k7 (fun i hi => by cases hi); have C7 := Lib.hid (C6.out.kept k7 (by simp)); have T7 := Lib.hid (T6.out.kept k7); have R7 := Lib.hid (R6.out.kept k7); have S7 : Hid (w7.heap[RS]? = some (.cells #[.int .u16 s.ty, .int .u32 s.dev, .int .u8 s.kd, .int .u32 s.vr, .int .u64 s.pa, .int .u32 s.mo, .int .u32 s.atm, .int .u32 s.mt, .int .u64 s.ln, .string s.nm, .string s.ud, .string s.gd, .string s.mu] 60 (0, 0))) := (k7.block _ (block_lt S6.out) (by simp)).trans S6.out; clear x0 x1 x30 x31 x32; obtain ⟨x0, x1, x30, x31, x32⟩ := C7.out.five; have L7 : Hid (w6.heap.size ≤ w7.heap.size) := k7.size; clear k7) | (refine wpList_srow8 rfl (.tmp 9) (.tmp 54) rfl w7.heap.size rfl _ #[.int .u64 x.path, .int .u64 x.parent, .string x.name, .int .u32 x.mode, .string x.uid, .string x.gid, .string x.muid, .int .u32 x.atime, .int .u32 x.mtime, .int .u32 x.vers, .int .u64 x.length, .int .i64 x.opens, .int .i64 x.kids] rfl (MapKept.heap_alloc w7 _).1 rfl rfl (by simp [Value.oneCell']) ?_; intro w8 b8' k8; have k78 : Kept [] w7 w8 := ((Kept.refl [] w7).alloc _).trans k8 (fun i hi => Or.inr (by have h1 := List.mem_singleton.1 hi; omega)); have K8 : Hid (Kept [] w w8) := K7.out.trans k78 (fun i hi => by cases hi); have C8 := Lib.hid (C7.out.kept k78 (by simp)); have T8 := Lib.hid (T7.out.kept k78); have R8 := Lib.hid (R7.out.kept k78); have S8 : Hid (w8.heap[RS]? = some (.cells #[.int .u16 s.ty, .int .u32 s.dev, .int .u8 s.kd, .int .u32 s.vr, .int .u64 s.pa, .int .u32 s.mo, .int .u32 s.atm, .int .u32 s.mt, .int .u64 s.ln, .string s.nm, .string s.ud, .string s.gd, .string s.mu] 60 (0, 0))) := (k78.block _ (block_lt S7.out) (by simp)).trans S7.out; clear x0 x1 x30 x31 x32; obtain ⟨x0, x1, x30, x31, x32⟩ := C8.out.five; have B8 := Lib.hid b8'; clear k78 k8 b8'))
      go_upto_region 9 with (first | (refine wpList_fmid (by rfl) (.tmp 60) rfl R 2 rfl F28 (FR.out _ C8.out) HL.out ?_) | (refine wpList_lstat rfl (.tmp 3) rfl RS _ rfl S8.out rfl ?_) | (go_at_call 24; refine (RSA.out _ R8.out).mono ?_; rintro e w9 ⟨rfl, k9⟩; have K9 : Hid (Kept [] w w9) := K8.out.trans k9 (fun i hi => by cases hi); have C9 := Lib.hid (C8.out.kept k9 (by simp)); have T9 := Lib.hid (T8.out.kept k9); have R9 := Lib.hid (R8.out.kept k9); have S9 : Hid (w9.heap[RS]? = some (.cells #[.int .u16 s.ty, .int .u32 s.dev, .int .u8 s.kd, .int .u32 s.vr, .int .u64 s.pa, .int .u32 s.mo, .int .u32 s.atm, .int .u32 s.mt, .int .u64 s.ln, .string s.nm, .string s.ud, .string s.gd, .string s.mu] 60 (0, 0))) := (k9.block _ (block_lt S8.out) (by simp)).trans S8.out; clear x0 x1 x30 x31 x32; obtain ⟨x0, x1, x30, x31, x32⟩ := C9.out.five; have B9 : Hid (w9.heap[w7.heap.size]? = some (.cells #[.int .u64 x.path, .int .u64 x.parent, .string x.name, .int .u32 x.mode, .string x.uid, .string x.gid, .string x.muid, .int .u32 x.atime, .int .u32 x.mtime, .int .u32 x.vers, .int .u64 x.length, .int .i64 x.opens, .int .i64 x.kids] 51 (0, 0))) := (k9.block _ (block_lt B8.out) (by simp)).trans B8.out; have L9 : Hid (w7.heap.size < w9.heap.size) := block_lt B9.out; clear k9) | (refine wpList_srow8 rfl (.tmp 11) (.tmp 64) rfl w9.heap.size rfl _ #[.int .u64 x.path, .int .u64 x.parent, .string x.name, .int .u32 x.mode, .string x.uid, .string x.gid, .string x.muid, .int .u32 x.atime, .int .u32 x.mtime, .int .u32 x.vers, .int .u64 x.length, .int .i64 x.opens, .int .i64 x.kids] rfl (MapKept.heap_alloc w9 _).1 rfl rfl (by simp [Value.oneCell']) ?_; intro w10 b10 k10; have k90 : Kept [] w9 w10 := ((Kept.refl [] w9).alloc _).trans k10 (fun i hi => Or.inr (by have h1 := List.mem_singleton.1 hi; omega)); have K10 : Hid (Kept [] w w10) := K9.out.trans k90 (fun i hi => by cases hi); have C10 := Lib.hid (C9.out.kept k90 (by simp)); have T10 := Lib.hid (T9.out.kept k90); have R10 := Lib.hid (R9.out.kept k90); have S10 : Hid (w10.heap[RS]? = some (.cells #[.int .u16 s.ty, .int .u32 s.dev, .int .u8 s.kd, .int .u32 s.vr, .int .u64 s.pa, .int .u32 s.mo, .int .u32 s.atm, .int .u32 s.mt, .int .u64 s.ln, .string s.nm, .string s.ud, .string s.gd, .string s.mu] 60 (0, 0))) := (k90.block _ (block_lt S9.out) (by simp)).trans S9.out; clear x0 x1 x30 x31 x32; obtain ⟨x0, x1, x30, x31, x32⟩ := C10.out.five; have B10 := Lib.hid b10; have B810 : Hid (w10.heap[w7.heap.size]? = some (.cells #[.int .u64 x.path, .int .u64 x.parent, .string x.name, .int .u32 x.mode, .string x.uid, .string x.gid, .string x.muid, .int .u32 x.atime, .int .u32 x.mtime, .int .u32 x.vers, .int .u64 x.length, .int .i64 x.opens, .int .i64 x.kids] 51 (0, 0))) := (k90.block _ (block_lt B9.out) (by simp)).trans B9.out; clear k90 k10 b10))
      have PA : Hid (w7.heap.size ≠ R ∧ w7.heap.size ≠ RS ∧ w9.heap.size ≠ R ∧ w9.heap.size ≠ RS ∧ w7.heap.size < w9.heap.size) := by have a := Z6.out; have b := L7.out; have c := L9.out; show _ ∧ _; omega
      by_cases he : e1 = 0
      · have WS2 := Lib.hid (WSB.out he)
        have RS2 := Lib.hid (RSB.out he)
        subst he
        clear WSA RSA WSB RSB
        clear x0 x1 x30 x31 x32
        go_upto_region 13 with (first | (refine wpList_nmid (by rfl) (.tmp 9) rfl w7.heap.size 0 rfl _ (whole13 B810.out) rfl ?_) | (refine wpList_nmid (by rfl) (.tmp 11) rfl w9.heap.size 0 rfl _ (whole13 B10.out) rfl ?_) | (refine wpList_scase rfl (.tmp 78) (.tmp 76) rfl R rfl x rfl C10.out ?_; intro w11 c11 k11; have C11 := Lib.hid c11; have T11 := Lib.hid (Tb.keptC T10.out k11 C10.out); have R11 := Lib.hid (Rt.keptC R10.out k11 C10.out); have S11 : Hid (w11.heap[RS]? = some (.cells #[.int .u16 s.ty, .int .u32 s.dev, .int .u8 s.kd, .int .u32 s.vr, .int .u64 s.pa, .int .u32 s.mo, .int .u32 s.atm, .int .u32 s.mt, .int .u64 s.ln, .string s.nm, .string s.ud, .string s.gd, .string s.mu] 60 (0, 0))) := (k11.block _ (block_lt S10.out) (by have := NRW.out; simp; omega)).trans S10.out; have A11 : Hid (w11.heap[w7.heap.size]? = some (.cells #[.int .u64 x.path, .int .u64 x.parent, .string x.name, .int .u32 x.mode, .string x.uid, .string x.gid, .string x.muid, .int .u32 x.atime, .int .u32 x.mtime, .int .u32 x.vers, .int .u64 x.length, .int .i64 x.opens, .int .i64 x.kids] 51 (0, 0))) := (k11.block _ (block_lt B810.out) (by have := PA.out; simp; omega)).trans B810.out; have D11 : Hid (w11.heap[w9.heap.size]? = some (.cells #[.int .u64 x.path, .int .u64 x.parent, .string x.name, .int .u32 x.mode, .string x.uid, .string x.gid, .string x.muid, .int .u32 x.atime, .int .u32 x.mtime, .int .u32 x.vers, .int .u64 x.length, .int .i64 x.opens, .int .i64 x.kids] 51 (0, 0))) := (k11.block _ (block_lt B10.out) (by have := PA.out; simp; omega)).trans B10.out; have K11 : Hid (Kept [] w w11) := K10.out.trans k11 (fun i hi => Or.inr (by rw [List.mem_singleton] at hi; subst hi; exact NRW.out.1)); clear c11 k11))
        obtain ⟨x0, x1, x30, x31, x32⟩ := C11.out.five
        go_upto_region 14 with (first | (refine wpList_fmid (by rfl) (.tmp 83) rfl R 2 rfl G28 (GR.out _ C11.out) HLG.out ?_) | (refine wpList_lstat rfl (.tmp 3) rfl RS _ rfl S11.out rfl ?_) | (go_at_call 23; refine (WS2.out _ T11.out).mono ?_; rintro e w12 ⟨rfl, k12⟩; have K12 : Hid (Kept [] w w12) := K11.out.trans k12 (fun i hi => by cases hi); have C12 := Lib.hid (C11.out.kept k12 (by simp)); have T12 := Lib.hid (T11.out.kept k12); have R12 := Lib.hid (R11.out.kept k12); have S12 : Hid (w12.heap[RS]? = some (.cells #[.int .u16 s.ty, .int .u32 s.dev, .int .u8 s.kd, .int .u32 s.vr, .int .u64 s.pa, .int .u32 s.mo, .int .u32 s.atm, .int .u32 s.mt, .int .u64 s.ln, .string s.nm, .string s.ud, .string s.gd, .string s.mu] 60 (0, 0))) := (k12.block _ (block_lt S11.out) (by simp)).trans S11.out; have A12 : Hid (w12.heap[w7.heap.size]? = some (.cells #[.int .u64 x.path, .int .u64 x.parent, .string x.name, .int .u32 x.mode, .string x.uid, .string x.gid, .string x.muid, .int .u32 x.atime, .int .u32 x.mtime, .int .u32 x.vers, .int .u64 x.length, .int .i64 x.opens, .int .i64 x.kids] 51 (0, 0))) := (k12.block _ (block_lt A11.out) (by simp)).trans A11.out; have D12 : Hid (w12.heap[w9.heap.size]? = some (.cells #[.int .u64 x.path, .int .u64 x.parent, .string x.name, .int .u32 x.mode, .string x.uid, .string x.gid, .string x.muid, .int .u32 x.atime, .int .u32 x.mtime, .int .u32 x.vers, .int .u64 x.length, .int .i64 x.opens, .int .i64 x.kids] 51 (0, 0))) := (k12.block _ (block_lt D11.out) (by simp)).trans D11.out; clear k12 WS2 x0 x1 x30 x31 x32) | (refine wpList_srow8 rfl (.tmp 9) (.tmp 87) rfl w7.heap.size rfl _ #[.int .u64 y.path, .int .u64 y.parent, .string y.name, .int .u32 y.mode, .string y.uid, .string y.gid, .string y.muid, .int .u32 y.atime, .int .u32 y.mtime, .int .u32 y.vers, .int .u64 y.length, .int .i64 y.opens, .int .i64 y.kids] rfl A12.out rfl rfl (by simp [Value.oneCell']) ?_; intro w13 a13 k13; have A13 := Lib.hid a13; have T13 := Lib.hid (Tb.keptN T12.out k13 A12.out); have R13 := Lib.hid (Rt.keptN R12.out k13 A12.out); have C13 := Lib.hid (C12.out.kept k13 (by have := PA.out; simp; omega)); have S13 : Hid (w13.heap[RS]? = some (.cells #[.int .u16 s.ty, .int .u32 s.dev, .int .u8 s.kd, .int .u32 s.vr, .int .u64 s.pa, .int .u32 s.mo, .int .u32 s.atm, .int .u32 s.mt, .int .u64 s.ln, .string s.nm, .string s.ud, .string s.gd, .string s.mu] 60 (0, 0))) := (k13.block _ (block_lt S12.out) (by have := PA.out; simp; omega)).trans S12.out; have D13 : Hid (w13.heap[w9.heap.size]? = some (.cells #[.int .u64 x.path, .int .u64 x.parent, .string x.name, .int .u32 x.mode, .string x.uid, .string x.gid, .string x.muid, .int .u32 x.atime, .int .u32 x.mtime, .int .u32 x.vers, .int .u64 x.length, .int .i64 x.opens, .int .i64 x.kids] 51 (0, 0))) := (k13.block _ (block_lt D12.out) (by have := PA.out; simp; omega)).trans D12.out; have K13 : Hid (Kept [] w w13) := K12.out.trans k13 (fun i hi => Or.inr (by rw [List.mem_singleton] at hi; subst hi; exact K7.out.size)); clear a13 k13))
        obtain ⟨x0, x1, x30, x31, x32⟩ := C13.out.five
        go_upto_region 15 with (first | (refine wpList_fmid (by rfl) (.tmp 93) rfl R 2 rfl G28 (GR.out _ C13.out) HLG.out ?_) | (refine wpList_lstat rfl (.tmp 3) rfl RS _ rfl S13.out rfl ?_) | (go_at_call 24; refine (RS2.out _ R13.out).mono ?_; rintro e w14 ⟨rfl, k14⟩; have K14 : Hid (Kept [] w w14) := K13.out.trans k14 (fun i hi => by cases hi); have C14 := Lib.hid (C13.out.kept k14 (by simp)); have T14 := Lib.hid (T13.out.kept k14); have R14 := Lib.hid (R13.out.kept k14); have S14 : Hid (w14.heap[RS]? = some (.cells #[.int .u16 s.ty, .int .u32 s.dev, .int .u8 s.kd, .int .u32 s.vr, .int .u64 s.pa, .int .u32 s.mo, .int .u32 s.atm, .int .u32 s.mt, .int .u64 s.ln, .string s.nm, .string s.ud, .string s.gd, .string s.mu] 60 (0, 0))) := (k14.block _ (block_lt S13.out) (by simp)).trans S13.out; have A14 : Hid (w14.heap[w7.heap.size]? = some (.cells #[.int .u64 y.path, .int .u64 y.parent, .string y.name, .int .u32 y.mode, .string y.uid, .string y.gid, .string y.muid, .int .u32 y.atime, .int .u32 y.mtime, .int .u32 y.vers, .int .u64 y.length, .int .i64 y.opens, .int .i64 y.kids] 51 (0, 0))) := (k14.block _ (block_lt A13.out) (by simp)).trans A13.out; have D14 : Hid (w14.heap[w9.heap.size]? = some (.cells #[.int .u64 x.path, .int .u64 x.parent, .string x.name, .int .u32 x.mode, .string x.uid, .string x.gid, .string x.muid, .int .u32 x.atime, .int .u32 x.mtime, .int .u32 x.vers, .int .u64 x.length, .int .i64 x.opens, .int .i64 x.kids] 51 (0, 0))) := (k14.block _ (block_lt D13.out) (by simp)).trans D13.out; clear k14 RS2 x0 x1 x30 x31 x32) | (refine wpList_srow8 rfl (.tmp 11) (.tmp 97) rfl w9.heap.size rfl _ #[.int .u64 y.path, .int .u64 y.parent, .string y.name, .int .u32 y.mode, .string y.uid, .string y.gid, .string y.muid, .int .u32 y.atime, .int .u32 y.mtime, .int .u32 y.vers, .int .u64 y.length, .int .i64 y.opens, .int .i64 y.kids] rfl D14.out rfl rfl (by simp [Value.oneCell']) ?_; intro w15 a15 k15; have D15 := Lib.hid a15; have A15 : Hid (w15.heap[w7.heap.size]? = some (.cells #[.int .u64 y.path, .int .u64 y.parent, .string y.name, .int .u32 y.mode, .string y.uid, .string y.gid, .string y.muid, .int .u32 y.atime, .int .u32 y.mtime, .int .u32 y.vers, .int .u64 y.length, .int .i64 y.opens, .int .i64 y.kids] 51 (0, 0))) := (k15.block _ (block_lt A14.out) (by have := PA.out; simp; omega)).trans A14.out; have K15 : Hid (Kept [] w w15) := K14.out.trans k15 (fun i hi => Or.inr (by rw [List.mem_singleton] at hi; subst hi; exact K9.out.size)); clear a15 k15))
        go_wp2_with (first | (refine wpList_nmid (by rfl) (.tmp 9) rfl w7.heap.size 0 rfl _ (whole13 A15.out) rfl ?_) | (refine wpList_nmid (by rfl) (.tmp 11) rfl w9.heap.size 0 rfl _ (whole13 D15.out) rfl ?_))
        go_ret
        exact ⟨by simp, K15.out⟩
      · have heb : (e1 == 0) = false := by simpa using he
        have WS2 := Lib.hid (fun w' B q (h : Tb w' B q T) => WSA.out w' h)
        have RS2 := Lib.hid (fun w' q (h : Rt w' q T) => RSA.out w' h)
        clear WSA RSA WSB RSB he
        clear x0 x1 x30 x31 x32
        go_upto_region 13 with (first | (refine wpList_nmid (by rfl) (.tmp 9) rfl w7.heap.size 0 rfl _ (whole13 B810.out) rfl ?_) | (refine wpList_nmid (by rfl) (.tmp 11) rfl w9.heap.size 0 rfl _ (whole13 B10.out) rfl ?_))
        obtain ⟨x0, x1, x30, x31, x32⟩ := C10.out.five
        go_upto_region 14 with (first | (refine wpList_fmid (by rfl) (.tmp 83) rfl R 2 rfl F28 (FR.out _ C10.out) HL.out ?_) | (refine wpList_lstat rfl (.tmp 3) rfl RS _ rfl S10.out rfl ?_) | (go_at_call 23; refine (WS2.out _ _ _ T10.out).mono ?_; rintro e w12 ⟨rfl, k12⟩; have K12 : Hid (Kept [] w w12) := K10.out.trans k12 (fun i hi => by cases hi); have C12 := Lib.hid (C10.out.kept k12 (by simp)); have T12 := Lib.hid (T10.out.kept k12); have R12 := Lib.hid (R10.out.kept k12); have S12 : Hid (w12.heap[RS]? = some (.cells #[.int .u16 s.ty, .int .u32 s.dev, .int .u8 s.kd, .int .u32 s.vr, .int .u64 s.pa, .int .u32 s.mo, .int .u32 s.atm, .int .u32 s.mt, .int .u64 s.ln, .string s.nm, .string s.ud, .string s.gd, .string s.mu] 60 (0, 0))) := (k12.block _ (block_lt S10.out) (by simp)).trans S10.out; have A12 : Hid (w12.heap[w7.heap.size]? = some (.cells #[.int .u64 x.path, .int .u64 x.parent, .string x.name, .int .u32 x.mode, .string x.uid, .string x.gid, .string x.muid, .int .u32 x.atime, .int .u32 x.mtime, .int .u32 x.vers, .int .u64 x.length, .int .i64 x.opens, .int .i64 x.kids] 51 (0, 0))) := (k12.block _ (block_lt B810.out) (by simp)).trans B810.out; have D12 : Hid (w12.heap[w9.heap.size]? = some (.cells #[.int .u64 x.path, .int .u64 x.parent, .string x.name, .int .u32 x.mode, .string x.uid, .string x.gid, .string x.muid, .int .u32 x.atime, .int .u32 x.mtime, .int .u32 x.vers, .int .u64 x.length, .int .i64 x.opens, .int .i64 x.kids] 51 (0, 0))) := (k12.block _ (block_lt B10.out) (by simp)).trans B10.out; clear k12 WS2 x0 x1 x30 x31 x32) | (refine wpList_srow8 rfl (.tmp 9) (.tmp 87) rfl w7.heap.size rfl _ #[.int .u64 x.path, .int .u64 x.parent, .string x.name, .int .u32 x.mode, .string x.uid, .string x.gid, .string x.muid, .int .u32 x.atime, .int .u32 x.mtime, .int .u32 x.vers, .int .u64 x.length, .int .i64 x.opens, .int .i64 x.kids] rfl A12.out rfl rfl (by simp [Value.oneCell']) ?_; intro w13 a13 k13; have A13 := Lib.hid a13; have T13 := Lib.hid (Tb.keptN T12.out k13 A12.out); have R13 := Lib.hid (Rt.keptN R12.out k13 A12.out); have C13 := Lib.hid (C12.out.kept k13 (by have := PA.out; simp; omega)); have S13 : Hid (w13.heap[RS]? = some (.cells #[.int .u16 s.ty, .int .u32 s.dev, .int .u8 s.kd, .int .u32 s.vr, .int .u64 s.pa, .int .u32 s.mo, .int .u32 s.atm, .int .u32 s.mt, .int .u64 s.ln, .string s.nm, .string s.ud, .string s.gd, .string s.mu] 60 (0, 0))) := (k13.block _ (block_lt S12.out) (by have := PA.out; simp; omega)).trans S12.out; have D13 : Hid (w13.heap[w9.heap.size]? = some (.cells #[.int .u64 x.path, .int .u64 x.parent, .string x.name, .int .u32 x.mode, .string x.uid, .string x.gid, .string x.muid, .int .u32 x.atime, .int .u32 x.mtime, .int .u32 x.vers, .int .u64 x.length, .int .i64 x.opens, .int .i64 x.kids] 51 (0, 0))) := (k13.block _ (block_lt D12.out) (by have := PA.out; simp; omega)).trans D12.out; have K13 : Hid (Kept [] w w13) := K12.out.trans k13 (fun i hi => Or.inr (by rw [List.mem_singleton] at hi; subst hi; exact K7.out.size)); clear a13 k13))
        obtain ⟨x0, x1, x30, x31, x32⟩ := C13.out.five
        go_upto_region 15 with (first | (refine wpList_fmid (by rfl) (.tmp 93) rfl R 2 rfl F28 (FR.out _ C13.out) HL.out ?_) | (refine wpList_lstat rfl (.tmp 3) rfl RS _ rfl S13.out rfl ?_) | (go_at_call 24; refine (RS2.out _ _ R13.out).mono ?_; rintro e w14 ⟨rfl, k14⟩; have K14 : Hid (Kept [] w w14) := K13.out.trans k14 (fun i hi => by cases hi); have C14 := Lib.hid (C13.out.kept k14 (by simp)); have T14 := Lib.hid (T13.out.kept k14); have R14 := Lib.hid (R13.out.kept k14); have S14 : Hid (w14.heap[RS]? = some (.cells #[.int .u16 s.ty, .int .u32 s.dev, .int .u8 s.kd, .int .u32 s.vr, .int .u64 s.pa, .int .u32 s.mo, .int .u32 s.atm, .int .u32 s.mt, .int .u64 s.ln, .string s.nm, .string s.ud, .string s.gd, .string s.mu] 60 (0, 0))) := (k14.block _ (block_lt S13.out) (by simp)).trans S13.out; have A14 : Hid (w14.heap[w7.heap.size]? = some (.cells #[.int .u64 x.path, .int .u64 x.parent, .string x.name, .int .u32 x.mode, .string x.uid, .string x.gid, .string x.muid, .int .u32 x.atime, .int .u32 x.mtime, .int .u32 x.vers, .int .u64 x.length, .int .i64 x.opens, .int .i64 x.kids] 51 (0, 0))) := (k14.block _ (block_lt A13.out) (by simp)).trans A13.out; have D14 : Hid (w14.heap[w9.heap.size]? = some (.cells #[.int .u64 x.path, .int .u64 x.parent, .string x.name, .int .u32 x.mode, .string x.uid, .string x.gid, .string x.muid, .int .u32 x.atime, .int .u32 x.mtime, .int .u32 x.vers, .int .u64 x.length, .int .i64 x.opens, .int .i64 x.kids] 51 (0, 0))) := (k14.block _ (block_lt D13.out) (by simp)).trans D13.out; clear k14 RS2 x0 x1 x30 x31 x32) | (refine wpList_srow8 rfl (.tmp 11) (.tmp 97) rfl w9.heap.size rfl _ #[.int .u64 x.path, .int .u64 x.parent, .string x.name, .int .u32 x.mode, .string x.uid, .string x.gid, .string x.muid, .int .u32 x.atime, .int .u32 x.mtime, .int .u32 x.vers, .int .u64 x.length, .int .i64 x.opens, .int .i64 x.kids] rfl D14.out rfl rfl (by simp [Value.oneCell']) ?_; intro w15 a15 k15; have D15 := Lib.hid a15; have A15 : Hid (w15.heap[w7.heap.size]? = some (.cells #[.int .u64 x.path, .int .u64 x.parent, .string x.name, .int .u32 x.mode, .string x.uid, .string x.gid, .string x.muid, .int .u32 x.atime, .int .u32 x.mtime, .int .u32 x.vers, .int .u64 x.length, .int .i64 x.opens, .int .i64 x.kids] 51 (0, 0))) := (k15.block _ (block_lt A14.out) (by have := PA.out; simp; omega)).trans A14.out; have K15 : Hid (Kept [] w w15) := K14.out.trans k15 (fun i hi => Or.inr (by rw [List.mem_singleton] at hi; subst hi; exact K9.out.size)); clear a15 k15))
        go_wp2_with (first | (refine wpList_nmid (by rfl) (.tmp 9) rfl w7.heap.size 0 rfl _ (whole13 A15.out) rfl ?_) | (refine wpList_nmid (by rfl) (.tmp 11) rfl w9.heap.size 0 rfl _ (whole13 D15.out) rfl ?_))
        go_ret
        exact ⟨by simp, K15.out⟩
end Ru
end Go.Proofs.YtahjmpfjidijaaaGreatDoor
