/- rules: Create where nothing is made. -/
import Derived.Test.YteeheapenfklcaaGreatDoorRcr
namespace Go.Proofs.YteeheapenfklcaaGreatDoor
set_option linter.unusedVariables false
open Go.RowKit Go.Shelf
attribute [local go_sem] Oper.semAt_some
namespace Ru
open Go.Proofs.YteeheapenfklcaaGreatDoor.Utf Go.Proofs.YteeheapenfklcaaGreatDoor.Txt Go.PlainAid Go.Proofs.YteeheapenfklcaaGreatDoor.Mpf Go.Proofs.YteeheapenfklcaaGreatDoor.Us

theorem wpList_srow8 {w : World} {ops : Array Oper} {rest : List Oper} {o : Oper} {a : Act} {Q : Exit → Act → World → Prop} (hgd : o.guard = none) (x y : Operand) (ho : o.op = .store 46 x y) (g : Nat) (hx : a.eval x = .pointer (some ⟨g, 0, none⟩)) (old cs : Array Value)
    (hy : a.eval y = .agg cs) (hg : w.heap[g]? = some (.cells old 46 (0, 0))) (hs : old.size = 13) (hc : cs.size = 13) (h1 : cs.all (·.oneCell') = true)
    (h : ∀ w', w'.heap[g]? = some (.cells cs 46 (0, 0)) → Kept [g] w w' → wpList Tryz.prog ops Q rest (a.put o.dst undef) w') : wpList Tryz.prog ops Q (o :: rest) a w :=
  wpList_plain hgd fun K hK => by
    have := run_storeVar_row (P := Tryz.prog) w g 46 46 old cs hg (by rw [hc]; exact size_node9) (by rw [hs, hc]) h1
    unfold Oper.wp execOp
    simp only [ho, hx, hy, Instr.storeAt, Instr.sureAddr, Sem.run_bind, Sem.run_pure, Result.andThen_ok, this]
    exact hK _ _ (h _ (setRow_heap w g old cs 46 (0, 0) hg) ⟨rfl, rfl, rfl, by simp [World.setRow], fun k _ hk => setRow_other w g k _ (by simpa using hk)⟩)
set_option maxHeartbeats 8000000 in
set_option maxRecDepth 100000 in
theorem Create_no {w : World} {B q : Nat} {T : List Acc} (h : Tb w B q T) (u : ByteArray) (n p : Nd) (tk fl : Bool) (name : ByteArray) (pm mode : Int) (hu : u.size ≤ maxLen) (hg : n.gid.size ≤ maxLen) (hn : name.size ≤ 140737488355328) (z : Int) (hz : makeE T u n tk fl name pm mode = z) (hz0 : z ≠ 0) : Calls Tryz.prog 35 #[.pointer (some ⟨q, 0, none⟩), .string u, .agg #[.int .u64 n.path, .int .u64 n.parent, .string n.name, .int .u32 n.mode, .string n.uid, .string n.gid, .string n.muid, .int .u32 n.atime, .int .u32 n.mtime, .int .u32 n.vers, .int .u64 n.length, .int .i64 n.opens, .int .i64 n.kids, .int .u64 p.path, .int .u64 p.parent, .string p.name, .int .u32 p.mode, .string p.uid, .string p.gid, .string p.muid, .int .u32 p.atime, .int .u32 p.mtime, .int .u32 p.vers, .int .u64 p.length, .int .i64 p.opens, .int .i64 p.kids, .bool tk, .bool fl], .string name, .int .u32 pm, .int .u8 mode] w fun e w' => e = .returned (.tuple #[.agg #[.int .u64 0, .int .u64 0, .string ⟨#[]⟩, .int .u32 0, .string ⟨#[]⟩, .string ⟨#[]⟩, .string ⟨#[]⟩, .int .u32 0, .int .u32 0, .int .u32 0, .int .u64 0, .int .i64 0, .int .i64 0], .int .i64 z]) ∧ Kept [] w w' := by
  have MCX : ∀ w', Kept [] w w' → Calls Tryz.prog 64 #[.agg #[.pointer (some ⟨q, 0, none⟩), .string u], .agg #[.int .u64 n.path, .int .u64 n.parent, .string n.name, .int .u32 n.mode, .string n.uid, .string n.gid, .string n.muid, .int .u32 n.atime, .int .u32 n.mtime, .int .u32 n.vers, .int .u64 n.length, .int .i64 n.opens, .int .i64 n.kids, .int .u64 p.path, .int .u64 p.parent, .string p.name, .int .u32 p.mode, .string p.uid, .string p.gid, .string p.muid, .int .u32 p.atime, .int .u32 p.mtime, .int .u32 p.vers, .int .u64 p.length, .int .i64 p.opens, .int .i64 p.kids, .bool tk, .bool fl], .string name, .int .u32 pm, .int .u8 mode] w' fun e w'' => e = .returned (.int .i64 z) ∧ Kept [] w' w'' := fun w' k => by
    have := mayCreate_any (h.kept k) u n p tk fl name pm mode hu hg hn
    rw [hz] at this
    exact this
  have MC0 := Lib.hid (fun w' (k : Kept [] w w') => MCX w' k)
  obtain ⟨V, hV⟩ : ∃ V : Array Value, V = #[.int .u64 n.path, .int .u64 n.parent, .string n.name, .int .u32 n.mode, .string n.uid, .string n.gid, .string n.muid, .int .u32 n.atime, .int .u32 n.mtime, .int .u32 n.vers, .int .u64 n.length, .int .i64 n.opens, .int .i64 n.kids, .int .u64 p.path, .int .u64 p.parent, .string p.name, .int .u32 p.mode, .string p.uid, .string p.gid, .string p.muid, .int .u32 p.atime, .int .u32 p.mtime, .int .u32 p.vers, .int .u64 p.length, .int .i64 p.opens, .int .i64 p.kids, .bool tk, .bool fl] := ⟨_, rfl⟩
  have HV := Lib.hid hV
  rw [← hV] at MC0 ⊢
  have AS : Hid (∀ w, Calls Tryz.prog 39 #[.pointer (some ⟨q, 0, none⟩), .string u] w fun e w' => e = .returned (.agg #[.pointer (some ⟨q, 0, none⟩), .string u]) ∧ Kept [] w w') := fun w => asks_any w q u
  have MC := MC0
  obtain ⟨w1, hw1⟩ : ∃ w1, w1 = (w.alloc (.cells V 48)).alloc (.cells #[.int .u64 0, .int .u64 0, .string ⟨#[]⟩, .int .u32 0, .string ⟨#[]⟩, .string ⟨#[]⟩, .string ⟨#[]⟩, .int .u32 0, .int .u32 0, .int .u32 0, .int .u64 0, .int .i64 0, .int .i64 0] 46) := ⟨_, rfl⟩
  obtain ⟨R12, hR12⟩ : ∃ R, R = w.heap.size + 1 := ⟨_, rfl⟩
  obtain ⟨R, hR⟩ : ∃ R, R = w.heap.size := ⟨_, rfl⟩
  have b12 : w1.heap[R12]? = some (.cells #[.int .u64 0, .int .u64 0, .string ⟨#[]⟩, .int .u32 0, .string ⟨#[]⟩, .string ⟨#[]⟩, .string ⟨#[]⟩, .int .u32 0, .int .u32 0, .int .u32 0, .int .u64 0, .int .i64 0, .int .i64 0] 46 (0, 0)) := by
    rw [hw1, hR12]
    have := (MapKept.heap_alloc (w.alloc (.cells V 48)) (.cells #[.int .u64 0, .int .u64 0, .string ⟨#[]⟩, .int .u32 0, .string ⟨#[]⟩, .string ⟨#[]⟩, .string ⟨#[]⟩, .int .u32 0, .int .u32 0, .int .u32 0, .int .u64 0, .int .i64 0, .int .i64 0] 46)).1
    rwa [World.size_alloc] at this
  have b1 : w1.heap[R]? = some (.cells V 48 (0, 0)) := by
    rw [hw1, hR]
    exact (Below.heap_alloc _ _ _ (by simp)).trans (MapKept.heap_alloc w _).1
  have K1 : Hid (Kept [] w w1) := by rw [hw1]; exact ((Kept.refl _ _).alloc _).alloc _
  have CE : Hid (∀ wr, Kept [] w1 wr → wr.heap[R]? = some (.cells V 48 (0, 0)) ∧ (wr.cell? ⟨R, 0, none⟩ = some (Value.int .u64 n.path) ∧ wr.cell? ⟨R, 1, none⟩ = some (Value.int .u64 n.parent) ∧ wr.cell? ⟨R, 2, none⟩ = some (Value.string n.name) ∧ wr.cell? ⟨R, 3, none⟩ = some (Value.int .u32 n.mode) ∧ wr.cell? ⟨R, 4, none⟩ = some (Value.string n.uid) ∧ wr.cell? ⟨R, 5, none⟩ = some (Value.string n.gid) ∧ wr.cell? ⟨R, 6, none⟩ = some (Value.string n.muid) ∧ wr.cell? ⟨R, 7, none⟩ = some (Value.int .u32 n.atime) ∧ wr.cell? ⟨R, 8, none⟩ = some (Value.int .u32 n.mtime) ∧ wr.cell? ⟨R, 9, none⟩ = some (Value.int .u32 n.vers) ∧ wr.cell? ⟨R, 10, none⟩ = some (Value.int .u64 n.length) ∧ wr.cell? ⟨R, 11, none⟩ = some (Value.int .i64 n.opens) ∧ wr.cell? ⟨R, 12, none⟩ = some (Value.int .i64 n.kids))) := fun wr k => by
    have b := (k.block _ (block_lt b1) (by simp)).trans b1
    refine ⟨b, ?_, ?_, ?_, ?_, ?_, ?_, ?_, ?_, ?_, ?_, ?_, ?_, ?_⟩ <;> (rw [cell_of_row wr R _ _ _ (0, 0) b, hV]; rfl)
  have B12 := Lib.hid b12
  have NR : Hid (w.heap.size ≤ R12) := by show _ ≤ _; omega
  have HW1 := Lib.hid hw1
  have HR := Lib.hid hR
  have HR12 := Lib.hid hR12
  clear hw1 hR hR12 h b1 b12 hV MC0 MCX hu hg hn hz
  have sv0 : (Tryz.prog.info? 48).map (·.size) = some V.size := by rw [HV.out]; kernel_rfl
  have SV := Lib.hid sv0
  clear sv0
  go_enter Tryz.func35, Tryz.ntmps35
  go_wp2_with fail
  rw [← HW1.out, ← HR12.out, ← HR.out]
  have kd : Kept [] w1 w1.drew := (Kept.refl _ _).drew
  go_upto_region 1 with (fail)
  go_cut [14] from 16 to 23 (fun s14 wx => s14 = .int .i64 z ∧ Hid (Kept [] w1 wx))
  case first =>
    refine wp_region_any (by kernel_rfl) ?_
    try (change wpAny _ _ _ _ _ _ _ (World.drew _))
    refine wpAny_take (i := 0) (v := .pointer (some ⟨q, 0, none⟩)) rfl (by kernel_rfl) (by kernel_rfl) (by kernel_rfl) (fun _ _ _ h => h) (Or.inl ⟨by rfl, fun w => by simp [execOp, go_sem]⟩) ?_
    refine wpAny_take (i := 1) (v := .string u) rfl (by kernel_rfl) (by kernel_rfl) (by kernel_rfl) (fun _ _ _ h => h) (Or.inl ⟨by rfl, fun w => by simp [execOp, go_sem]⟩) ?_
    refine wpAny_take (i := 4) (v := .string name) rfl (by kernel_rfl) (by kernel_rfl) (by kernel_rfl) (fun _ _ _ h => h) (Or.inl ⟨by rfl, fun w => by simp [execOp, go_sem]⟩) ?_
    refine wpAny_take (i := 5) (v := .int .u32 pm) rfl (by kernel_rfl) (by kernel_rfl) (by kernel_rfl) (fun _ _ _ h => h) (Or.inl ⟨by rfl, fun w => by simp [execOp, go_sem]⟩) ?_
    refine wpAny_take (i := 6) (v := .int .u8 mode) rfl (by kernel_rfl) (by kernel_rfl) (by kernel_rfl) (fun _ _ _ h => h) (Or.inl ⟨by rfl, fun w => by simp [execOp, go_sem]⟩) ?_
    refine wpAny_all (rs := [2, 3]) (by kernel_rfl) (by simp) ?_
    intro j hj
    simp only [List.mem_cons, List.not_mem_nil, or_false] at hj
    rcases hj with rfl | rfl
    · skip
      refine any_callR rfl rfl 39 #[.pointer (some ⟨q, 0, none⟩), .string u] (by simp [go_sem]) (AS.out _) ?_
      rintro e w2 ⟨rfl, k2⟩
      refine ⟨_, rfl, ?_⟩
      have K2 : Kept [] w1 w2 := kd.trans k2 (fun i hi => by cases hi)
      refine wpAny_all (rs := [3]) (by kernel_rfl) (by simp) ?_
      intro j hj
      obtain rfl : j = 3 := by simpa using hj
      refine any_load8 rfl rfl 48 (.tmp 8) R 48 V (0, 0) _ rfl (by simp [go_sem]) (CE.out _ K2).1 Tryz.underlying48 rfl SV.out ?_
      refine wpAny_all (rs := [7]) (by kernel_rfl) (by simp) ?_
      intro j hj
      obtain rfl : j = 7 := by simpa using hj
      refine any_callR rfl rfl 64 #[.agg #[.pointer (some ⟨q, 0, none⟩), .string u], .agg V, .string name, .int .u32 pm, .int .u8 mode] (by simp [go_sem]) (MC.out _ (K1.out.trans K2 (fun i hi => by cases hi))) ?_
      rintro e w3 ⟨rfl, k3⟩
      refine ⟨_, rfl, ?_⟩
      have K3 : Kept [] w1 w3 := K2.trans k3 (fun i hi => by cases hi)
      refine wpAny_all (rs := [8]) (by kernel_rfl) (by simp) ?_
      intro j hj
      obtain rfl : j = 8 := by simpa using hj
      refine any_value8 rfl rfl (.int .i64 z) (by simp [execOp, go_sem]) ?_
      refine wpAny_done (by kernel_rfl) ?_ _
      simp [go_sem]
      go_wp2_with fail
      go_meet
      exact ⟨rfl, K3⟩
    · refine any_load8 rfl rfl 48 (.tmp 8) R 48 V (0, 0) _ rfl (by simp [go_sem]) (CE.out _ kd).1 Tryz.underlying48 rfl SV.out ?_
      refine wpAny_all (rs := [2]) (by kernel_rfl) (by simp) ?_
      intro j hj
      obtain rfl : j = 2 := by simpa using hj
      refine any_callR rfl rfl 39 #[.pointer (some ⟨q, 0, none⟩), .string u] (by simp [go_sem]) (AS.out _) ?_
      rintro e w2 ⟨rfl, k2⟩
      refine ⟨_, rfl, ?_⟩
      have K2 : Kept [] w1 w2 := kd.trans k2 (fun i hi => by cases hi)
      refine wpAny_all (rs := [7]) (by kernel_rfl) (by simp) ?_
      intro j hj
      obtain rfl : j = 7 := by simpa using hj
      refine any_callR rfl rfl 64 #[.agg #[.pointer (some ⟨q, 0, none⟩), .string u], .agg V, .string name, .int .u32 pm, .int .u8 mode] (by simp [go_sem]) (MC.out _ (K1.out.trans K2 (fun i hi => by cases hi))) ?_
      rintro e w3 ⟨rfl, k3⟩
      refine ⟨_, rfl, ?_⟩
      have K3 : Kept [] w1 w3 := K2.trans k3 (fun i hi => by cases hi)
      refine wpAny_all (rs := [8]) (by kernel_rfl) (by simp) ?_
      intro j hj
      obtain rfl : j = 8 := by simpa using hj
      refine any_value8 rfl rfl (.int .i64 z) (by simp [execOp, go_sem]) ?_
      refine wpAny_done (by kernel_rfl) ?_ _
      simp [go_sem]
      go_wp2_with fail
      go_meet
      exact ⟨rfl, K3⟩
  case rest =>
    obtain ⟨rfl, hK⟩ := hcut
    have b12 := (hK.out.block _ (block_lt B12.out) (by simp)).trans B12.out
    have BB := Lib.hid b12
    have e1 : (z == 0) = false := by simpa using hz0
    have e2 : (z != 0) = true := by simp [hz0]
    clear hz0 b12
    go_wp2_with (first | (refine wpList_srow8 rfl (.tmp 12) (.tmp 26) rfl R12 rfl _ #[.int .u64 0, .int .u64 0, .string ⟨#[]⟩, .int .u32 0, .string ⟨#[]⟩, .string ⟨#[]⟩, .string ⟨#[]⟩, .int .u32 0, .int .u32 0, .int .u32 0, .int .u64 0, .int .i64 0, .int .i64 0] rfl BB.out rfl rfl (by simp [Value.oneCell']) ?_; intro w4 b4 k4))
    have hl := run_loadVar_row (P := Tryz.prog) w4 R12 46 46 _ (0, 0) _ b4 Tryz.underlying46 rfl size_node9
    refine bodyPost_ret (v := .tuple #[.agg #[.int .u64 0, .int .u64 0, .string ⟨#[]⟩, .int .u32 0, .string ⟨#[]⟩, .string ⟨#[]⟩, .string ⟨#[]⟩, .int .u32 0, .int .u32 0, .int .u32 0, .int .u64 0, .int .i64 0, .int .i64 0], .int .i64 z]) (by simp [results, Tryz.results35, asAddr, hl]) rfl ⟨rfl, ?_⟩
    exact (K1.out.trans hK.out (fun i hi => by cases hi)).trans k4 (fun i hi => Or.inr (by rw [List.mem_singleton] at hi; subst hi; exact NR.out))
end Ru
end Go.Proofs.YteeheapenfklcaaGreatDoor
