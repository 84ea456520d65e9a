/- rules: what is made in the document's example. -/
import Derived.Test.YteeheapenfklcaaGreatDoorRu4
import Derived.Laws.Rows
import Derived.Laws.Tables
import Derived.OrdersHeld
import Derived.Deep.Cut
import Derived.Deep.CutRange
namespace Go.Proofs.YteeheapenfklcaaGreatDoor
set_option linter.unusedVariables false
open Go.RowKit Go.Shelf
attribute [local go_sem] Oper.semAt_some
namespace Ru
open Go.Proofs.YteeheapenfklcaaGreatDoor.Utf Go.Proofs.YteeheapenfklcaaGreatDoor.Txt Go.PlainAid Go.Proofs.YteeheapenfklcaaGreatDoor.Mpf Go.Proofs.YteeheapenfklcaaGreatDoor.Us
section
variable {w : World} {B p : Nat}
theorem any_wp {P : Program} {ops : Array Oper} {Q : Exit → Act → World → Prop} {K : Act → World → Prop} {a : Act} {w : World} {o : Oper} {i : Nat} (hi : ops[i]? = some o) (hg : o.guard = none) (h : o.wp P a w K Q) : wpOp P ops Q i K a w := by
  unfold wpOp
  rw [hi]
  simp only [show Region.wanted o (yielded ops a.tmps) = true by simp [Region.wanted, hg], if_true]
  exact Or.inl h
theorem any_callR {P : Program} {ops : Array Oper} {Q : Exit → Act → World → Prop} {K : Act → World → Prop} {a : Act} {w : World} {o : Oper} {i : Nat} (hi : ops[i]? = some o) (hg : o.guard = none) (f : FuncId) (args : Array Value) (hrun : (execOp a.eval o).run P w = .ok (.enter f args) w) {R : Ending → World → Prop} (hc : Calls P f args w R)
    (hR : ∀ e w', R e w' → ∃ v, e = .returned v ∧ K (a.put o.dst v) w') : wpOp P ops Q i K a w := by
  refine any_wp hi hg ?_
  unfold Oper.wp
  rw [hrun, Oper.upon_enter]
  exact hc.mono fun e w' r => by obtain ⟨v, rfl, hk⟩ := hR e w' r; exact hk
theorem any_value8 {P : Program} {ops : Array Oper} {Q : Exit → Act → World → Prop} {K : Act → World → Prop} {a : Act} {w : World} {o : Oper} {i : Nat} (hi : ops[i]? = some o) (hg : o.guard = none) (v : Value) (hrun : (execOp a.eval o).run P w = .ok (.value v) w) (h : K (a.put o.dst v) w) : wpOp P ops Q i K a w := by
  refine any_wp hi hg ?_
  unfold Oper.wp
  rw [hrun, Oper.upon_value]
  exact h
theorem run_load8 {P : Program} {o : Oper} {a : Act} {w : World} (ty : TypeId) (x : Operand) (ho : o.op = .load ty x) (g : Nat) (hx : a.eval x = .pointer (some ⟨g, 0, none⟩)) (t : TypeId) (cs : Array Value) (fr : Nat × Nat) (d : TypeDesc) (hg : w.heap[g]? = some (.cells cs t fr)) (hu : P.underlying ty = some d) (hd : (match d with | .struct _ | .array _ _ => true | _ => false) = true) (hi : (P.info? ty).map (·.size) = some cs.size) : (execOp a.eval o).run P w = .ok (.value (.agg cs)) w := by
  unfold execOp
  simp only [ho, hx, Instr.loadAt, Instr.sureAddr, Sem.run_bind, Sem.run_pure, Result.andThen_ok, run_loadVar_row w g t ty cs fr d hg hu hd hi]
theorem any_load8 {P : Program} {ops : Array Oper} {Q : Exit → Act → World → Prop} {K : Act → World → Prop} {a : Act} {w : World} {o : Oper} {i : Nat} (hi : ops[i]? = some o) (hgd : o.guard = none) (ty : TypeId) (x : Operand) (g : Nat) (t : TypeId) (cs : Array Value) (fr : Nat × Nat) (d : TypeDesc) (ho : o.op = .load ty x) (hx : a.eval x = .pointer (some ⟨g, 0, none⟩)) (hg : w.heap[g]? = some (.cells cs t fr)) (hu : P.underlying ty = some d) (hd : (match d with | .struct _ | .array _ _ => true | _ => false) = true) (hs : (P.info? ty).map (·.size) = some cs.size) (h : K (a.put o.dst (.agg cs)) w) : wpOp P ops Q i K a w :=
  any_value8 hi hgd (.agg cs) (run_load8 ty x ho g hx t cs fr d hg hu hd hs) h
theorem any_store8 {P : Program} {ops : Array Oper} {Q : Exit → Act → World → Prop} {K : Act → World → Prop} {a : Act} {w : World} {o : Oper} {i : Nat} (hi : ops[i]? = some o) (hgd : o.guard = none) (ty : TypeId) (x y : Operand) (g : Nat) (cells : Array Value) (t : TypeId) (old : Array Value) (ho : o.op = .store ty x y) (hx : a.eval x = .pointer (some ⟨g, 0, none⟩)) (hy : a.eval y = .agg cells) (hg : w.heap[g]? = some (.cells old t (0, 0))) (hs : (P.info? ty).map (·.size) = some cells.size) (hold : old.size = cells.size) (h1 : cells.all (·.oneCell') = true) (h : K (a.put o.dst undef) (w.setRow g cells)) : wpOp P ops Q i K a w :=
  any_wp hi hgd (wp_store_row ty x y ho g cells hx hy t old hg hs hold h1 h)
theorem size_facts : Tryz.prog.cellsOf 48 = 28 := by kernel_rfl
set_option maxHeartbeats 8000000 in
set_option maxRecDepth 100000 in
theorem create_bob (h : Tb w B p peopleT) : Calls Tryz.prog 35 #[.pointer (some ⟨p, 0, none⟩), .string ⟨#[98, 111, 98]⟩, .agg #[.int .u64 3, .int .u64 0, .string ⟨#[]⟩, .int .u32 2147484141, .string ⟨#[98, 111, 98]⟩, .string ⟨#[98, 111, 98]⟩, .string ⟨#[]⟩, .int .u32 0, .int .u32 0, .int .u32 0, .int .u64 0, .int .i64 0, .int .i64 0, .int .u64 3, .int .u64 0, .string ⟨#[]⟩, .int .u32 2147484141, .string ⟨#[98, 111, 98]⟩, .string ⟨#[98, 111, 98]⟩, .string ⟨#[]⟩, .int .u32 0, .int .u32 0, .int .u32 0, .int .u64 0, .int .i64 0, .int .i64 0, .bool false, .bool false], .string ⟨#[120]⟩, .int .u32 511, .int .u8 0] w fun e w' => e = .returned (.tuple #[.agg #[.int .u64 0, .int .u64 3, .string ⟨#[120]⟩, .int .u32 493, .string ⟨#[98, 111, 98]⟩, .string ⟨#[98, 111, 98]⟩, .string ⟨#[98, 111, 98]⟩, .int .u32 0, .int .u32 0, .int .u32 0, .int .u64 0, .int .i64 0, .int .i64 0], .int .i64 0]) ∧ Kept [] w w' := by
  have MC0 := Lib.hid (fun w' (k : Kept [] w w') => mayCreate_bob (h.kept k))
  obtain ⟨V, hV⟩ : ∃ V : Array Value, V = #[.int .u64 3, .int .u64 0, .string ⟨#[]⟩, .int .u32 2147484141, .string ⟨#[98, 111, 98]⟩, .string ⟨#[98, 111, 98]⟩, .string ⟨#[]⟩, .int .u32 0, .int .u32 0, .int .u32 0, .int .u64 0, .int .i64 0, .int .i64 0, .int .u64 3, .int .u64 0, .string ⟨#[]⟩, .int .u32 2147484141, .string ⟨#[98, 111, 98]⟩, .string ⟨#[98, 111, 98]⟩, .string ⟨#[]⟩, .int .u32 0, .int .u32 0, .int .u32 0, .int .u64 0, .int .i64 0, .int .i64 0, .bool false, .bool false] := ⟨_, rfl⟩
  have HV := Lib.hid hV
  rw [← hV] at MC0 ⊢
  have AS : Hid (∀ w, Calls Tryz.prog 39 #[.pointer (some ⟨p, 0, none⟩), .string ⟨#[98, 111, 98]⟩] w fun e w' => e = .returned (.agg #[.pointer (some ⟨p, 0, none⟩), .string ⟨#[98, 111, 98]⟩]) ∧ Kept [] w w') := fun w => asks_any w p bob
  have MC := MC0
  have MI : Hid (∀ w', Calls Tryz.prog 65 #[.agg #[.int .u64 3, .int .u64 0, .string ⟨#[]⟩, .int .u32 2147484141, .string ⟨#[98, 111, 98]⟩, .string ⟨#[98, 111, 98]⟩, .string ⟨#[]⟩, .int .u32 0, .int .u32 0, .int .u32 0, .int .u64 0, .int .i64 0, .int .i64 0], .int .u32 511] w' fun e w'' => e = .returned (.int .u32 493) ∧ Kept [] w' w'') := fun w' => modeIn_511 w'
  obtain ⟨w1, hw1⟩ : ∃ w1, w1 = (w.alloc (.cells V 48)).alloc (.cells #[.int .u64 0, .int .u64 0, .string ⟨#[]⟩, .int .u32 0, .string ⟨#[]⟩, .string ⟨#[]⟩, .string ⟨#[]⟩, .int .u32 0, .int .u32 0, .int .u32 0, .int .u64 0, .int .i64 0, .int .i64 0] 46) := ⟨_, rfl⟩
  obtain ⟨R12, hR12⟩ : ∃ R, R = w.heap.size + 1 := ⟨_, rfl⟩
  obtain ⟨R, hR⟩ : ∃ R, R = w.heap.size := ⟨_, rfl⟩
  have b12 : w1.heap[R12]? = some (.cells #[.int .u64 0, .int .u64 0, .string ⟨#[]⟩, .int .u32 0, .string ⟨#[]⟩, .string ⟨#[]⟩, .string ⟨#[]⟩, .int .u32 0, .int .u32 0, .int .u32 0, .int .u64 0, .int .i64 0, .int .i64 0] 46 (0, 0)) := by
    rw [hw1, hR12]
    have := (MapKept.heap_alloc (w.alloc (.cells V 48)) (.cells #[.int .u64 0, .int .u64 0, .string ⟨#[]⟩, .int .u32 0, .string ⟨#[]⟩, .string ⟨#[]⟩, .string ⟨#[]⟩, .int .u32 0, .int .u32 0, .int .u32 0, .int .u64 0, .int .i64 0, .int .i64 0] 46)).1
    rwa [World.size_alloc] at this
  have b1 : w1.heap[R]? = some (.cells V 48 (0, 0)) := by
    rw [hw1, hR]
    exact (Below.heap_alloc _ _ _ (by simp)).trans (MapKept.heap_alloc w _).1
  have K1 : Hid (Kept [] w w1) := by rw [hw1]; exact ((Kept.refl _ _).alloc _).alloc _
  have CE : Hid (∀ wr, Kept [] w1 wr → wr.heap[R]? = some (.cells V 48 (0, 0)) ∧ (wr.cell? ⟨R, 0, none⟩ = some (Value.int .u64 3) ∧ wr.cell? ⟨R, 1, none⟩ = some (Value.int .u64 0) ∧ wr.cell? ⟨R, 2, none⟩ = some (Value.string ⟨#[]⟩) ∧ wr.cell? ⟨R, 3, none⟩ = some (Value.int .u32 2147484141) ∧ wr.cell? ⟨R, 4, none⟩ = some (Value.string ⟨#[98, 111, 98]⟩) ∧ wr.cell? ⟨R, 5, none⟩ = some (Value.string ⟨#[98, 111, 98]⟩) ∧ wr.cell? ⟨R, 6, none⟩ = some (Value.string ⟨#[]⟩) ∧ wr.cell? ⟨R, 7, none⟩ = some (Value.int .u32 0) ∧ wr.cell? ⟨R, 8, none⟩ = some (Value.int .u32 0) ∧ wr.cell? ⟨R, 9, none⟩ = some (Value.int .u32 0) ∧ wr.cell? ⟨R, 10, none⟩ = some (Value.int .u64 0) ∧ wr.cell? ⟨R, 11, none⟩ = some (Value.int .i64 0) ∧ wr.cell? ⟨R, 12, none⟩ = some (Value.int .i64 0))) := fun wr k => by
    have b := (k.block _ (block_lt b1) (by simp)).trans b1
    refine ⟨b, ?_, ?_, ?_, ?_, ?_, ?_, ?_, ?_, ?_, ?_, ?_, ?_, ?_⟩ <;> (rw [cell_of_row wr R _ _ _ (0, 0) b, hV]; rfl)
  have B12 := Lib.hid b12
  have NR : Hid (w.heap.size ≤ R12) := by show _ ≤ _; omega
  have HW1 := Lib.hid hw1
  have HR := Lib.hid hR
  have HR12 := Lib.hid hR12
  clear hw1 hR hR12 h b1 b12 hV MC0
  have sv0 : (Tryz.prog.info? 48).map (·.size) = some V.size := by rw [HV.out]; kernel_rfl
  have SV := Lib.hid sv0
  clear sv0
  go_enter Tryz.func35, Tryz.ntmps35
  go_wp2_with fail
  rw [← HW1.out, ← HR12.out, ← HR.out]
  have kd : Kept [] w1 w1.drew := (Kept.refl _ _).drew
  go_upto_region 1 with (fail)
  go_cut [14] from 16 to 23 (fun s14 wx => s14 = .int .i64 0 ∧ Hid (Kept [] w1 wx))
  case first =>
    refine wp_region_any (by kernel_rfl) ?_
    try (change wpAny _ _ _ _ _ _ _ (World.drew _))
    refine wpAny_take (i := 0) (v := .pointer (some ⟨p, 0, none⟩)) rfl (by kernel_rfl) (by kernel_rfl) (by kernel_rfl) (fun _ _ _ h => h) (Or.inl ⟨by rfl, fun w => by simp [execOp, go_sem]⟩) ?_
    refine wpAny_take (i := 1) (v := .string ⟨#[98, 111, 98]⟩) rfl (by kernel_rfl) (by kernel_rfl) (by kernel_rfl) (fun _ _ _ h => h) (Or.inl ⟨by rfl, fun w => by simp [execOp, go_sem]⟩) ?_
    refine wpAny_take (i := 4) (v := .string ⟨#[120]⟩) rfl (by kernel_rfl) (by kernel_rfl) (by kernel_rfl) (fun _ _ _ h => h) (Or.inl ⟨by rfl, fun w => by simp [execOp, go_sem]⟩) ?_
    refine wpAny_take (i := 5) (v := .int .u32 511) rfl (by kernel_rfl) (by kernel_rfl) (by kernel_rfl) (fun _ _ _ h => h) (Or.inl ⟨by rfl, fun w => by simp [execOp, go_sem]⟩) ?_
    refine wpAny_take (i := 6) (v := .int .u8 0) rfl (by kernel_rfl) (by kernel_rfl) (by kernel_rfl) (fun _ _ _ h => h) (Or.inl ⟨by rfl, fun w => by simp [execOp, go_sem]⟩) ?_
    refine wpAny_all (rs := [2, 3]) (by kernel_rfl) (by simp) ?_
    intro j hj
    simp only [List.mem_cons, List.not_mem_nil, or_false] at hj
    rcases hj with rfl | rfl
    · skip
      refine any_callR rfl rfl 39 #[.pointer (some ⟨p, 0, none⟩), .string ⟨#[98, 111, 98]⟩] (by simp [go_sem]) (AS.out _) ?_
      rintro e w2 ⟨rfl, k2⟩
      refine ⟨_, rfl, ?_⟩
      have K2 : Kept [] w1 w2 := kd.trans k2 (fun i hi => by cases hi)
      refine wpAny_all (rs := [3]) (by kernel_rfl) (by simp) ?_
      intro j hj
      obtain rfl : j = 3 := by simpa using hj
      refine any_load8 rfl rfl 48 (.tmp 8) R 48 V (0, 0) _ rfl (by simp [go_sem]) (CE.out _ K2).1 Tryz.underlying48 rfl SV.out ?_
      refine wpAny_all (rs := [7]) (by kernel_rfl) (by simp) ?_
      intro j hj
      obtain rfl : j = 7 := by simpa using hj
      refine any_callR rfl rfl 64 #[.agg #[.pointer (some ⟨p, 0, none⟩), .string ⟨#[98, 111, 98]⟩], .agg V, .string ⟨#[120]⟩, .int .u32 511, .int .u8 0] (by simp [go_sem]) (MC.out _ (K1.out.trans K2 (fun i hi => by cases hi))) ?_
      rintro e w3 ⟨rfl, k3⟩
      refine ⟨_, rfl, ?_⟩
      have K3 : Kept [] w1 w3 := K2.trans k3 (fun i hi => by cases hi)
      refine wpAny_all (rs := [8]) (by kernel_rfl) (by simp) ?_
      intro j hj
      obtain rfl : j = 8 := by simpa using hj
      refine any_value8 rfl rfl (.int .i64 0) (by simp [execOp, go_sem]) ?_
      refine wpAny_done (by kernel_rfl) ?_ _
      simp [go_sem]
      go_wp2_with fail
      go_meet
      exact ⟨rfl, K3⟩
    · refine any_load8 rfl rfl 48 (.tmp 8) R 48 V (0, 0) _ rfl (by simp [go_sem]) (CE.out _ kd).1 Tryz.underlying48 rfl SV.out ?_
      refine wpAny_all (rs := [2]) (by kernel_rfl) (by simp) ?_
      intro j hj
      obtain rfl : j = 2 := by simpa using hj
      refine any_callR rfl rfl 39 #[.pointer (some ⟨p, 0, none⟩), .string ⟨#[98, 111, 98]⟩] (by simp [go_sem]) (AS.out _) ?_
      rintro e w2 ⟨rfl, k2⟩
      refine ⟨_, rfl, ?_⟩
      have K2 : Kept [] w1 w2 := kd.trans k2 (fun i hi => by cases hi)
      refine wpAny_all (rs := [7]) (by kernel_rfl) (by simp) ?_
      intro j hj
      obtain rfl : j = 7 := by simpa using hj
      refine any_callR rfl rfl 64 #[.agg #[.pointer (some ⟨p, 0, none⟩), .string ⟨#[98, 111, 98]⟩], .agg V, .string ⟨#[120]⟩, .int .u32 511, .int .u8 0] (by simp [go_sem]) (MC.out _ (K1.out.trans K2 (fun i hi => by cases hi))) ?_
      rintro e w3 ⟨rfl, k3⟩
      refine ⟨_, rfl, ?_⟩
      have K3 : Kept [] w1 w3 := K2.trans k3 (fun i hi => by cases hi)
      refine wpAny_all (rs := [8]) (by kernel_rfl) (by simp) ?_
      intro j hj
      obtain rfl : j = 8 := by simpa using hj
      refine any_value8 rfl rfl (.int .i64 0) (by simp [execOp, go_sem]) ?_
      refine wpAny_done (by kernel_rfl) ?_ _
      simp [go_sem]
      go_wp2_with fail
      go_meet
      exact ⟨rfl, K3⟩
  case rest =>
    obtain ⟨rfl, hK⟩ := hcut
    obtain ⟨-, c0, c1, c2, c3, c4, c5, c6, c7, c8, c9, c10, c11, c12⟩ := CE.out wc hK.out
    have b12 := (hK.out.block _ (block_lt B12.out) (by simp)).trans B12.out
    obtain ⟨w4, hw4⟩ : ∃ w4, w4 = wc.alloc (.cells #[.int .u64 3, .int .u64 0, .string ⟨#[]⟩, .int .u32 2147484141, .string ⟨#[98, 111, 98]⟩, .string ⟨#[98, 111, 98]⟩, .string ⟨#[]⟩, .int .u32 0, .int .u32 0, .int .u32 0, .int .u64 0, .int .i64 0, .int .i64 0] 46) := ⟨_, rfl⟩
    obtain ⟨R15, hR15⟩ : ∃ R, R = wc.heap.size := ⟨_, rfl⟩
    have b15 : w4.heap[R15]? = some (.cells #[.int .u64 3, .int .u64 0, .string ⟨#[]⟩, .int .u32 2147484141, .string ⟨#[98, 111, 98]⟩, .string ⟨#[98, 111, 98]⟩, .string ⟨#[]⟩, .int .u32 0, .int .u32 0, .int .u32 0, .int .u64 0, .int .i64 0, .int .i64 0] 46 (0, 0)) := by rw [hw4, hR15]; exact (MapKept.heap_alloc wc _).1
    have k4 : Kept [] wc w4 := by rw [hw4]; exact (Kept.refl _ _).alloc _
    have NE : Hid (R15 ≠ R12) := by have := block_lt b12; show _ ≠ _; omega
    have b124 := (k4.block _ (block_lt b12) (by simp)).trans b12
    have K4 : Hid (Kept [] w w4) := (K1.out.trans hK.out (fun i hi => by cases hi)).trans k4 (fun i hi => by cases hi)
    have HW4 := Lib.hid hw4
    have HR15 := Lib.hid hR15
    have B15 := Lib.hid b15
    have B124 := Lib.hid b124
    clear hw4 hR15 b15 k4 b12 b124
    go_wp2_with fail
    rw [← HW4.out, ← HR15.out]
    have kd4 : Kept [R12] w4 w4.drew := (Kept.refl _ _).drew
    have bd : (w4.drew).heap[R15]? = some (.cells #[.int .u64 3, .int .u64 0, .string ⟨#[]⟩, .int .u32 2147484141, .string ⟨#[98, 111, 98]⟩, .string ⟨#[98, 111, 98]⟩, .string ⟨#[]⟩, .int .u32 0, .int .u32 0, .int .u32 0, .int .u64 0, .int .i64 0, .int .i64 0] 46 (0, 0)) := B15.out
    have NE' : R15 ∉ [R12] := by have := NE.out; simpa using this
    obtain ⟨Z, hZ⟩ : ∃ Z : Array Value, Z = #[.int .u64 3, .int .u64 0, .string ⟨#[]⟩, .int .u32 2147484141, .string ⟨#[98, 111, 98]⟩, .string ⟨#[98, 111, 98]⟩, .string ⟨#[]⟩, .int .u32 0, .int .u32 0, .int .u32 0, .int .u64 0, .int .i64 0, .int .i64 0] := ⟨_, rfl⟩
    have HZ := Lib.hid hZ
    have B15' : Hid (w4.heap[R15]? = some (.cells Z 46 (0, 0))) := by rw [hZ]; exact B15
    rw [← hZ] at bd
    have MI' : Hid (∀ w', Calls Tryz.prog 65 #[.agg Z, .int .u32 511] w' fun e w'' => e = .returned (.int .u32 493) ∧ Kept [] w' w'') := by rw [hZ]; exact MI
    clear hZ
    have cz : ∀ w' : World, w'.heap[R15]? = some (.cells Z 46 (0, 0)) → w'.cell? ⟨R15, 0, none⟩ = some (Value.int .u64 3) ∧ w'.cell? ⟨R15, 5, none⟩ = some (Value.string ⟨#[98, 111, 98]⟩) := fun w' b => by
      refine ⟨?_, ?_⟩ <;> (rw [cell_of_row w' R15 _ _ _ (0, 0) b, HZ.out]; rfl)
    have sz : (Tryz.prog.info? 46).map (·.size) = some Z.size := by rw [HZ.out]; kernel_rfl
    refine wp_region_held (S := fun w' => w'.heap[R15]? = some (.cells Z 46 (0, 0))) (by kernel_rfl) ?_
    try (change wpAnyH _ _ _ _ _ _ _ _ (World.drew _))
    refine wpAnyH_take (i := 0) (v := .pointer (some ⟨R15, 0, none⟩)) rfl (by kernel_rfl) (by kernel_rfl) (by kernel_rfl) (fun _ _ _ h => h) (Or.inl ⟨by rfl, fun w _ => by simp [execOp, go_sem]⟩) bd ?_
    refine wpAnyH_take (i := 1) (v := .int .u64 3) rfl (by kernel_rfl) (by kernel_rfl) (by kernel_rfl) (fun _ _ _ h => h) (Or.inl ⟨by rfl, fun w b => by have c := (cz w b).1; simp [execOp, go_sem, c]⟩) bd ?_
    refine wpAnyH_take (i := 2) (v := .string ⟨#[120]⟩) rfl (by kernel_rfl) (by kernel_rfl) (by kernel_rfl) (fun _ _ _ h => h) (Or.inl ⟨by rfl, fun w _ => by simp [execOp, go_sem]⟩) bd ?_
    refine wpAnyH_take (i := 3) (v := .agg Z) rfl (by kernel_rfl) (by kernel_rfl) (by kernel_rfl) (fun _ _ _ h => h) (Or.inl ⟨by rfl, fun w b => by
      exact run_load8 46 (.tmp 15) rfl R15 (by simp [go_sem]) 46 Z (0, 0) _ b Tryz.underlying46 rfl sz⟩) bd ?_
    refine wpAnyH_take (i := 4) (v := .int .u32 511) rfl (by kernel_rfl) (by kernel_rfl) (by kernel_rfl) (fun _ _ _ h => h) (Or.inl ⟨by rfl, fun w _ => by simp [execOp, go_sem]⟩) bd ?_
    refine wpAnyH_take (i := 6) (v := .string ⟨#[98, 111, 98]⟩) rfl (by kernel_rfl) (by kernel_rfl) (by kernel_rfl) (fun _ _ _ h => h) (Or.inl ⟨by rfl, fun w _ => by simp [execOp, go_sem]⟩) bd ?_
    refine wpAnyH_take (i := 7) (v := .pointer (some ⟨R15, 5, none⟩)) rfl (by kernel_rfl) (by kernel_rfl) (by kernel_rfl) (fun _ _ _ h => h) (Or.inl ⟨by rfl, fun w _ => by simp [execOp, go_sem]⟩) bd ?_
    refine wpAnyH_take (i := 8) (v := .string ⟨#[98, 111, 98]⟩) rfl (by kernel_rfl) (by kernel_rfl) (by kernel_rfl) (fun _ _ _ h => h) (Or.inl ⟨by rfl, fun w b => by have c := (cz w b).2; simp [execOp, go_sem, c]⟩) bd ?_
    refine wpAnyH_take (i := 9) (v := .string ⟨#[98, 111, 98]⟩) rfl (by kernel_rfl) (by kernel_rfl) (by kernel_rfl) (fun _ _ _ h => h) (Or.inl ⟨by rfl, fun w _ => by simp [execOp, go_sem]⟩) bd ?_
    refine wpAnyH_all (rs := [5]) (by kernel_rfl) (by simp) ?_
    intro j hj
    obtain rfl : j = 5 := by simpa using hj
    refine any_callR rfl rfl 65 #[.agg Z, .int .u32 511] (by simp [go_sem]) (MI'.out _) ?_
    rintro e w6 ⟨rfl, k6⟩
    refine ⟨_, rfl, ?_⟩
    have K6 : Kept [R12] w4 w6 := kd4.trans (k6.mono (T := [R12]) (fun i hi => by cases hi)) (fun i hi => Or.inl hi)
    have b6 := (K6.block R15 (block_lt B15'.out) NE').trans B15'.out
    have b126 := (k6.block R12 (block_lt B124.out) (by simp)).trans B124.out
    refine ⟨b6, ?_⟩
    refine wpAnyH_take (i := 10) (v := .agg #[.int .u64 0, .int .u64 3, .string ⟨#[120]⟩, .int .u32 493, .string ⟨#[98, 111, 98]⟩, .string ⟨#[98, 111, 98]⟩, .string ⟨#[98, 111, 98]⟩, .int .u32 0, .int .u32 0, .int .u32 0, .int .u64 0, .int .i64 0, .int .i64 0]) rfl (by kernel_rfl) (by kernel_rfl) (by kernel_rfl) (fun _ _ _ h => h) (Or.inl ⟨by rfl, fun w _ => by simp [execOp, go_sem]⟩) b6 ?_
    refine wpAnyH_all (rs := [11]) (by kernel_rfl) (by simp) ?_
    intro j hj
    obtain rfl : j = 11 := by simpa using hj
    refine any_store8 rfl rfl 46 (.tmp 12) (.tmp 40) R12 #[.int .u64 0, .int .u64 3, .string ⟨#[120]⟩, .int .u32 493, .string ⟨#[98, 111, 98]⟩, .string ⟨#[98, 111, 98]⟩, .string ⟨#[98, 111, 98]⟩, .int .u32 0, .int .u32 0, .int .u32 0, .int .u64 0, .int .i64 0, .int .i64 0] 46 _ rfl (by simp [go_sem]) (by simp [go_sem]) b126 (by kernel_rfl) rfl (by simp [Value.oneCell']) ?_
    obtain ⟨w7, hw7⟩ : ∃ w7, w7 = w6.setRow R12 #[.int .u64 0, .int .u64 3, .string ⟨#[120]⟩, .int .u32 493, .string ⟨#[98, 111, 98]⟩, .string ⟨#[98, 111, 98]⟩, .string ⟨#[98, 111, 98]⟩, .int .u32 0, .int .u32 0, .int .u32 0, .int .u64 0, .int .i64 0, .int .i64 0] := ⟨_, rfl⟩
    have b127 : w7.heap[R12]? = some (.cells #[.int .u64 0, .int .u64 3, .string ⟨#[120]⟩, .int .u32 493, .string ⟨#[98, 111, 98]⟩, .string ⟨#[98, 111, 98]⟩, .string ⟨#[98, 111, 98]⟩, .int .u32 0, .int .u32 0, .int .u32 0, .int .u64 0, .int .i64 0, .int .i64 0] 46 (0, 0)) := by rw [hw7]; exact setRow_heap w6 R12 _ _ _ (0, 0) b126
    have k7 : Kept [R12] w6 w7 := by rw [hw7]; exact ⟨rfl, rfl, rfl, by simp [World.setRow], fun k _ hk => setRow_other w6 R12 k _ (by simpa using hk)⟩
    rw [← hw7]
    have b7 := (k7.block R15 (block_lt b6) NE').trans b6
    refine ⟨b7, ?_⟩
    refine wpAnyH_all (rs := [12]) (by kernel_rfl) (by simp) ?_
    intro j hj
    obtain rfl : j = 12 := by simpa using hj
    refine any_value8 rfl rfl (.int .i64 0) (by simp [execOp, go_sem]) ?_
    refine ⟨b7, ?_⟩
    refine wpAnyH_done (by kernel_rfl) ?_ _
    have KE : Kept [] w w7 := K4.out.trans (K6.trans k7 (fun i hi => Or.inl hi)) (fun i hi => Or.inr (by rw [List.mem_singleton] at hi; subst hi; exact NR.out))
    have hl := run_loadVar_row (P := Tryz.prog) w7 R12 46 46 #[.int .u64 0, .int .u64 3, .string ⟨#[120]⟩, .int .u32 493, .string ⟨#[98, 111, 98]⟩, .string ⟨#[98, 111, 98]⟩, .string ⟨#[98, 111, 98]⟩, .int .u32 0, .int .u32 0, .int .u32 0, .int .u64 0, .int .i64 0, .int .i64 0] (0, 0) _ b127 Tryz.underlying46 rfl (by kernel_rfl)
    simp [go_sem]
    go_wp2_with fail
    refine bodyPost_ret (v := .tuple #[.agg #[.int .u64 0, .int .u64 3, .string ⟨#[120]⟩, .int .u32 493, .string ⟨#[98, 111, 98]⟩, .string ⟨#[98, 111, 98]⟩, .string ⟨#[98, 111, 98]⟩, .int .u32 0, .int .u32 0, .int .u32 0, .int .u64 0, .int .i64 0, .int .i64 0], .int .i64 0]) (by simp [results, Tryz.results35, asAddr, hl]) rfl ⟨rfl, KE⟩
end
end Ru
end Go.Proofs.YteeheapenfklcaaGreatDoor
