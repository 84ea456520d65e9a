/- What New of nodes refuses; the reference's New, its Node; ofConfig. -/
import Derived.Test.YtihkldcdikbinaaNew
namespace Go.Proofs.Ytihkldcdikbinaa
set_option linter.unusedVariables false
open Go.RowKit
namespace Nd
open Go.Proofs.Ytihkldcdikbinaa.Utf Go.Proofs.Ytihkldcdikbinaa.Txt Go.PlainAid Go.Proofs.Ytihkldcdikbinaa.Mpf

theorem ruser_any (w : World) (s : ByteArray) (hs : s.size ≤ 140737488355328) : Calls Try.prog 36 #[.string s] w fun e w' => e = .returned (.bool (userOk s)) ∧ Kept [] w w' := by
  have GOOD := Lib.hid (fun w => rgood_any s w hs)
  obtain ⟨q, hq⟩ : ∃ q, q = good s := ⟨_, rfl⟩
  have hv : userOk s = (decide (s.size ≤ 32) && q) := by unfold userOk; rw [hq]
  rw [hv]
  rw [← hq] at GOOD
  clear hq hv
  cases q
  · have e : (decide (s.size ≤ 32) && false) = false := Bool.and_false _
    rw [e]
    go_enter Try.func36, Try.ntmps36
    go_wp2_with (go_at_call 62; refine (GOOD.out _).mono ?_; rintro e w2 ⟨rfl, rfl⟩)
    go_ret
    exact ⟨rfl, Kept.refl _ _⟩
  · by_cases h : s.size ≤ 32
    · have hi : (s.size : Int) ≤ 32 := by omega
      rw [decide_eq_true h]
      go_enter Try.func36, Try.ntmps36
      go_wp2_with (go_at_call 62; refine (GOOD.out _).mono ?_; rintro e w2 ⟨rfl, rfl⟩)
      go_ret
      exact ⟨rfl, Kept.refl _ _⟩
    · have hi : ¬ (s.size : Int) ≤ 32 := by omega
      rw [decide_eq_false h, Bool.false_and]
      have hi2 : decide ((s.size : Int) ≤ 32) = false := decide_eq_false hi
      go_enter Try.func36, Try.ntmps36
      go_wp2_with (go_at_call 62; refine (GOOD.out _).mono ?_; rintro e w2 ⟨rfl, rfl⟩)
      go_ret
      exact ⟨rfl, Kept.refl _ _⟩
set_option maxRecDepth 100000 in
theorem New_errA (w : World) (V : Array Value) (ow gr : ByteArray) (perm : Nat) (n : Int) (v1 : V[1]? = some (.string ow)) (v2 : V[2]? = some (.string gr)) (v3 : V[3]? = some (.int .u32 perm)) (v8 : V[8]? = some (.int .i64 n)) (hs1 : ow.size ≤ 140737488355328) (hs2 : gr.size ≤ 140737488355328) (h : n < 1) :
    Calls Try.prog 13 #[.agg V] w fun e w' => e = .returned (.tuple #[.pointer none, .int .i64 1]) ∧ Kept [] w w' := by
  have B0 : Hid (Bx (w.alloc (.cells V 32)) w.heap.size 32 V) := Bx.made _ _ _
  have c1 := B0.out.cell 1 v1
  have c2 := B0.out.cell 2 v2
  have c3 := B0.out.cell 3 v3
  have c8 := B0.out.cell 8 v8
  have BO := Lib.hid (fun W => isSomebody_any W ow hs1)
  have BG := Lib.hid (fun W => isSomebody_any W gr hs2)
  have v2' := Lib.hid v2
  have d1 : decide (n < 1) = true := decide_eq_true h
  clear v1 v2 v3 v8
  go_enter Try.func13, Try.ntmps13
  go_wp2_with (fail)
  go_ret2
  exact ⟨rfl, (Kept.refl [] w).alloc _⟩
set_option maxRecDepth 100000 in
theorem New_errB (w : World) (V : Array Value) (ow gr : ByteArray) (perm : Nat) (n : Int) (v1 : V[1]? = some (.string ow)) (v2 : V[2]? = some (.string gr)) (v3 : V[3]? = some (.int .u32 perm)) (v8 : V[8]? = some (.int .i64 n)) (hs1 : ow.size ≤ 140737488355328) (hs2 : gr.size ≤ 140737488355328) (h0 : 1 ≤ n) (h : 4096 < n) :
    Calls Try.prog 13 #[.agg V] w fun e w' => e = .returned (.tuple #[.pointer none, .int .i64 1]) ∧ Kept [] w w' := by
  have B0 : Hid (Bx (w.alloc (.cells V 32)) w.heap.size 32 V) := Bx.made _ _ _
  have c1 := B0.out.cell 1 v1
  have c2 := B0.out.cell 2 v2
  have c3 := B0.out.cell 3 v3
  have c8 := B0.out.cell 8 v8
  have BO := Lib.hid (fun W => isSomebody_any W ow hs1)
  have BG := Lib.hid (fun W => isSomebody_any W gr hs2)
  have v2' := Lib.hid v2
  have d1 : decide (n < 1) = false := decide_eq_false (by omega)
  have d2 : decide ((4096 : Int) < n) = true := decide_eq_true h
  clear v1 v2 v3 v8
  go_enter Try.func13, Try.ntmps13
  go_wp2_with (fail)
  go_ret2
  exact ⟨rfl, (Kept.refl [] w).alloc _⟩
set_option maxRecDepth 100000 in
theorem New_errC (w : World) (V : Array Value) (ow gr : ByteArray) (perm : Nat) (n : Int) (v1 : V[1]? = some (.string ow)) (v2 : V[2]? = some (.string gr)) (v3 : V[3]? = some (.int .u32 perm)) (v8 : V[8]? = some (.int .i64 n)) (hs1 : ow.size ≤ 140737488355328) (hs2 : gr.size ≤ 140737488355328) (h0 : 1 ≤ n) (h1 : n ≤ 4096) (hperm : ¬ bits .andNot .u32 (perm : Int) 511 = 0) :
    Calls Try.prog 13 #[.agg V] w fun e w' => e = .returned (.tuple #[.pointer none, .int .i64 1]) ∧ Kept [] w w' := by
  have B0 : Hid (Bx (w.alloc (.cells V 32)) w.heap.size 32 V) := Bx.made _ _ _
  have c1 := B0.out.cell 1 v1
  have c2 := B0.out.cell 2 v2
  have c3 := B0.out.cell 3 v3
  have c8 := B0.out.cell 8 v8
  have BO := Lib.hid (fun W => isSomebody_any W ow hs1)
  have BG := Lib.hid (fun W => isSomebody_any W gr hs2)
  have v2' := Lib.hid v2
  have d1 : decide (n < 1) = false := decide_eq_false (by omega)
  have d2 : decide ((4096 : Int) < n) = false := decide_eq_false (by omega)
  have hp2 : (bits .andNot .u32 (perm : Int) 511 == 0) = false := beq_eq_false_iff_ne.2 hperm
  clear v1 v2 v3 v8
  go_enter Try.func13, Try.ntmps13
  go_wp2_with (fail)
  go_ret2
  exact ⟨rfl, (Kept.refl [] w).alloc _⟩
set_option maxRecDepth 100000 in
theorem New_errD (w : World) (V : Array Value) (ow gr : ByteArray) (perm : Nat) (n : Int) (v1 : V[1]? = some (.string ow)) (v2 : V[2]? = some (.string gr)) (v3 : V[3]? = some (.int .u32 perm)) (v8 : V[8]? = some (.int .i64 n)) (hs1 : ow.size ≤ 140737488355328) (hs2 : gr.size ≤ 140737488355328) (h0 : 1 ≤ n) (h1 : n ≤ 4096) (hperm : bits .andNot .u32 (perm : Int) 511 = 0) (ho : bodyOk ow = false) :
    Calls Try.prog 13 #[.agg V] w fun e w' => e = .returned (.tuple #[.pointer none, .int .i64 1]) ∧ Kept [] w w' := by
  have B0 : Hid (Bx (w.alloc (.cells V 32)) w.heap.size 32 V) := Bx.made _ _ _
  have c1 := B0.out.cell 1 v1
  have c2 := B0.out.cell 2 v2
  have c3 := B0.out.cell 3 v3
  have c8 := B0.out.cell 8 v8
  have BO := Lib.hid (fun W => isSomebody_any W ow hs1)
  have BG := Lib.hid (fun W => isSomebody_any W gr hs2)
  have v2' := Lib.hid v2
  have d1 : decide (n < 1) = false := decide_eq_false (by omega)
  have d2 : decide ((4096 : Int) < n) = false := decide_eq_false (by omega)
  simp only [ho] at BO
  clear v1 v2 v3 v8
  go_enter Try.func13, Try.ntmps13
  go_wp2_with ((go_at_call 34; ((with_reducible refine (BO.out _).mono ?_)); rintro e w1 ⟨rfl, k1⟩; have B1 := Lib.hid (B0.out.kept k1 (by simp)); have c12 := B1.out.cell 2 v2'.out))
  go_ret2
  exact ⟨rfl, ((Kept.refl [] w).alloc _).trans k1 (fun i hi => by cases hi)⟩
set_option maxRecDepth 100000 in
theorem New_errE (w : World) (V : Array Value) (ow gr : ByteArray) (perm : Nat) (n : Int) (v1 : V[1]? = some (.string ow)) (v2 : V[2]? = some (.string gr)) (v3 : V[3]? = some (.int .u32 perm)) (v8 : V[8]? = some (.int .i64 n)) (hs1 : ow.size ≤ 140737488355328) (hs2 : gr.size ≤ 140737488355328) (h0 : 1 ≤ n) (h1 : n ≤ 4096) (hperm : bits .andNot .u32 (perm : Int) 511 = 0) (ho : bodyOk ow = true) (hgr : bodyOk gr = false) :
    Calls Try.prog 13 #[.agg V] w fun e w' => e = .returned (.tuple #[.pointer none, .int .i64 1]) ∧ Kept [] w w' := by
  have B0 : Hid (Bx (w.alloc (.cells V 32)) w.heap.size 32 V) := Bx.made _ _ _
  have c1 := B0.out.cell 1 v1
  have c2 := B0.out.cell 2 v2
  have c3 := B0.out.cell 3 v3
  have c8 := B0.out.cell 8 v8
  have BO := Lib.hid (fun W => isSomebody_any W ow hs1)
  have BG := Lib.hid (fun W => isSomebody_any W gr hs2)
  have v2' := Lib.hid v2
  have d1 : decide (n < 1) = false := decide_eq_false (by omega)
  have d2 : decide ((4096 : Int) < n) = false := decide_eq_false (by omega)
  simp only [ho] at BO
  simp only [hgr] at BG
  clear v1 v2 v3 v8
  go_enter Try.func13, Try.ntmps13
  go_wp2_with (first | (go_at_call 34; ((with_reducible refine (BO.out _).mono ?_)); rintro e w1 ⟨rfl, k1⟩; have B1 := Lib.hid (B0.out.kept k1 (by simp)); have c12 := B1.out.cell 2 v2'.out) | (go_at_call 34; ((with_reducible refine (BG.out _).mono ?_)); rintro e w2 ⟨rfl, k2⟩))
  go_ret2
  exact ⟨rfl, (((Kept.refl [] w).alloc _).trans k1 (fun i hi => by cases hi)).trans k2 (fun i hi => by cases hi)⟩
set_option maxRecDepth 100000 in
theorem rNew_errA (w : World) (V : Array Value) (ow gr : ByteArray) (perm : Nat) (n : Int) (v1 : V[1]? = some (.string ow)) (v2 : V[2]? = some (.string gr)) (v3 : V[3]? = some (.int .u32 perm)) (v8 : V[8]? = some (.int .i64 n)) (hs1 : ow.size ≤ 140737488355328) (hs2 : gr.size ≤ 140737488355328) (h : n < 1) :
    Calls Try.prog 14 #[.agg V] w fun e w' => e = .returned (.tuple #[.pointer none, .int .i64 1]) ∧ Kept [] w w' := by
  have B0 : Hid (Bx (w.alloc (.cells V 32)) w.heap.size 32 V) := Bx.made _ _ _
  have c1 := B0.out.cell 1 v1
  have U1 := Lib.hid (fun W => ruser_any W ow hs1)
  have U2 := Lib.hid (fun W => ruser_any W gr hs2)
  have v1' := Lib.hid v1
  have v2' := Lib.hid v2
  have v3' := Lib.hid v3
  have v8' := Lib.hid v8
  generalize userOk ow = q1 at U1
  generalize userOk gr = q2 at U2
  have d1 : decide (n < 1) = true := decide_eq_true h
  clear v1 v2 v3 v8
  go_enter Try.func14, Try.ntmps14
  go_wp2_with (first | (go_at_call 36; ((with_reducible refine (U2.out _).mono ?_)); rintro e w2 ⟨rfl, k2⟩; have B2 := Lib.hid (B1.out.kept k2 (by simp)); have c21 := B2.out.cell 1 v1'.out; have c22 := B2.out.cell 2 v2'.out; have c23 := B2.out.cell 3 v3'.out; have c28 := B2.out.cell 8 v8'.out) | (go_at_call 36; ((with_reducible refine (U1.out _).mono ?_)); rintro e w1 ⟨rfl, k1⟩; have B1 := Lib.hid (B0.out.kept k1 (by simp)); have c12 := B1.out.cell 2 v2'.out))
  go_ret2
  exact ⟨rfl, (((Kept.refl [] w).alloc _).trans k1 (fun i hi => by cases hi)).trans k2 (fun i hi => by cases hi)⟩
set_option maxRecDepth 100000 in
theorem rNew_errB (w : World) (V : Array Value) (ow gr : ByteArray) (perm : Nat) (n : Int) (v1 : V[1]? = some (.string ow)) (v2 : V[2]? = some (.string gr)) (v3 : V[3]? = some (.int .u32 perm)) (v8 : V[8]? = some (.int .i64 n)) (hs1 : ow.size ≤ 140737488355328) (hs2 : gr.size ≤ 140737488355328) (h0 : 1 ≤ n) (h : 4096 < n) :
    Calls Try.prog 14 #[.agg V] w fun e w' => e = .returned (.tuple #[.pointer none, .int .i64 1]) ∧ Kept [] w w' := by
  have B0 : Hid (Bx (w.alloc (.cells V 32)) w.heap.size 32 V) := Bx.made _ _ _
  have c1 := B0.out.cell 1 v1
  have U1 := Lib.hid (fun W => ruser_any W ow hs1)
  have U2 := Lib.hid (fun W => ruser_any W gr hs2)
  have v1' := Lib.hid v1
  have v2' := Lib.hid v2
  have v3' := Lib.hid v3
  have v8' := Lib.hid v8
  generalize userOk ow = q1 at U1
  generalize userOk gr = q2 at U2
  have d1 : decide (n < 1) = false := decide_eq_false (by omega)
  have d2 : decide ((4096 : Int) < n) = true := decide_eq_true h
  clear v1 v2 v3 v8
  go_enter Try.func14, Try.ntmps14
  go_wp2_with (first | (go_at_call 36; ((with_reducible refine (U2.out _).mono ?_)); rintro e w2 ⟨rfl, k2⟩; have B2 := Lib.hid (B1.out.kept k2 (by simp)); have c21 := B2.out.cell 1 v1'.out; have c22 := B2.out.cell 2 v2'.out; have c23 := B2.out.cell 3 v3'.out; have c28 := B2.out.cell 8 v8'.out) | (go_at_call 36; ((with_reducible refine (U1.out _).mono ?_)); rintro e w1 ⟨rfl, k1⟩; have B1 := Lib.hid (B0.out.kept k1 (by simp)); have c12 := B1.out.cell 2 v2'.out))
  go_ret2
  exact ⟨rfl, (((Kept.refl [] w).alloc _).trans k1 (fun i hi => by cases hi)).trans k2 (fun i hi => by cases hi)⟩
set_option maxRecDepth 100000 in
theorem rNew_errC (w : World) (V : Array Value) (ow gr : ByteArray) (perm : Nat) (n : Int) (v1 : V[1]? = some (.string ow)) (v2 : V[2]? = some (.string gr)) (v3 : V[3]? = some (.int .u32 perm)) (v8 : V[8]? = some (.int .i64 n)) (hs1 : ow.size ≤ 140737488355328) (hs2 : gr.size ≤ 140737488355328) (h0 : 1 ≤ n) (h1 : n ≤ 4096) (hperm : 511 < perm) :
    Calls Try.prog 14 #[.agg V] w fun e w' => e = .returned (.tuple #[.pointer none, .int .i64 1]) ∧ Kept [] w w' := by
  have B0 : Hid (Bx (w.alloc (.cells V 32)) w.heap.size 32 V) := Bx.made _ _ _
  have c1 := B0.out.cell 1 v1
  have U1 := Lib.hid (fun W => ruser_any W ow hs1)
  have U2 := Lib.hid (fun W => ruser_any W gr hs2)
  have v1' := Lib.hid v1
  have v2' := Lib.hid v2
  have v3' := Lib.hid v3
  have v8' := Lib.hid v8
  generalize userOk ow = q1 at U1
  generalize userOk gr = q2 at U2
  have d1 : decide (n < 1) = false := decide_eq_false (by omega)
  have d2 : decide ((4096 : Int) < n) = false := decide_eq_false (by omega)
  have d3 : decide ((511 : Int) < (perm : Int)) = true := decide_eq_true (by omega)
  clear v1 v2 v3 v8
  go_enter Try.func14, Try.ntmps14
  go_wp2_with (first | (go_at_call 36; ((with_reducible refine (U2.out _).mono ?_)); rintro e w2 ⟨rfl, k2⟩; have B2 := Lib.hid (B1.out.kept k2 (by simp)); have c21 := B2.out.cell 1 v1'.out; have c22 := B2.out.cell 2 v2'.out; have c23 := B2.out.cell 3 v3'.out; have c28 := B2.out.cell 8 v8'.out) | (go_at_call 36; ((with_reducible refine (U1.out _).mono ?_)); rintro e w1 ⟨rfl, k1⟩; have B1 := Lib.hid (B0.out.kept k1 (by simp)); have c12 := B1.out.cell 2 v2'.out))
  go_ret2
  exact ⟨rfl, (((Kept.refl [] w).alloc _).trans k1 (fun i hi => by cases hi)).trans k2 (fun i hi => by cases hi)⟩
set_option maxRecDepth 100000 in
theorem rNew_errD (w : World) (V : Array Value) (ow gr : ByteArray) (perm : Nat) (n : Int) (v1 : V[1]? = some (.string ow)) (v2 : V[2]? = some (.string gr)) (v3 : V[3]? = some (.int .u32 perm)) (v8 : V[8]? = some (.int .i64 n)) (hs1 : ow.size ≤ 140737488355328) (hs2 : gr.size ≤ 140737488355328) (h0 : 1 ≤ n) (h1 : n ≤ 4096) (hperm : perm ≤ 511) (ho : userOk ow = false) :
    Calls Try.prog 14 #[.agg V] w fun e w' => e = .returned (.tuple #[.pointer none, .int .i64 1]) ∧ Kept [] w w' := by
  have B0 : Hid (Bx (w.alloc (.cells V 32)) w.heap.size 32 V) := Bx.made _ _ _
  have c1 := B0.out.cell 1 v1
  have U1 := Lib.hid (fun W => ruser_any W ow hs1)
  have U2 := Lib.hid (fun W => ruser_any W gr hs2)
  have v1' := Lib.hid v1
  have v2' := Lib.hid v2
  have v3' := Lib.hid v3
  have v8' := Lib.hid v8
  simp only [ho] at U1
  generalize userOk gr = q2 at U2
  have d1 : decide (n < 1) = false := decide_eq_false (by omega)
  have d2 : decide ((4096 : Int) < n) = false := decide_eq_false (by omega)
  have d3 : decide ((511 : Int) < (perm : Int)) = false := decide_eq_false (by omega)
  clear v1 v2 v3 v8
  go_enter Try.func14, Try.ntmps14
  go_wp2_with (first | (go_at_call 36; ((with_reducible refine (U2.out _).mono ?_)); rintro e w2 ⟨rfl, k2⟩; have B2 := Lib.hid (B1.out.kept k2 (by simp)); have c21 := B2.out.cell 1 v1'.out; have c22 := B2.out.cell 2 v2'.out; have c23 := B2.out.cell 3 v3'.out; have c28 := B2.out.cell 8 v8'.out) | (go_at_call 36; ((with_reducible refine (U1.out _).mono ?_)); rintro e w1 ⟨rfl, k1⟩; have B1 := Lib.hid (B0.out.kept k1 (by simp)); have c12 := B1.out.cell 2 v2'.out))
  go_ret2
  exact ⟨rfl, (((Kept.refl [] w).alloc _).trans k1 (fun i hi => by cases hi)).trans k2 (fun i hi => by cases hi)⟩
set_option maxRecDepth 100000 in
theorem rNew_errE (w : World) (V : Array Value) (ow gr : ByteArray) (perm : Nat) (n : Int) (v1 : V[1]? = some (.string ow)) (v2 : V[2]? = some (.string gr)) (v3 : V[3]? = some (.int .u32 perm)) (v8 : V[8]? = some (.int .i64 n)) (hs1 : ow.size ≤ 140737488355328) (hs2 : gr.size ≤ 140737488355328) (h0 : 1 ≤ n) (h1 : n ≤ 4096) (hperm : perm ≤ 511) (ho : userOk ow = true) (hg : userOk gr = false) :
    Calls Try.prog 14 #[.agg V] w fun e w' => e = .returned (.tuple #[.pointer none, .int .i64 1]) ∧ Kept [] w w' := by
  have B0 : Hid (Bx (w.alloc (.cells V 32)) w.heap.size 32 V) := Bx.made _ _ _
  have c1 := B0.out.cell 1 v1
  have U1 := Lib.hid (fun W => ruser_any W ow hs1)
  have U2 := Lib.hid (fun W => ruser_any W gr hs2)
  have v1' := Lib.hid v1
  have v2' := Lib.hid v2
  have v3' := Lib.hid v3
  have v8' := Lib.hid v8
  simp only [ho] at U1
  simp only [hg] at U2
  have d1 : decide (n < 1) = false := decide_eq_false (by omega)
  have d2 : decide ((4096 : Int) < n) = false := decide_eq_false (by omega)
  have d3 : decide ((511 : Int) < (perm : Int)) = false := decide_eq_false (by omega)
  clear v1 v2 v3 v8
  go_enter Try.func14, Try.ntmps14
  go_wp2_with (first | (go_at_call 36; ((with_reducible refine (U2.out _).mono ?_)); rintro e w2 ⟨rfl, k2⟩; have B2 := Lib.hid (B1.out.kept k2 (by simp)); have c21 := B2.out.cell 1 v1'.out; have c22 := B2.out.cell 2 v2'.out; have c23 := B2.out.cell 3 v3'.out; have c28 := B2.out.cell 8 v8'.out) | (go_at_call 36; ((with_reducible refine (U1.out _).mono ?_)); rintro e w1 ⟨rfl, k1⟩; have B1 := Lib.hid (B0.out.kept k1 (by simp)); have c12 := B1.out.cell 2 v2'.out))
  go_ret2
  exact ⟨rfl, (((Kept.refl [] w).alloc _).trans k1 (fun i hi => by cases hi)).trans k2 (fun i hi => by cases hi)⟩
set_option maxRecDepth 100000 in
theorem rNew_errF (w : World) (V : Array Value) (ow gr : ByteArray) (perm : Nat) (n : Int) (v1 : V[1]? = some (.string ow)) (v2 : V[2]? = some (.string gr)) (v3 : V[3]? = some (.int .u32 perm)) (v8 : V[8]? = some (.int .i64 n)) (hs1 : ow.size ≤ 140737488355328) (hs2 : gr.size ≤ 140737488355328) (h0 : 1 ≤ n) (h1 : n ≤ 4096) (hperm : perm ≤ 511) (ho : userOk ow = true) (hg : userOk gr = true) (he : ow.toList = []) :
    Calls Try.prog 14 #[.agg V] w fun e w' => e = .returned (.tuple #[.pointer none, .int .i64 1]) ∧ Kept [] w w' := by
  have B0 : Hid (Bx (w.alloc (.cells V 32)) w.heap.size 32 V) := Bx.made _ _ _
  have c1 := B0.out.cell 1 v1
  have U1 := Lib.hid (fun W => ruser_any W ow hs1)
  have U2 := Lib.hid (fun W => ruser_any W gr hs2)
  have v1' := Lib.hid v1
  have v2' := Lib.hid v2
  have v3' := Lib.hid v3
  have v8' := Lib.hid v8
  simp only [ho] at U1
  simp only [hg] at U2
  have d1 : decide (n < 1) = false := decide_eq_false (by omega)
  have d2 : decide ((4096 : Int) < n) = false := decide_eq_false (by omega)
  have d3 : decide ((511 : Int) < (perm : Int)) = false := decide_eq_false (by omega)
  have e1 : ow.toList.isEmpty = true := by rw [he]; rfl
  clear v1 v2 v3 v8
  go_enter Try.func14, Try.ntmps14
  go_wp2_with (first | (go_at_call 36; ((with_reducible refine (U2.out _).mono ?_)); rintro e w2 ⟨rfl, k2⟩; have B2 := Lib.hid (B1.out.kept k2 (by simp)); have c21 := B2.out.cell 1 v1'.out; have c22 := B2.out.cell 2 v2'.out; have c23 := B2.out.cell 3 v3'.out; have c28 := B2.out.cell 8 v8'.out) | (go_at_call 36; ((with_reducible refine (U1.out _).mono ?_)); rintro e w1 ⟨rfl, k1⟩; have B1 := Lib.hid (B0.out.kept k1 (by simp)); have c12 := B1.out.cell 2 v2'.out))
  go_ret2
  exact ⟨rfl, (((Kept.refl [] w).alloc _).trans k1 (fun i hi => by cases hi)).trans k2 (fun i hi => by cases hi)⟩
set_option maxRecDepth 100000 in
theorem rNew_errG (w : World) (V : Array Value) (ow gr : ByteArray) (perm : Nat) (n : Int) (v1 : V[1]? = some (.string ow)) (v2 : V[2]? = some (.string gr)) (v3 : V[3]? = some (.int .u32 perm)) (v8 : V[8]? = some (.int .i64 n)) (hs1 : ow.size ≤ 140737488355328) (hs2 : gr.size ≤ 140737488355328) (h0 : 1 ≤ n) (h1 : n ≤ 4096) (hperm : perm ≤ 511) (ho : userOk ow = true) (hg : userOk gr = true) (he : ¬ ow.toList = []) (hf : gr.toList = []) :
    Calls Try.prog 14 #[.agg V] w fun e w' => e = .returned (.tuple #[.pointer none, .int .i64 1]) ∧ Kept [] w w' := by
  have B0 : Hid (Bx (w.alloc (.cells V 32)) w.heap.size 32 V) := Bx.made _ _ _
  have c1 := B0.out.cell 1 v1
  have U1 := Lib.hid (fun W => ruser_any W ow hs1)
  have U2 := Lib.hid (fun W => ruser_any W gr hs2)
  have v1' := Lib.hid v1
  have v2' := Lib.hid v2
  have v3' := Lib.hid v3
  have v8' := Lib.hid v8
  simp only [ho] at U1
  simp only [hg] at U2
  have d1 : decide (n < 1) = false := decide_eq_false (by omega)
  have d2 : decide ((4096 : Int) < n) = false := decide_eq_false (by omega)
  have d3 : decide ((511 : Int) < (perm : Int)) = false := decide_eq_false (by omega)
  have e1 : ow.toList.isEmpty = false := by simpa using he
  have e0 : (ow.toList == []) = false := by simpa using he
  have e2 : gr.toList.isEmpty = true := by rw [hf]; rfl
  clear v1 v2 v3 v8
  go_enter Try.func14, Try.ntmps14
  go_wp2_with (first | (go_at_call 36; ((with_reducible refine (U2.out _).mono ?_)); rintro e w2 ⟨rfl, k2⟩; have B2 := Lib.hid (B1.out.kept k2 (by simp)); have c21 := B2.out.cell 1 v1'.out; have c22 := B2.out.cell 2 v2'.out; have c23 := B2.out.cell 3 v3'.out; have c28 := B2.out.cell 8 v8'.out) | (go_at_call 36; ((with_reducible refine (U1.out _).mono ?_)); rintro e w1 ⟨rfl, k1⟩; have B1 := Lib.hid (B0.out.kept k1 (by simp)); have c12 := B1.out.cell 2 v2'.out))
  go_ret2
  exact ⟨rfl, (((Kept.refl [] w).alloc _).trans k1 (fun i hi => by cases hi)).trans k2 (fun i hi => by cases hi)⟩
end Nd
end Go.Proofs.Ytihkldcdikbinaa
