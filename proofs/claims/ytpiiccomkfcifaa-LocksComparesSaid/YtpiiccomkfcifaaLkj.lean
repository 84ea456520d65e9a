/- locks: letIn where one is let in. -/
import Derived.Test.YtpiiccomkfcifaaLki
namespace Go.Proofs.Ytpiiccomkfcifaa
set_option linter.unusedVariables false
open Go.RowKit
namespace Lk
open Go.Proofs.Ytpiiccomkfcifaa.Mpf Go.PlainAid
section
variable {Ba : Nat} {w : World} {p b1 b2 b3 k bm : Nat} {st : St} {s : Value} {q : List (Nat × Bool)} {G : Nat → Option Value} {ng : Nat} {H : Nat → Option Value} {nh : Nat}
theorem eqlNil (w : World) : (binOp .eql 82 (.map none) (.map none)).run Try.prog w = .ok (.bool true) w := by kernel_rfl
theorem upd_unit (v : Option Value) (f : Unit → Option Value) : upd f () v = fun _ => v := by funext u; cases u; rfl
/-- One more holds the lock, and waits no more. -/
theorem LT.let1 {w2 w3 w4 w4' w5 w6 : World} {x n4 hh : Nat} (h : LT Ba w2 p b1 b2 b3 k bm st s q G ng H nh) (hG : G x = none) (k23 : Kept [] w2 w3) (m4 : Mp IK w4 b3 n4 (upd H x none)) (k34 : Kept [b3] w3 w4) (k45 : Kept [] w4 w4')
    (m5 : Mp IK w5 b2 (ng + 1) (upd G x (some (.map (some hh))))) (k5 : Kept [b2] w4' w5) (m6 : Mp LK w6 hh 1 (upd (fun _ => none) () (some unitV))) (k6 : Kept [hh] w5 w6) (hf : w4.heap.size ≤ hh) :
    LT Ba w6 p b1 b2 b3 k bm st s q (upd G x (some (.map (some hh)))) (ng + 1) (upd H x none) n4 ∧ Kept [b2, b3] w2 w6 := by
  have hs := h.sep
  simp only [List.nodup_cons, List.mem_cons, List.not_mem_nil, or_false, not_or, not_false_eq_true, List.nodup_nil, and_true] at hs
  obtain ⟨⟨s12, s13, s1m⟩, ⟨s23, s2m⟩, s3m⟩ := hs
  have z23 := k23.size
  have z34 := k34.size
  have hf2 : w2.heap.size ≤ hh := by omega
  have K24 : Kept [b2, b3] w2 w4 := (k23.mono (fun i hi => by cases hi) : Kept [b2, b3] w2 w3).trans k34 (fun i hi => Or.inl (by simp at hi; simp [hi]))
  have K25 : Kept [b2, b3] w2 w5 := (K24.trans k45 (fun i hi => by cases hi)).trans k5 (fun i hi => Or.inl (by simp at hi; simp [hi]))
  have K : Kept [b2, b3] w2 w6 := K25.trans k6 (fun i hi => Or.inr (by simp at hi; omega))
  have ns : ∀ {i : Nat}, i ≠ b2 → i ≠ b3 → i ∉ [b2, b3] := fun {i} e1 e2 hm => by
    simp only [List.mem_cons, List.not_mem_nil, or_false] at hm
    exact hm.elim e1 e2
  refine ⟨⟨Bx.kept h.tab K (ns (fun e => h.hld.ne h.tab e.symm) (fun e => h.wts.ne h.tab e.symm)), h.lks.kept K (ns s12 s13), h.lk.kept K (ns (fun e => h.hld.ne h.lk e.symm) (fun e => h.wts.ne h.lk e.symm)), h.hol.kept K (ns (fun e => s2m e.symm) (fun e => s3m e.symm)), h.row.kept K (fun g hg => ns (mp_ne_own h.hld h.row g hg) (mp_ne_own h.wts h.row g hg)), ?_, ?_, ?_, ?_, h.sep, ?_, ?_, h.lo, h.lor, ?_⟩, K⟩
  · exact m5.kept k6 (by have := h.hld.lt; simp; omega)
  · intro y v hy
    by_cases e : y = x
    · subst e
      rw [upd_same] at hy
      cases hy
      exact ⟨hh, rfl, by rw [upd_unit] at m6; exact m6⟩
    · rw [upd_other _ _ e] at hy
      obtain ⟨b, rfl, hb⟩ := h.own y v hy
      have hfar := h.far y b hy
      simp only [List.mem_cons, List.not_mem_nil, or_false, not_or] at hfar
      exact ⟨b, rfl, hb.kept K (ns hfar.2.1 hfar.2.2.1)⟩
  · exact ((m4.kept k45 (by simp)).kept k5 (by simp; exact fun e => s23 e.symm)).kept k6 (by have := h.wts.lt; simp; omega)
  · intro y v hy
    by_cases e : y = x
    · subst e; rw [upd_same] at hy; cases hy
    · rw [upd_other _ _ e] at hy; exact h.nv y v hy
  · intro y b hy
    by_cases e : y = x
    · subst e
      rw [upd_same] at hy
      simp only [Option.some.injEq, Value.map.injEq] at hy
      subst hy
      have l1 := h.lks.lt; have l2 := h.hld.lt; have l3 := h.wts.lt; have l4 := h.hol.lt
      simp only [List.mem_cons, List.not_mem_nil, or_false, not_or]
      omega
    · rw [upd_other _ _ e] at hy; exact h.far y b hy
  · have lt : ∀ y b, G y = some (.map (some b)) → b < w2.heap.size := fun y b hy => by
      obtain ⟨b', e, hb⟩ := h.own y _ hy
      simp only [Value.map.injEq, Option.some.injEq] at e
      subst e
      exact hb.lt
    intro y z b hy hz
    by_cases e1 : y = x
    · by_cases e2 : z = x
      · exact e1.trans e2.symm
      · subst e1
        rw [upd_same] at hy
        simp only [Option.some.injEq, Value.map.injEq] at hy
        subst hy
        rw [upd_other _ _ e2] at hz
        have := lt _ _ hz
        omega
    · rw [upd_other _ _ e1] at hy
      by_cases e2 : z = x
      · subst e2
        rw [upd_same] at hz
        simp only [Option.some.injEq, Value.map.injEq] at hz
        subst hz
        have := lt _ _ hy
        omega
      · rw [upd_other _ _ e2] at hz
        exact h.inj y z b hy hz
  · intro y b hy
    by_cases e : y = x
    · subst e
      rw [upd_same] at hy
      simp only [Option.some.injEq, Value.map.injEq] at hy
      subst hy
      have := h.lo.1
      have := Bx.lt h.tab
      omega
    · rw [upd_other _ _ e] at hy; exact h.log y b hy
def LetOut1 (Ba : Nat) (w : World) (p b1 b2 b3 k bm : Nat) (st : St) (x : Nat × Bool) (q : List (Nat × Bool)) (G : Nat → Option Value) (ng : Nat) (H : Nat → Option Value) (nh : Nat) (e : Ending) (w' : World) : Prop :=
  ∃ s1 s2 hh, e = .returned s1 ∧ Ro w' s1 [x] ∧ LT Ba w' p b1 b2 b3 k bm (stN st x) s2 q (upd G x.1 (some (.map (some hh)))) (ng + 1) (upd H x.1 none) (if (H x.1).isSome then nh - 1 else nh) ∧ Kept [k, bm, b2, b3] w w'
/-- The worlds of the one round. -/
theorem let_round {w2 : World} {x : Nat} {b : Bool} (h : LT Ba w2 p b1 b2 b3 k bm st s q G ng H nh) (hG : G x = none) (hx : x < 9223372036854775808) :
    ∃ w4 w5 w6, (Builtin.delete_ #[65, 3] 0 #[.map (some b3), .int .i64 x]).run Try.prog (w2.alloc (.cells #[.int .i64 x, .bool b] 95)).drew = .ok (.tuple #[]) w4 ∧
      (Instr.lookup 64 (.map (some b2)) (.int .i64 x) false).run Try.prog w4.drew = .ok (.map none) w4.drew ∧
      (Instr.mapUpdate 64 (.map (some b2)) (.int .i64 x) (.map (some w4.heap.size))).run Try.prog (w4.drew.drew.alloc (.map #[] 0)) = .ok () w5 ∧
      (Instr.lookup 64 (.map (some b2)) (.int .i64 x) false).run Try.prog w5.drew = .ok (.map (some w4.heap.size)) w5.drew ∧
      (Instr.mapUpdate 82 (.map (some w4.heap.size)) (.agg #[.int .u8 3, .int .i64 0, .int .u64 5]) (.agg #[])).run Try.prog w5.drew = .ok () w6 ∧
      LT Ba w6 p b1 b2 b3 k bm st s q (upd G x (some (.map (some w4.heap.size)))) (ng + 1) (upd H x none) (if (H x).isSome then nh - 1 else nh) ∧ Kept [b2, b3] w2 w6 ∧ w2.heap.size + 1 ≤ w4.heap.size ∧
      Kept [b3] (w2.alloc (.cells #[.int .i64 x, .bool b] 95)) w4 ∧ Kept [b2] w4 w5 := by
  have k23 : Kept [] w2 (w2.alloc (.cells #[.int .i64 x, .bool b] 95)).drew := ((Kept.refl [] w2).alloc _).drew
  have h3 := h.kept0 k23
  obtain ⟨w4, hD, m4, k4, z4⟩ := h3.wts.drop Try.underlying65 (x := x) hx 0
  have hs := h.sep
  simp only [List.nodup_cons, List.mem_cons, List.not_mem_nil, or_false, not_or, not_false_eq_true, List.nodup_nil, and_true] at hs
  obtain ⟨⟨s12, s13, s1m⟩, ⟨s23, s2m⟩, s3m⟩ := hs
  have g4 : Mp IK w4 b2 ng G := h3.hld.kept k4 (by simp; exact s23)
  have l4 := (g4.drew).look Try.underlying64 (zero_map w4.drew) (x := x) hx false
  rw [hG] at l4
  have g4a : Mp IK (w4.drew.drew.alloc (.map #[] 0)) b2 ng G := (g4.drew.drew).alloc _
  obtain ⟨w5, hU5, m5, k5, z5⟩ := g4a.update Try.underlying64 (x := x) hx (.map (some w4.heap.size))
  rw [hG] at m5
  have n4 : Mp LK (w4.drew.drew.alloc (.map #[] 0)) w4.heap.size 0 (fun _ => none) := Mp.made LK w4.drew.drew
  have n5 : Mp LK w5 w4.heap.size 0 (fun _ => none) := n4.kept k5 (by have := g4.lt; simp; omega)
  have l5 := (m5.drew).look Try.underlying64 (zero_map w5.drew) (x := x) hx false
  rw [upd_same] at l5
  obtain ⟨w6, hU6, m6, k6, z6⟩ := (n5.drew).update Try.underlying82 (x := ()) trivial unitV
  have k45 : Kept [] w4 (w4.drew.drew.alloc (.map #[] 0)) := (((Kept.refl [] w4).drew).drew).alloc _
  obtain ⟨T6, K6⟩ := h.let1 (x := x) hG k23 m4 k4 k45 m5 k5 m6 (((Kept.refl _ w5).drew).trans k6 (fun i hi => Or.inl hi)) (Nat.le_refl _)
  refine ⟨w4, w5, w6, hD, l4, hU5, l5, hU6, T6, K6, ?_, ?_, ?_⟩
  · rw [z4]; simp
  · exact (((Kept.refl [b3] _).drew).trans k4 (fun i hi => Or.inl hi))
  · exact (((Kept.refl [b2] w4).drew.drew).alloc _).trans k5 (fun i hi => Or.inl hi)
set_option maxHeartbeats 4000000 in
set_option maxRecDepth 100000 in
theorem letIn_1 {x : Nat} {b : Bool} (h : LT Ba w p b1 b2 b3 k bm st s ((x, b) :: q) G ng H nh) (hq : q.length + 1 ≤ 1000) (hw : ∀ y ∈ (x, b) :: q, y.1 < 9223372036854775808) (h0 : admN st ((x, b) :: q) = 1) (hG : G x = none) :
    Calls Try.prog 46 #[.pointer (some ⟨p, 0, none⟩), aV] w (LetOut1 Ba w p b1 b2 b3 k bm st (x, b) q G ng H nh) := by
  have hl2 := h.lks
  obtain ⟨es, ck, hb, -, -⟩ := hl2
  obtain ⟨A, hA⟩ : ∃ A, A = w.alloc (.cells #[.int .u8 3, .int .i64 0, .int .u64 5] 26) := ⟨_, rfl⟩
  have KA : Hid (Kept [] w A) := by rw [hA]; exact (Kept.refl _ _).alloc _
  have HA := Lib.hid (h.kept0 KA.out)
  have B0 : Hid (Bx A w.heap.size 26 #[.int .u8 3, .int .i64 0, .int .u64 5]) := by rw [hA]; exact Bx.made _ _ _
  have LK1 : ∀ W' : World, W'.heap[b1]? = some (.map es ck) → (Instr.lookup 63 (.map (some b1)) (.agg #[.int .u8 3, .int .i64 0, .int .u64 5]) false).run Try.prog W' = .ok (.pointer (some ⟨k, 0, none⟩)) W' := fun W' hW => (h.lks.of_block (w' := W') (hW.trans hb.symm)).look Try.underlying63 (zero_lock W') (x := ()) trivial false
  have S1 : Hid (A.heap[b1]? = some (.map es ck) ∧ A.cell? ⟨p, 0, none⟩ = some (Value.map (some b1)) ∧ A.cell? ⟨w.heap.size, 0, none⟩ = some (Value.int .u8 3) ∧ A.cell? ⟨w.heap.size, 1, none⟩ = some (Value.int .i64 0) ∧ A.cell? ⟨w.heap.size, 2, none⟩ = some (Value.int .u64 5)) :=
    ⟨(KA.out.block b1 (block_lt hb) (by simp)).trans hb, Bx.cell HA.out.tab 0 rfl, B0.out.cell 0 rfl, B0.out.cell 1 rfl, B0.out.cell 2 rfl⟩
  have NX := Lib.hid (next_any (HA.out.kept0 (Kept.refl [] A).drew).lk (HA.out.kept0 (Kept.refl [] A).drew).hol (HA.out.kept0 (Kept.refl [] A).drew).row hq hw)
  have LTN : Hid (∀ e w2, NextOut A.drew k bm st s ((x, b) :: q) e w2 → ∃ g o c s2, e = .returned (.slice (some ⟨g, o, none⟩) 1 c) ∧ 1 ≤ c ∧ c ≤ 9223372036854775807 ∧ Hid (Ro w2 (.slice (some ⟨g, o, none⟩) 1 c) [(x, b)]) ∧ Hid (LT Ba w2 p b1 b2 b3 k bm (stN st (x, b)) s2 q G ng H nh) ∧ Hid (Kept [k, bm] w w2) ∧ Hid (Bx w2 w.heap.size 26 #[.int .u8 3, .int .i64 0, .int .u64 5]) ∧ (w2.heap[b1]? = some (.map es ck) ∧ w2.cell? ⟨p, 0, none⟩ = some (Value.map (some b1)) ∧ w2.cell? ⟨w.heap.size, 0, none⟩ = some (Value.int .u8 3) ∧ w2.cell? ⟨w.heap.size, 1, none⟩ = some (Value.int .i64 0) ∧ w2.cell? ⟨w.heap.size, 2, none⟩ = some (Value.int .u64 5)) ∧ Hid (w2.cell? ⟨g, o, none⟩ = some (.int .i64 x) ∧ w2.cell? ⟨g, o + 1, none⟩ = some (.bool b))) := by
    rintro e w2 ⟨s1, s2, rfl, r1, r2, r3, r4, r5, r6, -⟩
    rw [h0] at r1 r2 r3 r4
    have r1' : Ro w2 s1 [(x, b)] := r1
    have T2 := (HA.out.kept0 (Kept.refl [] A).drew).nexted (s1 := .bool true) (q1 := []) (st' := stN st (x, b)) (q2 := q) r2 r3 r4 r5 r6
    have nb1 : b1 ∉ [k, bm] := by
      have hs := h.sep
      simp only [List.nodup_cons, List.mem_cons, List.not_mem_nil, or_false, not_or, not_false_eq_true, List.nodup_nil, and_true] at hs
      simp only [List.mem_cons, List.not_mem_nil, or_false, not_or]
      exact ⟨h.lks.ne h.lk, hs.1.2.2⟩
    have nB : w.heap.size ∉ [k, bm] := by
      have e1 := h.lk.lt
      have e2 := h.hol.lt
      simp only [List.mem_cons, List.not_mem_nil, or_false, not_or]
      omega
    have B2 := B0.out.drew.kept r5 nB
    rcases r1' with ⟨-, he⟩ | ⟨g, o, cap, cur, rfl, hg, hc1, hc2, hc3, hc4⟩
    · cases he
    · have hc5 : cap ≤ 9223372036854775807 := by unfold maxLen at hc2; omega
      have cc := cell_two hg hc4 (j := 0) (by simp)
      refine ⟨g, o, cap, s2, rfl, hc1, hc5, Or.inr ⟨g, o, cap, cur, rfl, hg, hc1, hc2, hc3, hc4⟩, T2, ((KA.out.mono (fun i hi => by cases hi) : Kept [k, bm] w A).drew.trans r5 (fun i hi => Or.inl hi)), B2, ⟨(r5.block b1 (block_lt S1.out.1) nb1).trans S1.out.1, Bx.cell T2.tab 0 rfl, B2.cell 0 rfl, B2.cell 1 rfl, B2.cell 2 rfl⟩, ?_⟩
      show _ ∧ _
      simpa using cc
  have hx63 : x < 9223372036854775808 := hw (x, b) (by simp)
  have HG := Lib.hid hG
  have HPL : Hid (p < w.heap.size ∧ b2 < w.heap.size ∧ b3 < w.heap.size) := ⟨Bx.lt h.tab, h.hld.lt, h.wts.lt⟩
  have NE : Hid (p ≠ b2 ∧ p ≠ b3) := ⟨fun e => h.hld.ne h.tab e.symm, fun e => h.wts.ne h.tab e.symm⟩
  have HE := Lib.hid hA
  clear h hb hq hw h0 hA hG
  unfold aV
  go_enter Try.func46, Try.ntmps46
  go_wp2_with fail
  rw [← HE.out]
  go_region_held3 (fun w' => w'.heap[b1]? = some (.map es ck) ∧ w'.cell? ⟨p, 0, none⟩ = some (Value.map (some b1)) ∧ w'.cell? ⟨w.heap.size, 0, none⟩ = some (Value.int .u8 3) ∧ w'.cell? ⟨w.heap.size, 1, none⟩ = some (Value.int .i64 0) ∧ w'.cell? ⟨w.heap.size, 2, none⟩ = some (Value.int .u64 5)) (first | exact S1.out | exact S2.out) (first | (go_at_call 64; refine NX.out.mono ?_; intro e w2 hN; obtain ⟨g, o, c, s2, rfl, hc1, hc2, R1, T2, K2, B2, ff, CC⟩ := LTN.out e w2 hN; have S2 := Lib.hid ff; clear hN ff))
  rename_i hh
  clear hh
  obtain ⟨w4, w5, w6, hD, hL4, hU5, hL5, hU6, T6, K26, z4, k34, k45⟩ := let_round (b := b) T2.out HG.out hx63
  have HT6 := Lib.hid T6
  have HK26 := Lib.hid K26
  have K3 : Hid (Kept [] w2 (w2.alloc (.cells #[.int .i64 x, .bool b] 95))) := (Kept.refl [] w2).alloc _
  obtain ⟨y0, y1⟩ := CC.out
  have T3 := Lib.hid (T2.out.kept0 K3.out)
  have A3 : Hid (Bx (w2.alloc (.cells #[.int .i64 x, .bool b] 95)) w2.heap.size 95 #[.int .i64 x, .bool b]) := Bx.made _ _ _
  have A4 : Hid (Bx w4 w2.heap.size 95 #[.int .i64 x, .bool b]) := A3.out.kept k34 (by have := HPL.out; have := K2.out.size; simp; omega)
  have P4 : Hid (Bx w4 p 67 #[.map (some b1), .map (some b2), .map (some b3)]) := Bx.kept T3.out.tab k34 (by have := NE.out; simp; exact this.2)
  have A5 : Hid (Bx w5 w2.heap.size 95 #[.int .i64 x, .bool b]) := A4.out.kept k45 (by have := HPL.out; have := K2.out.size; simp; omega)
  have P5 : Hid (Bx w5 p 67 #[.map (some b1), .map (some b2), .map (some b3)]) := Bx.kept P4.out k45 (by have := NE.out; simp; exact this.1)
  have L5 : Hid (Bx w5 w.heap.size 26 #[.int .u8 3, .int .i64 0, .int .u64 5]) := ((B2.out.kept K3.out (by simp)).kept k34 (by have := HPL.out; simp; omega)).kept k45 (by have := HPL.out; simp; omega)
  have x30 := A3.out.cell 0 (v := .int .i64 x) rfl
  have p32 := Bx.cell T3.out.tab 2 (v := .map (some b3)) rfl
  have x40 := A4.out.cell 0 (v := .int .i64 x) rfl
  have p41 := P4.out.cell 1 (v := .map (some b2)) rfl
  have x50 := A5.out.cell 0 (v := .int .i64 x) rfl
  have p51 := P5.out.cell 1 (v := .map (some b2)) rfl
  have l50 := L5.out.cell 0 (v := .int .u8 3) rfl
  have l51 := L5.out.cell 1 (v := .int .i64 0) rfl
  have l52 := L5.out.cell 2 (v := .int .u64 5) rfl
  have KF : Hid (Kept [k, bm, b2, b3] w w6) := (K2.out.mono (fun i hi => Or.inl (by simp at hi ⊢; omega))).trans K26 (fun i hi => Or.inl (by simp at hi ⊢; omega))
  have R6 : Hid (Ro w6 (.slice (some ⟨g, o, none⟩) 1 c) [(x, b)]) := R1.out.kept K26 (fun g' hg' => by
    simp only [List.mem_cons, List.not_mem_nil, or_false, not_or]
    exact ⟨mp_ne_own T2.out.hld R1.out g' hg', mp_ne_own T2.out.wts R1.out g' hg'⟩)
  have A4a : Hid (Bx (w4.alloc (.map #[] 0)) w2.heap.size 95 #[.int .i64 x, .bool b]) := A4.out.alloc _
  have P4a : Hid (Bx (w4.alloc (.map #[] 0)) p 67 #[.map (some b1), .map (some b2), .map (some b3)]) := P4.out.alloc _
  clear T6 K26 k34 k45 S1 S2 NX LTN LK1
  go_wp2_with fail
  go_loopw [17] (fun iv wr => (iv = .int .i64 0 ∧ w2 = wr) ∨ (iv = .int .i64 1 ∧ w6 = wr)) (fun iv _ => 1 - (intOf iv).toNat)
  case atStart => exact Or.inl ⟨rfl, rfl⟩
  case round =>
    rcases hrel with ⟨rfl, rfl⟩ | ⟨rfl, rfl⟩
    · have EQ := eqlNil
      have hmm := @run_makeMap Try.prog
      have hU5a : (Instr.mapUpdate 64 (.map (some b2)) (.int .i64 x) (.map (some w4.heap.size))).run Try.prog ((w4.alloc (.map #[] 0)).drew.drew) = .ok () w5 := hU5
      have hU5b : (Instr.mapUpdate 64 (.map (some b2)) (.int .i64 x) (.map (some w4.heap.size))).run Try.prog ((w4.drew.alloc (.map #[] 0)).drew) = .ok () w5 := hU5
      go_wp2_with fail
      go_region
      go_wp2_with fail
      go_region
      go_wp2_with fail
      go_region_held3 (fun w' => w'.cell? ⟨p, 1, none⟩ = some (.map (some b2)) ∧ w'.cell? ⟨w2.heap.size, 0, none⟩ = some (.int .i64 x)) (first | exact ⟨p41, x40⟩ | exact ⟨P4a.out.cell 1 rfl, A4a.out.cell 0 rfl⟩ | exact ⟨p51, x50⟩) (first | fail)
      all_goals
        rename_i hh
        clear hh
        go_wp2_with fail
        go_region
        go_wp2_with fail
        go_roundw
        case rel => exact Or.inr ⟨(by go_num), trivial⟩
        case measure => simp [intOf]
    · go_wp2_with fail
      go_ret
      exact ⟨_, _, _, rfl, R6.out, HT6.out, KF.out⟩
end
end Lk
end Go.Proofs.Ytpiiccomkfcifaa
