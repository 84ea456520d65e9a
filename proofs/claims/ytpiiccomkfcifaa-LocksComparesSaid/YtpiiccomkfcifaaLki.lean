/- locks: letIn. -/
import Derived.Test.YtpiiccomkfcifaaLkn
namespace Go.Proofs.Ytpiiccomkfcifaa
set_option linter.unusedVariables false
open Go.RowKit
namespace Lk
open Go.Proofs.Ytpiiccomkfcifaa.Mpf Go.PlainAid

/-- A table of the one lock. -/
structure LT (Ba : Nat) (w : World) (p b1 b2 b3 k bm : Nat) (st : St) (s : Value) (q : List (Nat × Bool)) (G : Nat → Option Value) (ng : Nat) (H : Nat → Option Value) (nh : Nat) : Prop where
  tab : Tab w p b1 b2 b3
  lks : Mp LK w b1 1 (fun _ => some (.pointer (some ⟨k, 0, none⟩)))
  lk : Bx w k 74 #[.bool st.1, .map (some bm), s]
  hol : Mp IK w bm st.2.2 st.2.1
  row : Ro w s q
  hld : Mp IK w b2 ng G
  own : Hol w G
  wts : Mp IK w b3 nh H
  nv : NeedVals H
  sep : [b1, b2, b3, bm].Nodup
  far : ∀ x b, G x = some (.map (some b)) → b ∉ [b1, b2, b3, bm]
  inj : ∀ x y b, G x = some (.map (some b)) → G y = some (.map (some b)) → x = y
  lo : Ba ≤ p ∧ Ba ≤ b1 ∧ Ba ≤ b2 ∧ Ba ≤ b3 ∧ Ba ≤ k ∧ Ba ≤ bm
  lor : ∀ g, s.ownBlock = some g → Ba ≤ g
  log : ∀ x b, G x = some (.map (some b)) → Ba ≤ b
theorem LT.kept0 {Ba : Nat} {w w' : World} {p b1 b2 b3 k bm : Nat} {st : St} {s : Value} {q : List (Nat × Bool)} {G : Nat → Option Value} {ng : Nat} {H : Nat → Option Value} {nh : Nat} (h : LT Ba w p b1 b2 b3 k bm st s q G ng H nh) (kk : Kept [] w w') : LT Ba w' p b1 b2 b3 k bm st s q G ng H nh :=
  ⟨Bx.kept h.tab kk (by simp), h.lks.kept kk (by simp), h.lk.kept kk (by simp), h.hol.kept kk (by simp), h.row.kept kk (fun _ _ => by simp), h.hld.kept kk (by simp), h.own.kept kk (fun _ _ _ => by simp), h.wts.kept kk (by simp), h.nv, h.sep, h.far, h.inj, h.lo, h.lor, h.log⟩
/-- A map is no block of cells. -/
theorem mp_ne_own {K : Type} {P : Program} {t : TypeId} {M : MapK P t K} {w : World} {b n : Nat} {f : K → Option Value} (h : Mp M w b n f) {s : Value} {q : List (Nat × Bool)} (hr : Ro w s q) : ∀ g, s.ownBlock = some g → g ≠ b := fun g hg e => by
  obtain ⟨cur, hc⟩ := hr.type g hg
  exact h.ne hc e.symm
theorem box_ne_own {w : World} {k : Nat} {t : TypeId} {cs : Array Value} (h : Bx w k t cs) (ht : t ≠ 95) {s : Value} {q : List (Nat × Bool)} (hr : Ro w s q) : ∀ g, s.ownBlock = some g → g ≠ k := fun g hg e => by
  obtain ⟨cur, hc⟩ := hr.type g hg
  subst e
  exact (Bx.type_ne (A := g) (B := g) h hc ht) rfl
section
variable {Ba : Nat} {w : World} {p b1 b2 b3 k bm : Nat} {st : St} {s : Value} {q : List (Nat × Bool)} {G : Nat → Option Value} {ng : Nat} {H : Nat → Option Value} {nh : Nat}
/-- What next leaves of a table. -/
theorem LT.nexted {w' : World} {st' : St} {s1 s2 : Value} {q1 q2 : List (Nat × Bool)} (h : LT Ba w p b1 b2 b3 k bm st s q G ng H nh) (hr : Ro w' s2 q2) (hk : Bx w' k 74 #[.bool st'.1, .map (some bm), s2]) (hm : Mp IK w' bm st'.2.2 st'.2.1) (kk : Kept [k, bm] w w') (hown : s2.ownBlock = s.ownBlock) :
    LT Ba w' p b1 b2 b3 k bm st' s2 q2 G ng H nh := by
  have hs := h.sep
  simp only [List.nodup_cons, List.mem_cons, List.not_mem_nil, or_false, not_or, not_false_eq_true, List.nodup_nil, and_true] at hs
  obtain ⟨⟨s12, s13, s1m⟩, ⟨s23, s2m⟩, s3m⟩ := hs
  refine ⟨Bx.kept h.tab kk ?_, h.lks.kept kk ?_, hk, hm, hr, h.hld.kept kk ?_, h.own.kept kk (fun x b hx => ?_), h.wts.kept kk ?_, h.nv, h.sep, h.far, h.inj, h.lo, fun g hg => h.lor g (hown ▸ hg), h.log⟩
  · simp only [List.mem_cons, List.not_mem_nil, or_false, not_or]
    exact ⟨fun e => (Bx.type_ne h.tab h.lk (by decide)) e, fun e => h.hol.ne h.tab e.symm⟩
  · simp only [List.mem_cons, List.not_mem_nil, or_false, not_or]
    exact ⟨h.lks.ne h.lk, s1m⟩
  · simp only [List.mem_cons, List.not_mem_nil, or_false, not_or]
    exact ⟨h.hld.ne h.lk, s2m⟩
  · have hf := h.far x b hx
    obtain ⟨b', hb', hmb⟩ := h.own x _ hx
    simp only [Value.map.injEq, Option.some.injEq] at hb'
    subst hb'
    simp only [List.mem_cons, List.not_mem_nil, or_false, not_or] at hf ⊢
    exact ⟨hmb.ne h.lk, hf.2.2.2⟩
  · simp only [List.mem_cons, List.not_mem_nil, or_false, not_or]
    exact ⟨h.wts.ne h.lk, s3m⟩
def LetOut0 (Ba : Nat) (w : World) (p b1 b2 b3 k bm : Nat) (st : St) (s : Value) (q : List (Nat × Bool)) (G : Nat → Option Value) (ng : Nat) (H : Nat → Option Value) (nh : Nat) (e : Ending) (w' : World) : Prop :=
  ∃ s1 s2, e = .returned s1 ∧ Ro w' s1 [] ∧ LT Ba w' p b1 b2 b3 k bm st s2 q G ng H nh ∧ Kept [k, bm] w w'
set_option maxHeartbeats 4000000 in
set_option maxRecDepth 100000 in
theorem letIn_0 (h : LT Ba w p b1 b2 b3 k bm st s q G ng H nh) (hq : q.length ≤ 1000) (hw : ∀ x ∈ q, x.1 < 9223372036854775808) (h0 : admN st q = 0) :
    Calls Try.prog 46 #[.pointer (some ⟨p, 0, none⟩), aV] w (LetOut0 Ba w p b1 b2 b3 k bm st s q G ng H nh) := by
  have hl2 := h.lks
  obtain ⟨es, ck, hb, -, -⟩ := hl2
  obtain ⟨A, hA⟩ : ∃ A, A = w.alloc (.cells #[.int .u8 3, .int .i64 0, .int .u64 5] 26) := ⟨_, rfl⟩
  have KA : Hid (Kept [] w A) := by rw [hA]; exact (Kept.refl _ _).alloc _
  have HA := Lib.hid (h.kept0 KA.out)
  have B0 : Hid (Bx A w.heap.size 26 #[.int .u8 3, .int .i64 0, .int .u64 5]) := by rw [hA]; exact Bx.made _ _ _
  have LK1 : ∀ W' : World, W'.heap[b1]? = some (.map es ck) → (Instr.lookup 63 (.map (some b1)) (.agg #[.int .u8 3, .int .i64 0, .int .u64 5]) false).run Try.prog W' = .ok (.pointer (some ⟨k, 0, none⟩)) W' := fun W' hW => (h.lks.of_block (w' := W') (hW.trans hb.symm)).look Try.underlying63 (zero_lock W') (x := ()) trivial false
  have S1 : Hid (A.heap[b1]? = some (.map es ck) ∧ A.cell? ⟨p, 0, none⟩ = some (Value.map (some b1)) ∧ A.cell? ⟨w.heap.size, 0, none⟩ = some (Value.int .u8 3) ∧ A.cell? ⟨w.heap.size, 1, none⟩ = some (Value.int .i64 0) ∧ A.cell? ⟨w.heap.size, 2, none⟩ = some (Value.int .u64 5)) :=
    ⟨(KA.out.block b1 (block_lt hb) (by simp)).trans hb, Bx.cell HA.out.tab 0 rfl, B0.out.cell 0 rfl, B0.out.cell 1 rfl, B0.out.cell 2 rfl⟩
  have NX := Lib.hid (next_any (HA.out.kept0 (Kept.refl [] A).drew).lk (HA.out.kept0 (Kept.refl [] A).drew).hol (HA.out.kept0 (Kept.refl [] A).drew).row hq hw)
  have LTN : Hid (∀ e w2, NextOut A.drew k bm st s q e w2 → ∃ a c, e = .returned (.slice a 0 c) ∧ LetOut0 Ba w p b1 b2 b3 k bm st s q G ng H nh (.returned (.slice a 0 c)) w2 ∧ w2.heap[b1]? = some (.map es ck) ∧ w2.cell? ⟨p, 0, none⟩ = some (Value.map (some b1)) ∧ w2.cell? ⟨w.heap.size, 0, none⟩ = some (Value.int .u8 3) ∧ w2.cell? ⟨w.heap.size, 1, none⟩ = some (Value.int .i64 0) ∧ w2.cell? ⟨w.heap.size, 2, none⟩ = some (Value.int .u64 5)) := by
    rintro e w2 ⟨s1, s2, rfl, r1, r2, r3, r4, r5, r6, -⟩
    rw [h0] at r1 r2 r3 r4
    obtain ⟨a, c, hs1, -, -⟩ := r1.slice
    subst hs1
    have T2 := (HA.out.kept0 (Kept.refl [] A).drew).nexted (s1 := .bool true) (q1 := []) r2 r3 r4 r5 r6
    have nb1 : b1 ∉ [k, bm] := by
      have hs := h.sep
      simp only [List.nodup_cons, List.mem_cons, List.not_mem_nil, or_false, not_or, not_false_eq_true, List.nodup_nil, and_true] at hs
      simp only [List.mem_cons, List.not_mem_nil, or_false, not_or]
      exact ⟨h.lks.ne h.lk, hs.1.2.2⟩
    have nB : w.heap.size ∉ [k, bm] := by
      have e1 := h.lk.lt
      have e2 := h.hol.lt
      simp only [List.mem_cons, List.not_mem_nil, or_false, not_or]
      omega
    have B2 := B0.out.drew.kept r5 nB
    refine ⟨a, c, rfl, ⟨_, s2, rfl, r1, T2, ((KA.out.mono (fun i hi => by cases hi) : Kept [k, bm] w A).drew.trans r5 (fun i hi => Or.inl hi))⟩, (r5.block b1 (block_lt S1.out.1) nb1).trans S1.out.1, Bx.cell T2.tab 0 rfl, B2.cell 0 rfl, B2.cell 1 rfl, B2.cell 2 rfl⟩
  have HE := Lib.hid hA
  clear h hb hq hw h0 hA
  unfold aV
  go_enter Try.func46, Try.ntmps46
  go_wp2_with fail
  rw [← HE.out]
  go_region_held3 (fun w' => w'.heap[b1]? = some (.map es ck) ∧ w'.cell? ⟨p, 0, none⟩ = some (Value.map (some b1)) ∧ w'.cell? ⟨w.heap.size, 0, none⟩ = some (Value.int .u8 3) ∧ w'.cell? ⟨w.heap.size, 1, none⟩ = some (Value.int .i64 0) ∧ w'.cell? ⟨w.heap.size, 2, none⟩ = some (Value.int .u64 5)) (first | exact S1.out | exact S2.out) (first | (go_at_call 64; refine NX.out.mono ?_; intro e w2 hN; obtain ⟨a, c, rfl, FIN, ff⟩ := LTN.out e w2 hN; have HF := Lib.hid FIN; have S2 := Lib.hid ff; clear FIN hN ff))
  rename_i hh
  clear hh
  go_wp2_with fail
  go_loopw [17] (fun iv wr => iv = .int .i64 0 ∧ w2 = wr) (fun _ _ => 0)
  case atStart => exact ⟨rfl, rfl⟩
  case round =>
    obtain ⟨rfl, rfl⟩ := hrel
    go_wp2_with fail
    go_ret
    exact HF.out
end
end Lk
end Go.Proofs.Ytpiiccomkfcifaa
