/- locks: wait where the lock is there; where it is not. -/
import Derived.Test.YtpiiccomkfcifaaLkj
namespace Go.Proofs.Ytpiiccomkfcifaa
set_option linter.unusedVariables false
open Go.RowKit
namespace Lk
open Go.Proofs.Ytpiiccomkfcifaa.Mpf Go.PlainAid
section
variable {Ba : Nat} {w : World} {p b1 b2 b3 k bm : Nat} {st : St} {s : Value} {q : List (Nat × Bool)} {G : Nat → Option Value} {ng : Nat} {H : Nat → Option Value} {nh : Nat}
/-- One more stands in the queue. -/
theorem LT.asked {w3 w4 w5 : World} {s' : Value} {x : Nat} {b : Bool} {n5 : Nat} (h : LT Ba w p b1 b2 b3 k bm st s q G ng H nh) (hr : Ro w3 s' (q ++ [(x, b)])) (k3 : Kept s.ownBlock.toList w w3) (hat : s'.ownBlock = s.ownBlock ∨ ∃ g, s'.ownBlock = some g ∧ w.heap.size ≤ g)
    (h4 : w4 = w3.setCell ⟨k, 2, none⟩ s') (m5 : Mp IK w5 b3 n5 (upd H x (some (needV b)))) (k5 : Kept [b3] w4 w5) :
    LT Ba w5 p b1 b2 b3 k bm st s' (q ++ [(x, b)]) G ng (upd H x (some (needV b))) n5 ∧ Kept (k :: b3 :: s.ownBlock.toList) w w5 := by
  have hs := h.sep
  simp only [List.nodup_cons, List.mem_cons, List.not_mem_nil, or_false, not_or, not_false_eq_true, List.nodup_nil, and_true] at hs
  obtain ⟨⟨s12, s13, s1m⟩, ⟨s23, s2m⟩, s3m⟩ := hs
  have no : ∀ i, (∀ g, s.ownBlock = some g → g ≠ i) → i ∉ s.ownBlock.toList := fun i hi hm => by
    cases e : s.ownBlock with
    | none => rw [e] at hm; simp at hm
    | some g => rw [e] at hm; simp at hm; exact hi g e hm.symm
  have nk : k ∉ s.ownBlock.toList := no k (box_ne_own h.lk (by decide) h.row)
  have lk3 := h.lk.kept k3 nk
  have lk4 : Bx w4 k 74 #[.bool st.1, .map (some bm), s'] := by rw [h4]; exact Bx.set lk3 2 _
  have k34 : Kept [k] w3 w4 := by rw [h4]; exact (Kept.refl _ _).setCell (Or.inl (by simp)) _
  have gk : ∀ g, s'.ownBlock = some g → g ≠ k := fun g hg e => by
    rcases hat with q | ⟨g', q, hl⟩
    · rw [q] at hg; exact box_ne_own h.lk (by decide) h.row g hg e
    · rw [q] at hg
      cases hg
      have := h.lk.lt
      omega
  have K : ∀ i, i < w.heap.size → i ∉ s.ownBlock.toList → i ≠ k → i ≠ b3 → w5.heap[i]? = w.heap[i]? := fun i hi h1 h2 h3 =>
    (k5.block i (by have := k34.size; have := k3.size; omega) (by simpa using h3)).trans ((k34.block i (by have := k3.size; omega) (by simpa using h2)).trans (k3.block i hi h1))
  have KK : Kept (k :: b3 :: s.ownBlock.toList) w w5 := ((k3.mono (fun i hi => Or.inl (by simp; exact Or.inr (Or.inr (by simpa using hi)))) : Kept (k :: b3 :: s.ownBlock.toList) w w3).trans k34 (fun i hi => Or.inl (by simp at hi; simp [hi]))).trans k5 (fun i hi => Or.inl (by simp at hi; simp [hi]))
  refine ⟨⟨(K p (Bx.lt h.tab) (no p (box_ne_own h.tab (by decide) h.row)) (Bx.type_ne h.tab h.lk (by decide)) (fun e => h.wts.ne h.tab e.symm)).trans h.tab, h.lks.of_block (K b1 h.lks.lt (no b1 (mp_ne_own h.lks h.row)) (h.lks.ne h.lk) s13), lk4.kept k5 (by simp; exact fun e => h.wts.ne h.lk e.symm), h.hol.of_block (K bm h.hol.lt (no bm (mp_ne_own h.hol h.row)) (h.hol.ne h.lk) (fun e => s3m e.symm)), ?_, h.hld.of_block (K b2 h.hld.lt (no b2 (mp_ne_own h.hld h.row)) (h.hld.ne h.lk) s23), ?_, m5, ?_, h.sep, h.far, h.inj, h.lo, ?_, h.log⟩, KK⟩
  · refine (hr.kept k34 (fun g hg => by simpa using gk g hg)).kept k5 (fun g hg => ?_)
    have hr4 := hr.kept k34 (fun g hg => by simpa using gk g hg)
    have m4 : Mp IK w4 b3 nh H := (h.wts.kept k3 (no b3 (mp_ne_own h.wts h.row))).kept k34 (by simp; exact h.wts.ne h.lk)
    simpa using mp_ne_own m4 hr4 g hg
  · intro y v hy
    obtain ⟨bb, rfl, hb⟩ := h.own y v hy
    have hf := h.far y bb hy
    simp only [List.mem_cons, List.not_mem_nil, or_false, not_or] at hf
    exact ⟨bb, rfl, hb.of_block (K bb hb.lt (no bb (mp_ne_own hb h.row)) (hb.ne h.lk) hf.2.2.1)⟩
  · intro y v hy
    by_cases e : y = x
    · subst e; rw [upd_same] at hy; cases hy; exact ⟨b, rfl⟩
    · rw [upd_other _ _ e] at hy; exact h.nv y v hy
  · intro g hg
    rcases hat with q | ⟨g', q, hl⟩
    · exact h.lor g (q ▸ hg)
    · rw [q] at hg
      cases hg
      have := h.lo.1
      have := Bx.lt h.tab
      omega
/-- An append whose run is known, as a step of a region. -/
theorem step_append_run {P : Program} {W W' : World} {ops : Array Oper} {o : Oper} {a : Act} {K : Act → World → Prop} {Q : Exit → Act → World → Prop} {E : Prop} (hgd : o.guard = none) (sl x : Operand) (t : TypeId)
    (ho : o.op = .call { callee := .builtin .append, args := #[sl, x], argTypes := #[t, t] }) {v y v' : Value} (hs : a.eval sl = v) (hx : a.eval x = y) (hr : (Builtin.append_ #[t, t] o.type #[v, y]).run P W = .ok v' W') (h : K (a.put o.dst v') W') :
    if Region.wanted o (yielded ops a.tmps) = true then Oper.wp P o a W K Q else E := by
  have hw : Region.wanted o (yielded ops a.tmps) = true := by simp [Region.wanted, hgd]
  rw [if_pos hw]
  unfold Oper.wp execOp
  simp only [ho, resolve, invoke, builtin, Sem.run_bind, Sem.run_pure, Result.andThen_ok, List.map_toArray, List.map_cons, List.map_nil, hs, hx, hr]
  exact h
/-- What is asked, boxed. -/
def nC (b : Bool) : Array Value := #[.int .u8 3, .int .i64 0, .int .u64 5, .bool b]
set_option maxHeartbeats 4000000 in
set_option maxRecDepth 100000 in
theorem wait_there {x : Nat} {b : Bool} (h : LT Ba w p b1 b2 b3 k bm st s q G ng H nh) (hq : q.length ≤ 1000) (hx : x < 9223372036854775808) :
    Calls Try.prog 45 #[.pointer (some ⟨p, 0, none⟩), .int .i64 x, needV b] w fun e w' => e = .returned (.tuple #[]) ∧ ∃ s', LT Ba w' p b1 b2 b3 k bm st s' (q ++ [(x, b)]) G ng (upd H x (some (needV b))) (if (H x).isSome then nh else nh + 1) ∧ Kept (k :: b3 :: s.ownBlock.toList) w w' := by
  have hl2 := h.lks
  obtain ⟨es, ck, hb, -, -⟩ := hl2
  obtain ⟨A, hA⟩ : ∃ A, A = w.alloc (.cells #[.int .u8 3, .int .i64 0, .int .u64 5, .bool b] 46) := ⟨_, rfl⟩
  have KA : Kept [] w A := by rw [hA]; exact (Kept.refl _ _).alloc _
  have HA := h.kept0 KA
  have B0 : Bx A w.heap.size 46 #[.int .u8 3, .int .i64 0, .int .u64 5, .bool b] := by rw [hA]; exact Bx.made _ _ _
  have LK1 : ∀ W' : World, W'.heap[b1]? = some (.map es ck) → (Instr.lookup 63 (.map (some b1)) (.agg #[.int .u8 3, .int .i64 0, .int .u64 5]) true).run Try.prog W' = .ok (.tuple #[.pointer (some ⟨k, 0, none⟩), .bool true]) W' := fun W' hW => (h.lks.of_block (w' := W') (hW.trans hb.symm)).look Try.underlying63 (zero_lock W') (x := ()) trivial true
  have hbA : A.heap[b1]? = some (.map es ck) := (KA.block b1 (block_lt hb) (by simp)).trans hb
  have LK2 := LK1 A.drew hbA
  have c0 := Bx.cell HA.tab 0 (v := .map (some b1)) rfl
  have n0 := B0.cell 0 (v := .int .u8 3) rfl
  have n1 := B0.cell 1 (v := .int .i64 0) rfl
  have n2 := B0.cell 2 (v := .int .u64 5) rfl
  have n3 := B0.cell 3 (v := .bool b) rfl
  have c2 := HA.lk.cell 2 (v := s) rfl
  have n3a := (B0.alloc (.cells #[.int .i64 x, .bool b] 95)).cell 3 (v := .bool b) rfl
  have c2a := (HA.lk.alloc (.cells #[.int .i64 x, .bool b] 95)).cell 2 (v := s) rfl
  obtain ⟨D, hD⟩ : ∃ D, D = ((A.alloc (.cells #[.int .i64 x, .bool b] 95)).drew).drew := ⟨_, rfl⟩
  have KD : Kept [] A D := by rw [hD]; exact ((((Kept.refl [] A).alloc _).drew).drew)
  have HD := HA.kept0 KD
  have nb : D.heap[A.heap.size]? = some (.cells #[.int .i64 x, .bool b] 95 (0, 0)) := by rw [hD]; exact Bx.made A _ _
  obtain ⟨s', w3, hAp, hr3, k3, hat⟩ := HD.row.push hq x b (ad := ⟨A.heap.size, 0, none⟩) 1 (World.news_of_block (cs := #[.int .i64 x, .bool b]) nb) 72
  obtain ⟨a', c', hs', -, -⟩ := hr3.slice
  rw [show (q ++ [(x, b)]).length = q.length + 1 by simp] at hs'
  subst hs'
  rw [hD] at hAp
  have no : ∀ i, (∀ g, s.ownBlock = some g → g ≠ i) → i ∉ s.ownBlock.toList := fun i hi hm => by
    cases e : s.ownBlock with
    | none => rw [e] at hm; simp at hm
    | some g => rw [e] at hm; simp at hm; exact hi g e hm.symm
  have lk3 := HD.lk.kept k3 (no k (box_ne_own HD.lk (by decide) HD.row))
  have e2 := lk3.cell 2 (v := s) rfl
  have z2 := lk3.frozen 2
  have tb3 := Bx.kept HD.tab k3 (no p (box_ne_own HD.tab (by decide) HD.row))
  have B3 := (B0.kept KD (by simp)).kept k3 (no _ (box_ne_own (B0.kept KD (by simp)) (by decide) HD.row))
  have kp : k ≠ p := (Bx.type_ne h.tab h.lk (by decide)).symm
  have kB : k ≠ w.heap.size := by have := h.lk.lt; omega
  have tb4 := Bx.other tb3 (a := ⟨k, 2, none⟩) kp (.slice a' (q.length + 1) c')
  have B4 := Bx.other B3 (a := ⟨k, 2, none⟩) kB (.slice a' (q.length + 1) c')
  have m4 : Mp IK (w3.setCell ⟨k, 2, none⟩ (.slice a' (q.length + 1) c')) b3 nh H := (HD.wts.kept k3 (no b3 (mp_ne_own HD.wts HD.row))).setCell (a := ⟨k, 2, none⟩) (fun e => HD.wts.ne HD.lk e.symm) _
  obtain ⟨w5, hU, m5, k5, -⟩ := (m4.drew).update Try.underlying65 (x := x) hx (needV b)
  obtain ⟨n5, hn5⟩ : ∃ n, n = (if (H x).isSome = true then nh else nh + 1) := ⟨_, rfl⟩
  rw [← hn5] at m5 ⊢
  clear hn5
  have KAD : Kept [] w D := KA.trans KD (fun i hi => by cases hi)
  have FIN0 := (HD.asked (b := b) hr3 k3 (hat.imp id (fun e => ⟨_, e, Nat.le_refl _⟩)) rfl m5 ((Kept.refl [b3] _).drew.trans k5 (fun i hi => Or.inl hi)))
  have FIN := Lib.hid (And.intro FIN0.1 ((KAD.mono (fun i hi => by cases hi) : Kept (k :: b3 :: s.ownBlock.toList) w D).trans FIN0.2 (fun i hi => Or.inl hi)))
  have hU2 : (Instr.mapUpdate 65 (.map (some b3)) (.int .i64 x) (.agg #[.int .u8 3, .int .i64 0, .int .u64 5, .bool b])).run Try.prog (w3.setCell ⟨k, 2, none⟩ (.slice a' (q.length + 1) c')).drew = .ok () w5 := hU
  have t42 := tb4.cell 2 (v := .map (some b3)) rfl
  have u0 := B4.cell 0 (v := .int .u8 3) rfl
  have u1 := B4.cell 1 (v := .int .i64 0) rfl
  have u2 := B4.cell 2 (v := .int .u64 5) rfl
  have u3 := B4.cell 3 (v := .bool b) rfl
  have HE := Lib.hid hA
  have HDe := Lib.hid hD
  have hAp := Lib.hid hAp
  clear KAD FIN0 h hb hq hx hA hD HA KA B0 HD KD nb hr3 k3 hat no lk3 tb3 B3 tb4 B4 m4 m5 k5 kp kB hU LK1 hbA
  unfold needV
  go_enter Try.func45, Try.ntmps45
  go_wp2_with fail
  rw [← HE.out]
  go_region
  go_wp2_with fail
  go_region_law (refine step_append_run rfl (.tmp 34) (.tmp 39) 72 rfl (by simp [Act.eval]) (by simp [Act.eval]) hAp.out ?_)
  all_goals
    go_wp2_with fail
    go_region
    go_wp2_with fail
    go_end0
    exact ⟨rfl, _, FIN.out.1, FIN.out.2⟩
end
end Lk
end Go.Proofs.Ytpiiccomkfcifaa
