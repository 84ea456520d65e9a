/- locks: letGo. -/
import Derived.Test.YtpiiccomkfcifaaLkv
namespace Go.Proofs.Ytpiiccomkfcifaa
set_option linter.unusedVariables false
open Go.RowKit
namespace Lk
open Go.Proofs.Ytpiiccomkfcifaa.Mpf Go.PlainAid
/-- Blocks that are a lock's name, or numbers, stay. -/
def Ty (t : TypeId) : Prop := t = 26 ∨ t = 3
def KL (Ba : Nat) (w w' : World) : Prop := (∀ t, Ty t → ∀ B cs, Bx w B t cs → Bx w' B t cs) ∧ Below Ba w w'
theorem KL.of {Ba : Nat} {S : List Nat} {w w' : World} (k : Kept S w w') (h : ∀ i ∈ S, ∀ t, Ty t → ∀ cs, ¬ Bx w i t cs) (hS : ∀ i ∈ S, Ba ≤ i) (hB : Ba ≤ w.heap.size) : KL Ba w w' := ⟨fun t ht B cs hB => hB.kept k (fun hm => h B hm t ht cs hB), k.below hS hB⟩
theorem KL.of0 {Ba : Nat} {w w' : World} (k : Kept [] w w') (hB : Ba ≤ w.heap.size) : KL Ba w w' := KL.of k (fun i hi => by cases hi) (fun i hi => by cases hi) hB
theorem KL.trans {Ba : Nat} {a b c : World} (h : KL Ba a b) (k : KL Ba b c) : KL Ba a c := ⟨fun t ht B cs hB => k.1 t ht B cs (h.1 t ht B cs hB), h.2.trans k.2⟩
theorem KL.drew {Ba : Nat} {a b : World} (h : KL Ba a b) : KL Ba a b.drew := ⟨h.1, h.2.drew⟩
theorem mp_no {K : Type} {P : Program} {t : TypeId} {M : MapK P t K} {w : World} {b n : Nat} {f : K → Option Value} (h : Mp M w b n f) : ∀ t, Ty t → ∀ cs, ¬ Bx w b t cs := fun _ _ cs hB => h.ne hB rfl
theorem bx_no {w : World} {b : Nat} {t : TypeId} {ds : Array Value} (h : Bx w b t ds) (ht : ¬ (t = 26 ∨ t = 3)) : ∀ u, Ty u → ∀ cs, ¬ Bx w b u cs := fun u hu cs hB => (Bx.type_ne h hB (fun e => ht (by rw [e]; exact hu))) rfl
section
variable {Ba : Nat} {w : World} {p b1 b2 b3 k bm : Nat} {st : St} {s : Value} {q : List (Nat × Bool)} {G : Nat → Option Value} {ng : Nat} {H : Nat → Option Value} {nh : Nat}
/-- What letIn does, whoever is let in. -/
def LetR (Ba : Nat) (w : World) (p b1 b2 b3 k bm : Nat) (st2 : St) (q1 q2 : List (Nat × Bool)) (R : (Nat → Option Value) → Prop) (ng2 : Nat) (H2 : Nat → Option Value) (nh2 : Nat) (e : Ending) (w' : World) : Prop :=
  ∃ s1 s2 G2, e = .returned s1 ∧ R G2 ∧ Ro w' s1 q1 ∧ LT Ba w' p b1 b2 b3 k bm st2 s2 q2 G2 ng2 H2 nh2 ∧ Kept [k, bm, b2, b3] w w'
theorem letIn_0R (h : LT Ba w p b1 b2 b3 k bm st s q G ng H nh) (hq : q.length ≤ 1000) (hw : ∀ x ∈ q, x.1 < 9223372036854775808) (h0 : admN st q = 0) :
    Calls Try.prog 46 #[.pointer (some ⟨p, 0, none⟩), aV] w (LetR Ba w p b1 b2 b3 k bm st [] q (fun G2 => G2 = G) ng H nh) :=
  (letIn_0 h hq hw h0).mono fun e w' ⟨s1, s2, h1, h2, h3, h4⟩ => ⟨s1, s2, G, h1, rfl, h2, h3, h4.mono (fun i hi => Or.inl (by simp at hi ⊢; omega))⟩
theorem letIn_1R {x : Nat} {b : Bool} (h : LT Ba w p b1 b2 b3 k bm st s ((x, b) :: q) G ng H nh) (hq : q.length + 1 ≤ 1000) (hw : ∀ y ∈ (x, b) :: q, y.1 < 9223372036854775808) (h0 : admN st ((x, b) :: q) = 1) (hG : G x = none) :
    Calls Try.prog 46 #[.pointer (some ⟨p, 0, none⟩), aV] w (LetR Ba w p b1 b2 b3 k bm (stN st (x, b)) [(x, b)] q (fun G2 => ∃ hh, G2 = upd G x (some (.map (some hh)))) (ng + 1) (upd H x none) (if (H x).isSome then nh - 1 else nh)) :=
  (letIn_1 h hq hw h0 hG).mono fun e w' ⟨s1, s2, hh, h1, h2, h3, h4⟩ => ⟨s1, s2, _, h1, ⟨hh, rfl⟩, h2, h3, h4⟩
/-- One holds the lock no more. -/
theorem LT.freed {w1 w2 w3 : World} {x hb : Nat} (h : LT Ba w p b1 b2 b3 k bm st s q G ng H nh) (hG : G x = some (.map (some hb))) {n1 : Nat} {F1 : Nat → Option Value}
    (m1 : Mp IK w1 bm n1 F1) (k1 : Kept [bm] w w1) (k2 : Kept [hb] w1 w2) (m3 : Mp IK w3 b2 (ng - 1) (upd G x none)) (k3 : Kept [b2] w2 w3) :
    LT Ba w3 p b1 b2 b3 k bm (st.1, F1, n1) s q (upd G x none) (ng - 1) H nh ∧ Kept [bm, hb, b2] w w3 := by
  have hs := h.sep
  simp only [List.nodup_cons, List.mem_cons, List.not_mem_nil, or_false, not_or, not_false_eq_true, List.nodup_nil, and_true] at hs
  obtain ⟨⟨s12, s13, s1m⟩, ⟨s23, s2m⟩, s3m⟩ := hs
  have hfx := h.far x hb hG
  simp only [List.mem_cons, List.not_mem_nil, or_false, not_or] at hfx
  obtain ⟨h1, h2, h3, hm⟩ := hfx
  obtain ⟨b', e, mb⟩ := h.own x _ hG
  simp only [Value.map.injEq, Option.some.injEq] at e
  subst e
  have K : Kept [bm, hb, b2] w w3 := ((k1.mono (fun i hi => Or.inl (by simp at hi; simp [hi])) : Kept [bm, hb, b2] w w1).trans k2 (fun i hi => Or.inl (by simp at hi; simp [hi]))).trans k3 (fun i hi => Or.inl (by simp at hi; simp [hi]))
  have ns : ∀ {i : Nat}, i ≠ bm → i ≠ hb → i ≠ b2 → i ∉ [bm, hb, b2] := fun {i} e1 e2 e3 hm => by
    simp only [List.mem_cons, List.not_mem_nil, or_false] at hm
    omega
  refine ⟨⟨Bx.kept h.tab K (ns (fun e => h.hol.ne h.tab e.symm) (fun e => mb.ne h.tab e.symm) (fun e => h.hld.ne h.tab e.symm)), h.lks.kept K (ns s1m (fun e => h1 e.symm) s12), h.lk.kept K (ns (fun e => h.hol.ne h.lk e.symm) (fun e => mb.ne h.lk e.symm) (fun e => h.hld.ne h.lk e.symm)), (m1.kept k2 (by simp; exact fun e => hm e.symm)).kept k3 (by simp; exact fun e => s2m e.symm), h.row.kept K (fun g hg => ns (mp_ne_own h.hol h.row g hg) (mp_ne_own mb h.row g hg) (mp_ne_own h.hld h.row g hg)), m3, ?_, h.wts.kept K (ns s3m (fun e => h3 e.symm) (fun e => s23 e.symm)), h.nv, h.sep, ?_, ?_, h.lo, h.lor, ?_⟩, K⟩
  · intro y v hy
    by_cases e : y = x
    · subst e; rw [upd_same] at hy; cases hy
    · rw [upd_other _ _ e] at hy
      obtain ⟨b', rfl, mb'⟩ := h.own y v hy
      have hf := h.far y b' hy
      simp only [List.mem_cons, List.not_mem_nil, or_false, not_or] at hf
      exact ⟨b', rfl, mb'.kept K (ns hf.2.2.2 (fun q => e (h.inj y x b' hy (by rw [hG, q]))) hf.2.1)⟩
  · intro y b hy
    by_cases e : y = x
    · subst e; rw [upd_same] at hy; cases hy
    · rw [upd_other _ _ e] at hy; exact h.far y b hy
  · intro y z b hy hz
    by_cases e : y = x
    · subst e; rw [upd_same] at hy; cases hy
    · rw [upd_other _ _ e] at hy
      by_cases e2 : z = x
      · subst e2; rw [upd_same] at hz; cases hz
      · rw [upd_other _ _ e2] at hz; exact h.inj y z b hy hz
  · intro y b hy
    by_cases e : y = x
    · subst e; rw [upd_same] at hy; cases hy
    · rw [upd_other _ _ e] at hy; exact h.log y b hy
set_option maxHeartbeats 4000000 in
set_option maxRecDepth 100000 in
theorem letGo_any {x hb : Nat} {st2 : St} {q1 q2 : List (Nat × Bool)} {R : (Nat → Option Value) → Prop} {ng2 : Nat} {H2 : Nat → Option Value} {nh2 : Nat} (h : LT Ba w p b1 b2 b3 k bm st s q G ng H nh) (hx : x < 9223372036854775808) (hF : (st.2.1 x).isSome = true) (hG : G x = some (.map (some hb)))
    (HLI : ∀ w3, LT Ba w3 p b1 b2 b3 k bm (st.1, upd st.2.1 x none, st.2.2 - 1) s q (upd G x none) (ng - 1) H nh → Calls Try.prog 46 #[.pointer (some ⟨p, 0, none⟩), aV] w3 (LetR Ba w3 p b1 b2 b3 k bm st2 q1 q2 R ng2 H2 nh2)) (hn : st2.2.2 ≠ 0) :
    Calls Try.prog 43 #[.pointer (some ⟨p, 0, none⟩), .int .i64 x, aV] w fun e w' => ∃ s1 s2 G2, e = .returned s1 ∧ R G2 ∧ Ro w' s1 q1 ∧ LT Ba w' p b1 b2 b3 k bm st2 s2 q2 G2 ng2 H2 nh2 ∧ KL Ba w w' := by
  obtain ⟨A, hA⟩ : ∃ A, A = w.alloc (.cells #[.int .u8 3, .int .i64 0, .int .u64 5] 26) := ⟨_, rfl⟩
  have KA : Kept [] w A := by rw [hA]; exact (Kept.refl _ _).alloc _
  have HA := h.kept0 KA
  have B0 : Bx A w.heap.size 26 #[.int .u8 3, .int .i64 0, .int .u64 5] := by rw [hA]; exact Bx.made _ _ _
  have LL : ∀ W : World, Mp LK W b1 1 (fun _ => some (.pointer (some ⟨k, 0, none⟩))) → (Instr.lookup 63 (.map (some b1)) (.agg #[.int .u8 3, .int .i64 0, .int .u64 5]) false).run Try.prog W = .ok (.pointer (some ⟨k, 0, none⟩)) W := fun W m => m.look Try.underlying63 (zero_lock W) (x := ()) trivial false
  have hs := h.sep
  simp only [List.nodup_cons, List.mem_cons, List.not_mem_nil, or_false, not_or, not_false_eq_true, List.nodup_nil, and_true] at hs
  obtain ⟨⟨s12, s13, s1m⟩, ⟨s23, s2m⟩, s3m⟩ := hs
  have hfx := h.far x hb hG
  simp only [List.mem_cons, List.not_mem_nil, or_false, not_or] at hfx
  obtain ⟨f1, f2, f3, fm⟩ := hfx
  obtain ⟨b', e, mb⟩ := HA.own x _ hG
  simp only [Value.map.injEq, Option.some.injEq] at e
  subst e
  -- region 1
  have L1 := LL A.drew HA.lks
  have c0 := Bx.cell HA.tab 0 (v := .map (some b1)) rfl
  have l0 := B0.cell 0 (v := .int .u8 3) rfl
  have l1 := B0.cell 1 (v := .int .i64 0) rfl
  have l2 := B0.cell 2 (v := .int .u64 5) rfl
  have d1 := HA.lk.cell 1 (v := .map (some bm)) rfl
  obtain ⟨w1, hD1, m1, k1, -⟩ := (HA.hol.drew).drop Try.underlying71 (x := x) hx 0
  rw [if_pos hF] at m1
  have k1' : Kept [bm] A w1 := ((Kept.refl [bm] A).drew).trans k1 (fun i hi => Or.inl hi)
  -- region 2
  have tb1 := Bx.kept HA.tab k1' (by simp; exact fun e => HA.hol.ne HA.tab e.symm)
  have B1 := B0.kept k1' (by simp; exact fun e => HA.hol.ne B0 e.symm)
  have g1 : Mp IK w1 b2 ng G := HA.hld.kept k1' (by simp; exact s2m)
  have mb1 := mb.kept k1' (by simp; exact fm)
  have L2 := (g1.drew).look Try.underlying64 (zero_map w1.drew) (x := x) hx false
  rw [hG] at L2
  obtain ⟨w2, hD2, m2, k2, -⟩ := (mb1.drew).drop Try.underlying82 (x := ()) trivial 0
  have k2' : Kept [hb] w1 w2 := ((Kept.refl [hb] w1).drew).trans k2 (fun i hi => Or.inl hi)
  -- regions 3, 4
  have tb2 := Bx.kept tb1 k2' (by simp; exact fun e => mb1.ne tb1 e.symm)
  have B2 := B1.kept k2' (by simp; exact fun e => mb1.ne B1 e.symm)
  have g2 : Mp IK w2 b2 ng G := g1.kept k2' (by simp; exact fun e => f2 e.symm)
  have L3 := g2.look Try.underlying64 (zero_map w2) (x := x) hx false
  rw [hG] at L3
  have LEN := m2.len Try.underlying82 3
  obtain ⟨w3, hD3, m3, k3, -⟩ := g2.drop Try.underlying64 (x := x) hx 0
  rw [hG] at m3
  obtain ⟨T3, K3⟩ := HA.freed hG m1 k1' k2' m3 k3
  have B3 := B2.kept k3 (by simp; exact fun e => g2.ne B2 e.symm)
  have LI := Lib.hid (HLI w3 T3)
  -- region 6
  have REST : Hid (∀ e w4, LetR Ba w3 p b1 b2 b3 k bm st2 q1 q2 R ng2 H2 nh2 e w4 → ∃ a c, e = .returned (.slice a q1.length c) ∧ Hid (∃ s1 s2 G2, (Ending.returned (.slice a q1.length c)) = .returned s1 ∧ R G2 ∧ Ro w4.drew s1 q1 ∧ LT Ba w4.drew p b1 b2 b3 k bm st2 s2 q2 G2 ng2 H2 nh2 ∧ KL Ba w w4.drew) ∧ w4.cell? ⟨p, 0, none⟩ = some (.map (some b1)) ∧ w4.cell? ⟨k, 1, none⟩ = some (.map (some bm)) ∧ (Instr.lookup 63 (.map (some b1)) (.agg #[.int .u8 3, .int .i64 0, .int .u64 5]) false).run Try.prog w4.drew = .ok (.pointer (some ⟨k, 0, none⟩)) w4.drew ∧ (Builtin.len_ #[71] 3 #[.map (some bm)]).run Try.prog w4.drew = .ok (.int .i64 st2.2.2) w4.drew ∧ w4.cell? ⟨w.heap.size, 0, none⟩ = some (.int .u8 3) ∧ w4.cell? ⟨w.heap.size, 1, none⟩ = some (.int .i64 0) ∧ w4.cell? ⟨w.heap.size, 2, none⟩ = some (.int .u64 5)) := by
    rintro e w4 ⟨s1, s2, G2, rfl, r1, r2, r3, r4⟩
    obtain ⟨a, c, rfl, -, -⟩ := r2.slice
    have T4 := r3.kept0 (Kept.refl [] w4).drew
    have nS : ∀ i ∈ [k, bm, b2, b3], ∀ t, Ty t → ∀ cs, ¬ Bx w3 i t cs := fun i hi => by
      simp only [List.mem_cons, List.not_mem_nil, or_false] at hi
      rcases hi with rfl | rfl | rfl | rfl
      · exact bx_no T3.lk (by decide)
      · exact mp_no T3.hol
      · exact mp_no T3.hld
      · exact mp_no T3.wts
    have nT : ∀ i ∈ [bm, hb, b2], ∀ t, Ty t → ∀ cs, ¬ Bx A i t cs := fun i hi => by
      simp only [List.mem_cons, List.not_mem_nil, or_false] at hi
      rcases hi with rfl | rfl | rfl
      · exact mp_no HA.hol
      · exact mp_no mb
      · exact mp_no HA.hld
    have lo := h.lo
    have hp := Bx.lt h.tab
    have zA := KA.size
    have z3 := K3.size
    have lG := h.log x hb hG
    have KK : KL Ba w w4.drew := ((KL.of0 KA (by omega)).trans ((KL.of K3 nT (fun i hi => by (simp only [List.mem_cons, List.not_mem_nil, or_false] at hi; omega)) (by omega)).trans (KL.of r4 nS (fun i hi => by (simp only [List.mem_cons, List.not_mem_nil, or_false] at hi; omega)) (by omega)))).drew
    have B4 : Bx w4 w.heap.size 26 #[.int .u8 3, .int .i64 0, .int .u64 5] := B3.kept r4 (fun hm => nS _ hm _ (Or.inl rfl) _ B3)
    exact ⟨a, c, rfl, ⟨_, s2, G2, rfl, r1, r2.kept (Kept.refl [] w4).drew (fun _ _ => by simp), T4, KK⟩, Bx.cell r3.tab 0 rfl, r3.lk.cell 1 rfl, LL w4.drew T4.lks, T4.hol.len Try.underlying71 3, B4.cell 0 rfl, B4.cell 1 rfl, B4.cell 2 rfl⟩
  have L2' : (Instr.lookup 64 (.map (some b2)) (.int .i64 x) false).run Try.prog w1.drew = .ok (.map (some hb)) w1.drew := L2
  have L3' : (Instr.lookup 64 (.map (some b2)) (.int .i64 x) false).run Try.prog w2 = .ok (.map (some hb)) w2 := L3
  have hD1' : (Builtin.delete_ #[71, 3] 0 #[.map (some bm), .int .i64 x]).run Try.prog A.drew = .ok (.tuple #[]) w1 := hD1
  have hD2' : (Builtin.delete_ #[82, 26] 0 #[.map (some hb), .agg #[.int .u8 3, .int .i64 0, .int .u64 5]]).run Try.prog w1.drew = .ok (.tuple #[]) w2 := hD2
  have hD3' : (Builtin.delete_ #[64, 3] 0 #[.map (some b2), .int .i64 x]).run Try.prog w2 = .ok (.tuple #[]) w3 := hD3
  have LEN' : (Builtin.len_ #[82] 3 #[.map (some hb)]).run Try.prog w2 = .ok (.int .i64 0) w2 := LEN
  have t11 := tb1.cell 1 (v := .map (some b2)) rfl
  have u10 := B1.cell 0 (v := .int .u8 3) rfl
  have u11 := B1.cell 1 (v := .int .i64 0) rfl
  have u12 := B1.cell 2 (v := .int .u64 5) rfl
  have t21 := tb2.cell 1 (v := .map (some b2)) rfl
  have u30 := B3.cell 0 (v := .int .u8 3) rfl
  have u31 := B3.cell 1 (v := .int .i64 0) rfl
  have u32 := B3.cell 2 (v := .int .u64 5) rfl
  obtain ⟨n2, hn2⟩ : ∃ n, n = st2.2.2 := ⟨_, rfl⟩
  rw [← hn2] at REST hn
  have hnz : ((n2 : Int) == 0) = false := by simp; exact hn
  have HE := Lib.hid hA
  clear h hx hF hG HLI hA KA HA B0 LL s12 s13 s1m s23 s2m s3m f1 f2 f3 fm mb m1 k1 k1' hD1 tb1 B1 g1 mb1 L2 hD2 m2 k2 k2' tb2 B2 g2 L3 LEN hD3 m3 k3 T3 K3 B3 hn hn2
  unfold aV at *
  go_enter Try.func43, Try.ntmps43
  go_wp2_with fail
  rw [← HE.out]
  go_region
  go_wp2_with fail
  go_region
  go_wp2_with (go_at_call 46; refine LI.out.mono ?_; intro e w4 hR; obtain ⟨a, c, rfl, FIN, r1, r2, r3, r4, r5, r6, r7⟩ := REST.out e w4 hR; clear hR)
  go_region
  go_wp2_with fail
  go_ret
  exact FIN.out
end
end Lk
end Go.Proofs.Ytpiiccomkfcifaa
