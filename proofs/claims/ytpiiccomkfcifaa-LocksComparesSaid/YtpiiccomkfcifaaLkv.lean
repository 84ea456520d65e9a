/- locks: New; wait where the lock is not there yet. -/
import Derived.Test.YtpiiccomkfcifaaLkw
namespace Go.Proofs.Ytpiiccomkfcifaa
set_option linter.unusedVariables false
open Go.RowKit
namespace Lk
open Go.Proofs.Ytpiiccomkfcifaa.Mpf Go.PlainAid
/-- A table in which nobody holds any. -/
structure LE (Ba : Nat) (w : World) (p b1 b2 b3 : Nat) : Prop where
  tab : Tab w p b1 b2 b3
  lks : Mp LK w b1 0 (fun _ => none)
  hld : Mp IK w b2 0 (fun _ => none)
  wts : Mp IK w b3 0 (fun _ => none)
  sep : b1 ≠ b2 ∧ b1 ≠ b3 ∧ b2 ≠ b3
  lo : Ba ≤ p ∧ Ba ≤ b1 ∧ Ba ≤ b2 ∧ Ba ≤ b3
theorem LE.kept0 {Ba : Nat} {w w' : World} {p b1 b2 b3 : Nat} (h : LE Ba w p b1 b2 b3) (k : Kept [] w w') : LE Ba w' p b1 b2 b3 :=
  ⟨Bx.kept h.tab k (by simp), h.lks.kept k (by simp), h.hld.kept k (by simp), h.wts.kept k (by simp), h.sep, h.lo⟩
theorem New_any (w : World) : Calls Try.prog 12 #[] w fun e w' => ∃ p b1 b2 b3, e = .returned (.pointer (some ⟨p, 0, none⟩)) ∧ LE w.heap.size w' p b1 b2 b3 ∧ Kept [] w w' := by
  have hmm := @run_makeMap Try.prog
  obtain ⟨w1, h1⟩ : ∃ x, x = w.alloc (.map #[] 0) := ⟨_, rfl⟩
  obtain ⟨w2, h2⟩ : ∃ x, x = w1.alloc (.map #[] 0) := ⟨_, rfl⟩
  obtain ⟨w3, h3⟩ : ∃ x, x = w2.alloc (.map #[] 0) := ⟨_, rfl⟩
  obtain ⟨w4, h4⟩ : ∃ x, x = w3.alloc (.cells #[.map (some w.heap.size), .map (some (w.heap.size + 1)), .map (some (w.heap.size + 2))] 67) := ⟨_, rfl⟩
  have z1 : w1.heap.size = w.heap.size + 1 := by rw [h1]; simp
  have z2 : w2.heap.size = w.heap.size + 2 := by rw [h2]; simp; omega
  have z3 : w3.heap.size = w.heap.size + 3 := by rw [h3]; simp; omega
  have m1 : Mp LK w4 w.heap.size 0 (fun _ => none) := by
    have := ((((Mp.made LK w).alloc (.map #[] 0)).alloc (.map #[] 0)).alloc (.cells #[.map (some w.heap.size), .map (some (w.heap.size + 1)), .map (some (w.heap.size + 2))] 67))
    rw [h4, h3, h2, h1]; exact this
  have m2 : Mp IK w4 (w.heap.size + 1) 0 (fun _ => none) := by
    have := (((Mp.made IK w1).alloc (.map #[] 0)).alloc (.cells #[.map (some w.heap.size), .map (some (w.heap.size + 1)), .map (some (w.heap.size + 2))] 67))
    rw [z1] at this
    rw [h4, h3, h2]; exact this
  have m3 : Mp IK w4 (w.heap.size + 2) 0 (fun _ => none) := by
    have := ((Mp.made IK w2).alloc (.cells #[.map (some w.heap.size), .map (some (w.heap.size + 1)), .map (some (w.heap.size + 2))] 67))
    rw [z2] at this
    rw [h4, h3]; exact this
  have tb : Tab w4 (w.heap.size + 3) w.heap.size (w.heap.size + 1) (w.heap.size + 2) := by
    have := Bx.made w3 67 #[.map (some w.heap.size), .map (some (w.heap.size + 1)), .map (some (w.heap.size + 2))]
    rw [z3] at this
    rw [h4]; exact this
  have FIN : Hid (∃ p b1 b2 b3, (Ending.returned (Value.pointer (some ⟨w.heap.size + 3, 0, none⟩))) = .returned (.pointer (some ⟨p, 0, none⟩)) ∧ LE w.heap.size w4 p b1 b2 b3 ∧ Kept [] w w4) :=
    ⟨_, _, _, _, rfl, ⟨tb, m1, m2, m3, ⟨by omega, by omega, by omega⟩, by omega, by omega, by omega, by omega⟩, by rw [h4, h3, h2, h1]; exact ((((Kept.refl [] w).alloc _).alloc _).alloc _).alloc _⟩
  rw [h4, h3, h2, h1] at FIN
  clear h1 h2 h3 h4 z1 z2 z3 m1 m2 m3 tb
  go_enter Try.func12, Try.ntmps12
  go_wp2_with fail
  go_ret
  exact FIN.out
section
variable {Ba : Nat} {w : World} {p b1 b2 b3 : Nat}
/-- The first lock is made. -/
theorem LE.first {k bm : Nat} {A W w4 : World} (h : LE Ba A p b1 b2 b3) (kW : Kept [] A W) (hk : Bx W k 74 #[.bool false, .map (some bm), .slice none 0 0]) (hm : Mp IK W bm 0 (fun _ => none)) (fb : A.heap.size ≤ bm) (fk : A.heap.size ≤ k)
    (m1 : Mp LK w4 b1 1 (fun _ => some (.pointer (some ⟨k, 0, none⟩)))) (k1 : Kept [b1] W w4) : LT Ba w4 p b1 b2 b3 k bm (false, (fun _ => none), 0) (.slice none 0 0) [] (fun _ => none) 0 (fun _ => none) 0 := by
  have l1 := h.lks.lt; have l2 := h.hld.lt; have l3 := h.wts.lt; have lp := Bx.lt h.tab
  obtain ⟨s1, s2, s3⟩ := h.sep
  refine ⟨Bx.kept (Bx.kept h.tab kW (by simp)) k1 (by simp; exact fun e => h.lks.ne h.tab e.symm), m1, hk.kept k1 (by simp; omega), hm.kept k1 (by simp; omega), Ro.nil _, (h.hld.kept kW (by simp)).kept k1 (by simp; exact fun e => s1 e.symm), ?_, (h.wts.kept kW (by simp)).kept k1 (by simp; exact fun e => s2 e.symm), ?_, ?_, ?_, ?_, ?_, ?_, ?_⟩
  · intro x v hx; cases hx
  · intro x v hx; cases hx
  · simp; omega
  · intro x b hx; cases hx
  · intro x y b hx; cases hx
  · have := h.lo; omega
  · intro g hg; simp [Value.ownBlock] at hg
  · intro x b hx; cases hx
set_option maxHeartbeats 4000000 in
set_option maxRecDepth 100000 in
theorem wait_new {x : Nat} {b : Bool} (h : LE Ba w p b1 b2 b3) (hx : x < 9223372036854775808) :
    Calls Try.prog 45 #[.pointer (some ⟨p, 0, none⟩), .int .i64 x, needV b] w fun e w' => e = .returned (.tuple #[]) ∧ ∃ s' k bm, LT Ba w' p b1 b2 b3 k bm (false, (fun _ => none), 0) s' [(x, b)] (fun _ => none) 0 (upd (fun _ => none) x (some (needV b))) 1 ∧ Kept [b1, b3] w w' := by
  have hl2 := h.lks
  obtain ⟨es, ck, hb, -, -⟩ := hl2
  obtain ⟨A0, hA⟩ : ∃ A, A = w.alloc (.cells #[.int .u8 3, .int .i64 0, .int .u64 5, .bool b] 46) := ⟨_, rfl⟩
  have KA : Kept [] w A0 := by rw [hA]; exact (Kept.refl _ _).alloc _
  have zA : A0.heap.size = w.heap.size + 1 := by rw [hA]; simp
  have HA0 := h.kept0 KA
  have BA : Bx A0 w.heap.size 46 #[.int .u8 3, .int .i64 0, .int .u64 5, .bool b] := by rw [hA]; exact Bx.made _ _ _
  have LK2 : (Instr.lookup 63 (.map (some b1)) (.agg #[.int .u8 3, .int .i64 0, .int .u64 5]) true).run Try.prog A0.drew = .ok (.tuple #[.pointer none, .bool false]) A0.drew := (HA0.lks.drew).look Try.underlying63 (zero_lock A0.drew) (x := ()) trivial true
  have c0 := Bx.cell HA0.tab 0 (v := .map (some b1)) rfl
  have N0 := BA.cell 0 (v := .int .u8 3) rfl
  have N1 := BA.cell 1 (v := .int .i64 0) rfl
  have N2 := BA.cell 2 (v := .int .u64 5) rfl
  -- the lock
  obtain ⟨W1, hW1⟩ : ∃ W, W = A0.alloc (.map #[] 0) := ⟨_, rfl⟩
  obtain ⟨W, hW⟩ : ∃ W, W = W1.alloc (.cells #[.bool false, .map (some A0.heap.size), .slice none 0 0] 74) := ⟨_, rfl⟩
  have zW1 : W1.heap.size = A0.heap.size + 1 := by rw [hW1]; simp
  have kW : Kept [] A0 W := by rw [hW, hW1]; exact ((Kept.refl [] A0).alloc _).alloc _
  have hkW : Bx W (A0.heap.size + 1) 74 #[.bool false, .map (some A0.heap.size), .slice none 0 0] := by rw [hW, ← zW1]; exact Bx.made _ _ _
  have hmW : Mp IK W A0.heap.size 0 (fun _ => none) := by
    have := (Mp.made IK A0).alloc (.cells #[.bool false, .map (some A0.heap.size), .slice none 0 0] 74)
    rw [hW, hW1]
    exact this
  have HW0 := HA0.kept0 kW
  have BW := BA.kept kW (by simp)
  have w0 := Bx.cell HW0.tab 0 (v := .map (some b1)) rfl
  have W0' := BW.cell 0 (v := .int .u8 3) rfl
  have W1' := BW.cell 1 (v := .int .i64 0) rfl
  have W2' := BW.cell 2 (v := .int .u64 5) rfl
  obtain ⟨A, hU1, mA, kA1, -⟩ := ((HW0.lks.drew).drew).update Try.underlying63 (x := ()) trivial (.pointer (some ⟨A0.heap.size + 1, 0, none⟩))
  rw [upd_unit] at mA
  have kA2 : Kept [b1] W A := (((Kept.refl [b1] W).drew).drew).trans kA1 (fun i hi => Or.inl hi)
  have HA := HA0.first kW hkW hmW (Nat.le_refl _) (by omega) mA kA2
  have B0 : Bx A w.heap.size 46 #[.int .u8 3, .int .i64 0, .int .u64 5, .bool b] := BW.kept kA2 (by have := h.lks.lt; simp; omega)
  have hU1' : (Instr.mapUpdate 63 (.map (some b1)) (.agg #[.int .u8 3, .int .i64 0, .int .u64 5]) (.pointer (some ⟨A0.heap.size + 1, 0, none⟩))).run Try.prog W.drew.drew = .ok () A := hU1
  have kBx : A0.heap.size + 1 ≠ w.heap.size := by omega
  have c2 := HA.lk.cell 2 (v := .slice none 0 0) rfl
  have q0 : ([] : List (Nat × Bool)).length ≤ 1000 := Nat.zero_le _
  have n0 := B0.cell 0 (v := .int .u8 3) rfl
  have n1 := B0.cell 1 (v := .int .i64 0) rfl
  have n2 := B0.cell 2 (v := .int .u64 5) rfl
  have n3 := B0.cell 3 (v := .bool b) rfl
  have n3a := (B0.alloc (.cells #[.int .i64 x, .bool b] 95)).cell 3 (v := .bool b) rfl
  have c2a := (HA.lk.alloc (.cells #[.int .i64 x, .bool b] 95)).cell 2 (v := .slice none 0 0) rfl
  obtain ⟨D, hD⟩ : ∃ D, D = (A.alloc (.cells #[.int .i64 x, .bool b] 95)).drew := ⟨_, rfl⟩
  have KD : Kept [] A D := by rw [hD]; exact (((Kept.refl [] A).alloc _).drew)
  have HD := HA.kept0 KD
  have nb : D.heap[A.heap.size]? = some (.cells #[.int .i64 x, .bool b] 95 (0, 0)) := by rw [hD]; exact Bx.made A _ _
  obtain ⟨s', w3, hAp, hr3, k3, hat⟩ := HD.row.push q0 x b (ad := ⟨A.heap.size, 0, none⟩) 1 (World.news_of_block (cs := #[.int .i64 x, .bool b]) nb) 72
  obtain ⟨a', c', hs', -, -⟩ := hr3.slice
  rw [show ([] ++ [(x, b)] : List (Nat × Bool)).length = 0 + 1 by simp] at hs'
  subst hs'
  rw [hD] at hAp
  have no : ∀ i, (∀ g, (Value.slice none 0 0).ownBlock = some g → g ≠ i) → i ∉ (Value.slice none 0 0).ownBlock.toList := fun i hi hm => by
    cases e : (Value.slice none 0 0).ownBlock with
    | none => rw [e] at hm; simp at hm
    | some g => rw [e] at hm; simp at hm; exact hi g e hm.symm
  have lk3 := HD.lk.kept k3 (no _ (box_ne_own HD.lk (by decide) HD.row))
  have e2 := lk3.cell 2 (v := .slice none 0 0) rfl
  have z2 := lk3.frozen 2
  have tb3 := Bx.kept HD.tab k3 (no p (box_ne_own HD.tab (by decide) HD.row))
  have B3 := (B0.kept KD (by simp)).kept k3 (no _ (box_ne_own (B0.kept KD (by simp)) (by decide) HD.row))
  have kp : A0.heap.size + 1 ≠ p := (Bx.type_ne HA.tab HA.lk (by decide)).symm
  have kB : A0.heap.size + 1 ≠ w.heap.size := kBx
  have tb4 := Bx.other tb3 (a := ⟨A0.heap.size + 1, 2, none⟩) kp (.slice a' (0 + 1) c')
  have B4 := Bx.other B3 (a := ⟨A0.heap.size + 1, 2, none⟩) kB (.slice a' (0 + 1) c')
  have m4 : Mp IK (w3.setCell ⟨A0.heap.size + 1, 2, none⟩ (.slice a' (0 + 1) c')) b3 0 (fun _ => none) := (HD.wts.kept k3 (no b3 (mp_ne_own HD.wts HD.row))).setCell (a := ⟨A0.heap.size + 1, 2, none⟩) (fun e => HD.wts.ne HD.lk e.symm) _
  obtain ⟨w5, hU, m5, k5, -⟩ := (m4.drew).update Try.underlying65 (x := x) hx (needV b)
  obtain ⟨FIN0, FIN1⟩ := HD.asked (b := b) hr3 k3 (hat.imp id (fun e => ⟨_, e, Nat.le_refl _⟩)) rfl m5 ((Kept.refl [b3] _).drew.trans k5 (fun i hi => Or.inl hi))
  have FIN : Hid (LT Ba w5 p b1 b2 b3 (A0.heap.size + 1) A0.heap.size (false, (fun _ => none), 0) (.slice a' (0 + 1) c') [(x, b)] (fun _ => none) 0 (upd (fun _ => none) x (some (needV b))) 1 ∧ Kept [b1, b3] w w5) := (And.intro FIN0 (((((KA.mono (fun i hi => by cases hi) : Kept [b1, b3] w A0).trans kW (fun i hi => by cases hi)).trans kA2 (fun i hi => Or.inl (by simp at hi; simp [hi]))).trans KD (fun i hi => by cases hi)).trans FIN1 (fun i hi => by
    simp only [Value.ownBlock, Option.toList_none, List.mem_cons, List.not_mem_nil, or_false] at hi
    rcases hi with hi | hi
    · exact Or.inr (by omega)
    · exact Or.inl (by simp [hi])) : Kept [b1, b3] w _))
  have hU2 : (Instr.mapUpdate 65 (.map (some b3)) (.int .i64 x) (.agg #[.int .u8 3, .int .i64 0, .int .u64 5, .bool b])).run Try.prog (w3.setCell ⟨A0.heap.size + 1, 2, none⟩ (.slice a' (0 + 1) c')).drew = .ok () w5 := hU
  have t42 := tb4.cell 2 (v := .map (some b3)) rfl
  have u0 := B4.cell 0 (v := .int .u8 3) rfl
  have u1 := B4.cell 1 (v := .int .i64 0) rfl
  have u2 := B4.cell 2 (v := .int .u64 5) rfl
  have u3 := B4.cell 3 (v := .bool b) rfl
  have HE := Lib.hid hA
  have HDe := Lib.hid hD
  have HW1e := Lib.hid hW1
  have HWe := Lib.hid hW
  have hApH : Hid _ := Lib.hid hAp
  clear hAp FIN0 FIN1 h hb hx hA hD HA KA B0 HD KD nb hr3 k3 hat no lk3 tb3 B3 tb4 B4 m4 m5 k5 kp kB hU hW hW1 kW hkW hmW HW0 BW mA kA1 kA2 hU1 HA0 BA q0 kBx zA
  unfold needV
  have hmm := @run_makeMap Try.prog
  go_enter Try.func45, Try.ntmps45
  go_wp2_with fail
  rw [← HE.out]
  go_region
  go_wp2_with fail
  rw [← HW1e.out, ← HWe.out]
  go_region
  go_wp2_with fail
  go_region_law (refine step_append_run rfl (.tmp 34) (.tmp 39) 72 rfl (by simp [Act.eval]) (by simp [Act.eval]) hApH.out ?_)
  all_goals
    go_wp2_with fail
    go_region
    go_wp2_with fail
    go_end0
    exact ⟨rfl, _, _, _, FIN.out.1, FIN.out.2⟩
end
end Lk
end Go.Proofs.Ytpiiccomkfcifaa
