/- locks: Queue, Ask, Free, Idle. -/
import Derived.Test.YtpiiccomkfcifaaLks
namespace Go.Proofs.Ytpiiccomkfcifaa
set_option linter.unusedVariables false
open Go.RowKit
namespace Lk
open Go.Proofs.Ytpiiccomkfcifaa.Mpf Go.PlainAid
section
variable {Ba : Nat} {w : World} {p b1 b2 b3 k bm : Nat} {st : St} {s : Value} {q : List (Nat × Bool)} {G : Nat → Option Value} {ng : Nat} {H : Nat → Option Value} {nh : Nat}
theorem Idle_any (h : LT Ba w p b1 b2 b3 k bm st s q G ng H nh) : Calls Try.prog 25 #[.pointer (some ⟨p, 0, none⟩)] w fun e w' => e = .returned (.bool false) ∧ Kept [] w w' := by
  have c0 := Bx.cell h.tab 0 (v := .map (some b1)) rfl
  have LEN := h.lks.len Try.underlying63 3
  have LEN' : (Builtin.len_ #[63] 3 #[.map (some b1)]).run Try.prog w = .ok (.int .i64 1) w := LEN
  clear h LEN
  go_enter Try.func25, Try.ntmps25
  go_wp2_with fail
  go_ret
  exact ⟨rfl, Kept.refl _ _⟩
set_option maxHeartbeats 4000000 in
set_option maxRecDepth 100000 in
theorem Queue_any (h : LT Ba w p b1 b2 b3 k bm st s q G ng H nh) (hq : q.length ≤ 1000) : Calls Try.prog 17 #[.pointer (some ⟨p, 0, none⟩), aV] w fun e w' => ∃ v, e = .returned v ∧ Nu w' v (q.map (·.1)) ∧ Kept [] w w' := by
  obtain ⟨A, hA⟩ : ∃ A, A = w.alloc (.cells #[.int .u8 3, .int .i64 0, .int .u64 5] 26) := ⟨_, rfl⟩
  have KA : Kept [] w A := by rw [hA]; exact (Kept.refl _ _).alloc _
  have HA := h.kept0 KA
  have B0 : Bx A w.heap.size 26 #[.int .u8 3, .int .i64 0, .int .u64 5] := by rw [hA]; exact Bx.made _ _ _
  have L1 : (Instr.lookup 63 (.map (some b1)) (.agg #[.int .u8 3, .int .i64 0, .int .u64 5]) true).run Try.prog A.drew = .ok (.tuple #[.pointer (some ⟨k, 0, none⟩), .bool true]) A.drew := (HA.lks.drew).look Try.underlying63 (zero_lock A.drew) (x := ()) trivial true
  have c0 := Bx.cell HA.tab 0 (v := .map (some b1)) rfl
  have l0 := B0.cell 0 (v := .int .u8 3) rfl
  have l1 := B0.cell 1 (v := .int .i64 0) rfl
  have l2 := B0.cell 2 (v := .int .u64 5) rfl
  have HAd := HA.kept0 (Kept.refl [] A).drew
  have d2 := HAd.lk.cell 2 (v := s) rfl
  have PE := Lib.hid (people_any HAd.row hq)
  have KD : Hid (Kept [] w A.drew) := KA.drew
  have HE := Lib.hid hA
  clear h hq hA KA HA B0 HAd
  unfold aV
  go_enter Try.func17, Try.ntmps17
  go_wp2_with fail
  rw [← HE.out]
  go_region
  go_wp2_with (go_at_call 34; refine PE.out.mono ?_; rintro e w2 ⟨v, rfl, hv, k2⟩; have FIN : Hid (Nu w2 v (q.map (·.1)) ∧ Kept [] w w2) := ⟨hv, KD.out.trans k2 (fun i hi => by cases hi)⟩; clear hv k2)
  go_ret
  exact ⟨_, rfl, FIN.out.1, FIN.out.2⟩
set_option maxHeartbeats 4000000 in
set_option maxRecDepth 100000 in
theorem Free_any {x hb : Nat} {st2 : St} {q1 q2 : List (Nat × Bool)} {R : (Nat → Option Value) → Prop} {ng2 : Nat} {H2 : Nat → Option Value} {nh2 : Nat} (h : LT Ba w p b1 b2 b3 k bm st s q G ng H nh) (hx : x < 9223372036854775808) (hF : (st.2.1 x).isSome = true) (hG : G x = some (.map (some hb)))
    (HLI : ∀ w3, LT Ba w3 p b1 b2 b3 k bm (st.1, upd st.2.1 x none, st.2.2 - 1) s q (upd G x none) (ng - 1) H nh → Calls Try.prog 46 #[.pointer (some ⟨p, 0, none⟩), aV] w3 (LetR Ba w3 p b1 b2 b3 k bm st2 q1 q2 R ng2 H2 nh2)) (hn : st2.2.2 ≠ 0) (hq1 : q1.length ≤ 1000) :
    Calls Try.prog 28 #[.pointer (some ⟨p, 0, none⟩), .int .i64 x, aV] w fun e w' => ∃ v s2 G2, e = .returned (.tuple #[v, .int .i64 0]) ∧ R G2 ∧ Nu w' v (q1.map (·.1)) ∧ LT Ba w' p b1 b2 b3 k bm st2 s2 q2 G2 ng2 H2 nh2 ∧ KL Ba w w' := by
  obtain ⟨A, hA⟩ : ∃ A, A = w.alloc (.cells #[.int .u8 3, .int .i64 0, .int .u64 5] 26) := ⟨_, rfl⟩
  have KA : Hid (Kept [] w A) := by rw [hA]; exact (Kept.refl _ _).alloc _
  have HA := Lib.hid (h.kept0 KA.out)
  have B0 : Hid (Bx A w.heap.size 26 #[.int .u8 3, .int .i64 0, .int .u64 5]) := by rw [hA]; exact Bx.made _ _ _
  have HO := holds_any HA.out.tab HA.out.hld HA.out.own x hx
  rw [hG] at HO
  simp only [Option.isSome_some] at HO
  have HOH := Lib.hid HO
  have GO := Lib.hid (fun (w' : World) (kk : Kept [] A w') => letGo_any (HA.out.kept0 kk) hx hF hG HLI hn)
  have l0 := B0.out.cell 0 (v := .int .u8 3) rfl
  have l1 := B0.out.cell 1 (v := .int .i64 0) rfl
  have l2 := B0.out.cell 2 (v := .int .u64 5) rfl
  have HQ := Lib.hid hq1
  have HBa : Hid (Ba ≤ w.heap.size) := by have := h.lo; have := Bx.lt h.tab; show _ ≤ _; omega
  have HE := Lib.hid hA
  clear h hx hF hG HLI hn hA HO hq1
  unfold aV at *
  go_enter Try.func28, Try.ntmps28
  go_upto_region 1 with (fail)
  rw [← HE.out]
  go_wp2_with (first | (go_at_call 44; refine HOH.out.mono ?_; rintro e w2 ⟨rfl, k2⟩; have K2 := Lib.hid k2; have B2 := B0.out.kept k2 (by simp); have m0 := B2.cell 0 (v := .int .u8 3) rfl; have m1 := B2.cell 1 (v := .int .i64 0) rfl; have m2 := B2.cell 2 (v := .int .u64 5) rfl; clear k2 B2) | (go_at_call 43; refine (GO.out _ K2.out).mono ?_; rintro e w3 ⟨s1, s2, G2, rfl, r1, r2, r3, r4⟩; have R3 := Lib.hid (And.intro r1 (And.intro r3 r4)); have PE := Lib.hid (people_any r2 HQ.out); clear r1 r2 r3 r4) | (go_at_call 34; refine PE.out.mono ?_; rintro e w4 ⟨v, rfl, hv, k4⟩; have FIN : Hid (∃ s2 G2, R G2 ∧ Nu w4 v (q1.map (·.1)) ∧ LT Ba w4 p b1 b2 b3 k bm st2 s2 q2 G2 ng2 H2 nh2 ∧ KL Ba w w4) := ⟨s2, G2, R3.out.1, hv, R3.out.2.1.kept0 k4, ((KL.of0 KA.out HBa.out).trans (KL.of0 K2.out (Nat.le_trans HBa.out KA.out.size))).trans (R3.out.2.2.trans (KL.of0 k4 (Nat.le_trans (Nat.le_trans (Nat.le_trans HBa.out KA.out.size) K2.out.size) R3.out.2.2.2.size)))⟩; clear hv k4))
  go_ret2
  obtain ⟨s2', G2', f1, f2, f3, f4⟩ := FIN.out
  exact ⟨_, _, _, rfl, f1, f2, f3, f4⟩
end
end Lk
end Go.Proofs.Ytpiiccomkfcifaa
