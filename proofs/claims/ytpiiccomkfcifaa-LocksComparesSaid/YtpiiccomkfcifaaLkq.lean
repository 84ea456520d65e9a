/- locks: Ask. -/
import Derived.Test.YtpiiccomkfcifaaLkr
namespace Go.Proofs.Ytpiiccomkfcifaa
set_option linter.unusedVariables false
open Go.RowKit
namespace Lk
open Go.Proofs.Ytpiiccomkfcifaa.Mpf Go.PlainAid
/-- Blocks that are a lock's name, or a need, stay. -/
def KT (Ba : Nat) (w w' : World) : Prop := KL Ba w w' ∧ ∀ B cs, Bx w B 46 cs → Bx w' B 46 cs
theorem KT.of {Ba : Nat} {S : List Nat} {w w' : World} (k : Kept S w w') (h : ∀ i ∈ S, (∀ t, Ty t → ∀ cs, ¬ Bx w i t cs) ∧ ∀ cs, ¬ Bx w i 46 cs) (hS : ∀ i ∈ S, Ba ≤ i) (hB : Ba ≤ w.heap.size) : KT Ba w w' :=
  ⟨KL.of k (fun i hi => (h i hi).1) hS hB, fun B cs hB => hB.kept k (fun hm => (h B hm).2 cs hB)⟩
theorem KT.trans {Ba : Nat} {a b c : World} (h : KT Ba a b) (k : KT Ba b c) : KT Ba a c := ⟨h.1.trans k.1, fun B cs hB => k.2 B cs (h.2 B cs hB)⟩
theorem mp_no2 {K : Type} {P : Program} {t : TypeId} {M : MapK P t K} {w : World} {b n : Nat} {f : K → Option Value} (h : Mp M w b n f) : (∀ t, Ty t → ∀ cs, ¬ Bx w b t cs) ∧ ∀ cs, ¬ Bx w b 46 cs := ⟨mp_no h, fun cs hB => h.ne hB rfl⟩
theorem bx_no2 {w : World} {b : Nat} {t : TypeId} {ds : Array Value} (h : Bx w b t ds) (ht : ¬ (t = 26 ∨ t = 3)) (h2 : t ≠ 46) : (∀ t, Ty t → ∀ cs, ¬ Bx w b t cs) ∧ ∀ cs, ¬ Bx w b 46 cs := ⟨bx_no h ht, fun cs hB => (Bx.type_ne h hB h2) rfl⟩
section
variable {Ba : Nat} {w : World} {p b1 b2 b3 : Nat}
/-- What Ask does. -/
def AskR (Ba : Nat) (w : World) (p b1 b2 b3 : Nat) (r : Bool) (st2 : St) (q2 : List (Nat × Bool)) (R : (Nat → Option Value) → Prop) (ng2 : Nat) (H2 : Nat → Option Value) (nh2 : Nat) (e : Ending) (w' : World) : Prop :=
  ∃ k bm s2 G2, e = .returned (.tuple #[.bool r, .int .i64 0]) ∧ R G2 ∧ LT Ba w' p b1 b2 b3 k bm st2 s2 q2 G2 ng2 H2 nh2 ∧ KL Ba w w'
set_option maxHeartbeats 4000000 in
set_option maxRecDepth 100000 in
theorem Ask_any {x : Nat} {b : Bool} {st' st2 : St} {q' q1 q2 : List (Nat × Bool)} {G' H' H2 : Nat → Option Value} {ng' nh' ng2 nh2 : Nat} {R : (Nat → Option Value) → Prop} (hx : x < 9223372036854775808) (hBa : Ba ≤ w.heap.size)
    (IW : ∀ w', Kept [] w w' → Calls Try.prog 40 #[.pointer (some ⟨p, 0, none⟩), .int .i64 x] w' fun e w'' => e = .returned (.bool false) ∧ Kept [] w' w'')
    (HO : ∀ w', Kept [] w w' → Calls Try.prog 44 #[.pointer (some ⟨p, 0, none⟩), .int .i64 x, aV] w' fun e w'' => e = .returned (.bool false) ∧ Kept [] w' w'')
    (WT : ∀ w', Kept [] w w' → Calls Try.prog 45 #[.pointer (some ⟨p, 0, none⟩), .int .i64 x, needV b] w' fun e w'' => e = .returned (.tuple #[]) ∧ ∃ k bm s', LT Ba w'' p b1 b2 b3 k bm st' s' q' G' ng' H' nh' ∧ KT Ba w' w'')
    (LI : ∀ w3 k bm s', LT Ba w3 p b1 b2 b3 k bm st' s' q' G' ng' H' nh' → Calls Try.prog 46 #[.pointer (some ⟨p, 0, none⟩), aV] w3 (LetR Ba w3 p b1 b2 b3 k bm st2 q1 q2 R ng2 H2 nh2)) :
    Calls Try.prog 27 #[.pointer (some ⟨p, 0, none⟩), .int .i64 x, needV b] w (AskR Ba w p b1 b2 b3 (decide (0 < q1.length)) st2 q2 R ng2 H2 nh2) := by
  obtain ⟨A, hA⟩ : ∃ A, A = w.alloc (.cells #[.int .u8 3, .int .i64 0, .int .u64 5, .bool b] 46) := ⟨_, rfl⟩
  have KA : Hid (Kept [] w A) := by rw [hA]; exact (Kept.refl _ _).alloc _
  have B0 : Hid (Bx A w.heap.size 46 #[.int .u8 3, .int .i64 0, .int .u64 5, .bool b]) := by rw [hA]; exact Bx.made _ _ _
  have HIW := Lib.hid IW
  have HHO := Lib.hid HO
  have HWT := Lib.hid WT
  have HLI := Lib.hid LI
  have HE := Lib.hid hA
  have HBa := Lib.hid hBa
  clear IW HO WT LI hA hx hBa
  unfold aV needV at *
  go_enter Try.func27, Try.ntmps27
  go_upto_region 1 with (fail)
  rw [← HE.out]
  go_wp2_with (first | (go_at_call 40; refine (HIW.out _ KA.out).mono ?_; rintro e w2 ⟨rfl, k2⟩; have K2 := Lib.hid (KA.out.trans k2 (fun i hi => by cases hi)); have B2 := Lib.hid (B0.out.kept k2 (by simp)); have m0 := B2.out.cell 0 (v := .int .u8 3) rfl; have m1 := B2.out.cell 1 (v := .int .i64 0) rfl; have m2 := B2.out.cell 2 (v := .int .u64 5) rfl; clear k2) | (go_at_call 44; refine (HHO.out _ K2.out).mono ?_; rintro e w3 ⟨rfl, k3⟩; have K3 := Lib.hid (K2.out.trans k3 (fun i hi => by cases hi)); have B3 := Lib.hid (B2.out.kept k3 (by simp)); have n0 := B3.out.cell 0 (v := .int .u8 3) rfl; have n1 := B3.out.cell 1 (v := .int .i64 0) rfl; have n2 := B3.out.cell 2 (v := .int .u64 5) rfl; have n3 := B3.out.cell 3 (v := .bool b) rfl; clear k3) | (go_at_call 45; refine (HWT.out _ K3.out).mono ?_; rintro e w4 ⟨rfl, k, bm, s', t4, k4⟩; have T4 := Lib.hid t4; have K4 := Lib.hid k4; have B4 := Lib.hid (k4.2 _ _ B3.out); have p0 := B4.out.cell 0 (v := .int .u8 3) rfl; have p1 := B4.out.cell 1 (v := .int .i64 0) rfl; have p2 := B4.out.cell 2 (v := .int .u64 5) rfl; clear t4 k4) | (go_at_call 46; refine (HLI.out _ _ _ _ T4.out).mono ?_; rintro e w5 ⟨s1, s2, G2, rfl, r1, r2, r3, r4⟩; obtain ⟨a, c, rfl, -, -⟩ := r2.slice; have FIN : Hid (AskR Ba w p b1 b2 b3 (decide (0 < q1.length)) st2 q2 R ng2 H2 nh2 (.returned (.tuple #[.bool (decide (0 < q1.length)), .int .i64 0])) w5) := ⟨k, bm, s2, G2, rfl, r1, r3, ((KL.of0 K3.out HBa.out).trans K4.out.1).trans (KL.of r4 (fun i hi => by (simp only [List.mem_cons, List.not_mem_nil, or_false] at hi; rcases hi with rfl | rfl | rfl | rfl; exact bx_no T4.out.lk (by decide); exact mp_no T4.out.hol; exact mp_no T4.out.hld; exact mp_no T4.out.wts)) (fun i hi => by (have := T4.out.lo; simp only [List.mem_cons, List.not_mem_nil, or_false] at hi; omega)) (Nat.le_trans (Nat.le_trans HBa.out K3.out.size) K4.out.1.2.size))⟩; clear r1 r2 r3 r4))
  go_ret2
  exact FIN.out
end
end Lk
end Go.Proofs.Ytpiiccomkfcifaa
