/- locks: the law's known; LocksNames walked. -/
import Derived.Test.YtpiiccomkfcifaaLkz
namespace Go.Proofs.Ytpiiccomkfcifaa
set_option linter.unusedVariables false
open Go.RowKit
namespace Lk
open Go.Proofs.Ytpiiccomkfcifaa.Mpf Go.PlainAid
abbrev aB (w : World) (B : Nat) : Prop := Bx w B 26 #[.int .u8 3, .int .i64 0, .int .u64 5]
theorem aB.cells {w : World} {B : Nat} (h : aB w B) : w.cell? ⟨B, 0, none⟩ = some (.int .u8 3) ∧ w.cell? ⟨B, 1, none⟩ = some (.int .i64 0) ∧ w.cell? ⟨B, 2, none⟩ = some (.int .u64 5) := ⟨h.cell 0 rfl, h.cell 1 rfl, h.cell 2 rfl⟩
theorem aB.stays {Ba : Nat} {w w' : World} {B : Nat} (h : aB w B) (k : KL Ba w w') : aB w' B := k.1 _ (Or.inl rfl) B _ h
theorem bel0 {b : Nat} {a w w' : World} (h : Below b a w) (k : Kept [] w w') (hb : b ≤ w.heap.size) : Below b a w' := h.trans (k.below (fun i hi => by cases hi) hb)
set_option maxHeartbeats 8000000 in
set_option maxRecDepth 100000 in
theorem known_any (w : World) : Calls Try.prog 9 #[] w fun e w' => e = .returned (.bool true) ∧ Below w.heap.size w w' := by
  have NW := Lib.hid (New_any w)
  have ON := Lib.hid (fun w => one_any w)
  have A1 := Lib.hid (fun (u : World) (p : Nat) (h : S0 w.heap.size u p) => ask1 h)
  have A2 := Lib.hid (fun (u : World) (p : Nat) (h : S1 w.heap.size u p) => ask2 h)
  have A3 := Lib.hid (fun (u : World) (p : Nat) (h : S2 w.heap.size u p) => ask3 h)
  have A4 := Lib.hid (fun (u : World) (p : Nat) (h : S3 w.heap.size u p) => ask4 h)
  have QU := Lib.hid (fun (u : World) (p : Nat) (h : S4 w.heap.size u p) => queue4 h)
  have FR1 := Lib.hid (fun (u : World) (p : Nat) (h : S4 w.heap.size u p) => free1 h)
  have FR2 := Lib.hid (fun (u : World) (p : Nat) (h : S5 w.heap.size u p) => free2 h)
  have FR3 := Lib.hid (fun (u : World) (p : Nat) (h : S6 w.heap.size u p) => free3 h)
  have IDL := Lib.hid (fun (u : World) (p : Nat) (h : S7 w.heap.size u p) => idle7 h)
  unfold aV at *
  go_enter Try.func9, Try.ntmps9
  go_upto_region 5 with (first | (go_at_call 12; refine NW.out.mono ?_; rintro e w1 ⟨p, b1, b2, b3, rfl, t1, k1⟩; have T1 : Hid (S0 w.heap.size w1 p) := ⟨b1, b2, b3, t1⟩; have K1 := Lib.hid k1; clear t1 k1 NW) | (go_at_call 18; refine (ON.out _).mono ?_; rintro e w2 ⟨rfl, k2⟩; have T2 := Lib.hid (T1.out.kept k2); have K2 : Hid (Kept [] w w2) := K1.out.trans k2 (fun i hi => by cases hi); clear k2 ON))
  have TA : Hid (S0 w.heap.size (w2.alloc (.cells #[.int .u8 3, .int .i64 0, .int .u64 5] 26)) p) := T2.out.kept ((Kept.refl [] w2).alloc _)
  have BA : Hid (aB (w2.alloc (.cells #[.int .u8 3, .int .i64 0, .int .u64 5] 26)) w2.heap.size) := Bx.made _ _ _
  obtain ⟨c20, c21, c22⟩ := BA.out.cells
  have ZA : Hid (Below w.heap.size w (w2.alloc (.cells #[.int .u8 3, .int .i64 0, .int .u64 5] 26))) := (K2.out.alloc _).below (fun i hi => by cases hi) (Nat.le_refl _)
  obtain ⟨bb, hbb⟩ : ∃ x, x = w2.heap.size := ⟨_, rfl⟩
  obtain ⟨wA, hwA⟩ : ∃ x, x = w2.alloc (.cells #[.int .u8 3, .int .i64 0, .int .u64 5] 26) := ⟨_, rfl⟩
  rw [← hbb] at BA c20 c21 c22 ⊢
  rw [← hwA] at TA BA c20 c21 c22 ZA ⊢
  clear hbb hwA T2 T1
  go_wp2_with (first | (go_at_call 27; refine (A1.out _ _ TA.out).mono ?_; rintro e w3 ⟨rfl, t3, k3⟩; have T3 := Lib.hid t3; have Z3 := Lib.hid (ZA.out.trans k3.2); have B3 := Lib.hid (BA.out.stays k3); obtain ⟨c30, c31, c32⟩ := B3.out.cells; clear t3 k3 A1) | (go_at_call 27; refine (A2.out _ _ T3.out).mono ?_; rintro e w4 ⟨rfl, t4, k4⟩; have T4 := Lib.hid t4; have Z4 := Lib.hid (Z3.out.trans k4.2); have B4 := Lib.hid (B3.out.stays k4); obtain ⟨c40, c41, c42⟩ := B4.out.cells; clear t4 k4 A2) | (go_at_call 27; refine (A3.out _ _ T4.out).mono ?_; rintro e w5 ⟨rfl, t5, k5⟩; have T5 := Lib.hid t5; have Z5 := Lib.hid (Z4.out.trans k5.2); have B5 := Lib.hid (B4.out.stays k5); obtain ⟨c50, c51, c52⟩ := B5.out.cells; clear t5 k5 A3) | (go_at_call 27; refine (A4.out _ _ T5.out).mono ?_; rintro e w6 ⟨rfl, t6, k6⟩; have T6 := Lib.hid t6; have Z6 := Lib.hid (Z5.out.trans k6.2); have B6 := Lib.hid (B5.out.stays k6); obtain ⟨c60, c61, c62⟩ := B6.out.cells; clear t6 k6 A4) | (go_at_call 17; refine (QU.out _ _ T6.out).mono ?_; rintro e w7 ⟨gq, cq, rfl, hq, k7⟩; have T7 := Lib.hid (T6.out.kept k7); have Q7 := Lib.hid hq; have Z7 := Lib.hid (bel0 Z6.out k7 Z6.out.size); have B7 := Lib.hid (B6.out.kept k7 (by simp)); obtain ⟨c70, c71, c72⟩ := aB.cells B7.out; clear hq k7 QU) | (go_at_call 28; refine (FR1.out _ _ T7.out).mono ?_; rintro e w8 ⟨gn, cn, rfl, t8, k8⟩; have T8 := Lib.hid t8; have Z8 := Lib.hid (Z7.out.trans k8.2); have Q8 := Lib.hid (Q7.out.stays k8); have B8 := Lib.hid (aB.stays B7.out k8); obtain ⟨c80, c81, c82⟩ := aB.cells B8.out; clear t8 k8 FR1) | (go_at_call 28; refine (FR2.out _ _ T8.out).mono ?_; rintro e w9 ⟨gt, ct, rfl, ht, t9, k9⟩; have T9 := Lib.hid t9; have Z9 := Lib.hid (Z8.out.trans k9.2); have Q9 := Lib.hid (Q8.out.stays k9); have N9 := Lib.hid ht; have B9 := Lib.hid (aB.stays B8.out k9); obtain ⟨c90, c91, c92⟩ := aB.cells B9.out; clear ht t9 k9 FR2) | (go_at_call 28; refine (FR3.out _ _ T9.out).mono ?_; rintro e w10 ⟨gf, cf, rfl, hf, t10, k10⟩; have T10 := Lib.hid t10; have Z10 := Lib.hid (Z9.out.trans k10.2); have Q10 := Lib.hid (Q9.out.stays k10); have N10 := Lib.hid (N9.out.stays k10); have M10 := Lib.hid hf; clear hf t10 k10 FR3) | (go_at_call 15; refine (same_any (w := w10.alloc (.cells #[.int .i64 3, .int .i64 4] 3)) (l := [3, 4]) (g1 := gq) (g2 := w10.heap.size) (c1 := cq) (c2 := 2) (Q10.out.kept ((Kept.refl [] w10).alloc _)) (nu_two w10) (by decide)).mono ?_; rintro e w11 ⟨rfl, k11⟩; have K11 : Hid (Kept [] w10 w11) := ((Kept.refl [] w10).alloc _).trans k11 (fun i hi => by cases hi); have Z11 := Lib.hid (bel0 Z10.out K11.out Z10.out.size); have N11 := Lib.hid (N10.out.kept K11.out); have M11 := Lib.hid (M10.out.kept K11.out); have T11 := Lib.hid (T10.out.kept K11.out); clear k11 Q10) | (go_at_call 15; refine (same_any (w := w11.alloc (.cells #[.int .i64 3] 3)) (l := [3]) (g1 := gt) (g2 := w11.heap.size) (c1 := ct) (c2 := 1) (N11.out.kept ((Kept.refl [] w11).alloc _)) (nu_one w11 3) (by decide)).mono ?_; rintro e w12 ⟨rfl, k12⟩; have K12 : Hid (Kept [] w11 w12) := ((Kept.refl [] w11).alloc _).trans k12 (fun i hi => by cases hi); have Z12 := Lib.hid (bel0 Z11.out K12.out Z11.out.size); have M12 := Lib.hid (M11.out.kept K12.out); have T12 := Lib.hid (T11.out.kept K12.out); clear k12 N11) | (go_at_call 15; refine (same_any (w := w12.alloc (.cells #[.int .i64 4] 3)) (l := [4]) (g1 := gf) (g2 := w12.heap.size) (c1 := cf) (c2 := 1) (M12.out.kept ((Kept.refl [] w12).alloc _)) (nu_one w12 4) (by decide)).mono ?_; rintro e w13 ⟨rfl, k13⟩; have K13 : Hid (Kept [] w12 w13) := ((Kept.refl [] w12).alloc _).trans k13 (fun i hi => by cases hi); have Z13 := Lib.hid (bel0 Z12.out K13.out Z12.out.size); have T13 := Lib.hid (T12.out.kept K13.out); clear k13 M12) | (go_at_call 25; refine (IDL.out _ _ T13.out).mono ?_; rintro e w14 ⟨rfl, k14⟩; have Z14 := Lib.hid (bel0 Z13.out k14 Z13.out.size); clear k14 IDL))
  go_ret
  exact ⟨rfl, Z14.out⟩
set_option maxRecDepth 100000 in
theorem names_any (w : World) : Calls Try.prog 3 #[] w fun e w' => e = .returned (.bool true) ∧ Below w.heap.size w w' := by
  have KN := Lib.hid (known_any w)
  go_enter Try.func3, Try.ntmps3
  go_wp2_with (go_at_call 9; refine KN.out.mono ?_; rintro e w1 ⟨rfl, k1⟩; have Z1 := Lib.hid k1; clear k1)
  go_ret
  exact ⟨rfl, Z1.out⟩
end Lk
end Go.Proofs.Ytpiiccomkfcifaa
