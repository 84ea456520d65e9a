/- The law's does: one step of a script. -/
import Derived.Test.YtepemdicbipphaaPlb
namespace Go.Proofs.Ytepemdicbipphaa
set_option linter.unusedVariables false
open Go.RowKit

theorem PlOut.more {w w' : World} {k N M p q a : Nat} {col : Nat → Nat} {st : CS} (h : PlOut w k col N p q st a w') (hm : N ≤ M) : PlOut w k col M p q st a w' := by
  obtain ⟨S, R, c, h1, h2⟩ := h
  exact ⟨S, R, c, ⟨h1.out.bk.more hm, h1.out.ct, h1.out.rf, h1.out.sc, h1.out.rc, h1.out.ha⟩, h2⟩
/-- What a step leaves. -/
def DoesOut (w : World) (k : Nat) (col : Nat → Nat) (N p q a G : Nat) (e : Ending) (w' : World) : Prop := e = .returned (.bool true) ∧ ∃ st', Hid (Gd st' G) ∧ PlOut w k col N p q st' a w'
namespace Two
theorem does_none (w : World) (k : Nat) (col : Nat → Nat) (N p q : Nat) (S R : List Nat) (st : CS) (a F G : Nat) (who kind : Int) (b : Value) (n : Nat) (h1 : (kind == 1) = false) (h2 : (kind == 2) = false) (h3 : (kind == 3) = false) (h4 : (kind == 4) = false) (h5 : (kind == 5) = false) (h6 : (kind == 6) = false) (hG : F ≤ G) (g : Hid (Gd st F)) (h : Hid (Pl w k col N p q S R st st a)) :
    Calls Try.prog 15 #[.pointer (some ⟨p, 0, none⟩), .pointer (some ⟨q, 0, none⟩), .agg #[.int .i64 who, .int .i64 kind, b, .int .u32 n], .pointer (some ⟨k, 0, none⟩)] w (DoesOut w k col N p q a G) := by
  go_enter Try.func15, Try.ntmps15
  go_wp2_with fail
  go_ret
  obtain ⟨P1, F1⟩ := h.out.fresh ((Kept.refl [] w).alloc _)
  exact ⟨rfl, st, g.out.more hG, S, R, _, P1, F1⟩
theorem does_ask (w : World) (k : Nat) (col : Nat → Nat) (N p q : Nat) (S R : List Nat) (st : CS) (a F G : Nat) (who : Int) (b : Value) (n : Nat) (hG : F ≤ G) (hF : F ≤ 1000000000000) (g : Hid (Gd st F)) (h : Hid (Pl w k col N p q S R st st a)) :
    Calls Try.prog 15 #[.pointer (some ⟨p, 0, none⟩), .pointer (some ⟨q, 0, none⟩), .agg #[.int .i64 who, .int .i64 3, b, .int .u32 n], .pointer (some ⟨k, 0, none⟩)] w (DoesOut w k col N p q a G) := by
  obtain ⟨w1, hw1⟩ : ∃ w1, w1 = w.alloc (.cells #[.int .i64 who, .int .i64 3, b, .int .u32 n] 45 (0, 0)) := ⟨_, rfl⟩
  have K1 : Kept [] w w1 := by rw [hw1]; exact (Kept.refl [] w).alloc _
  obtain ⟨P1, F1⟩ := h.out.fresh K1
  have ASK := Lib.hid (asked_any w1 k _ N p q S R st a F hF g P1)
  rw [hw1] at ASK
  have P1h := Lib.hid P1
  have F1h := Lib.hid F1
  have HW1 := Lib.hid hw1
  clear P1 F1 K1 hw1
  go_enter Try.func15, Try.ntmps15
  go_wp2_with fail
  refine ASK.out.mono ?_
  rintro e w2 ⟨rfl, k2⟩
  rw [← HW1.out] at k2
  have K2 := Lib.hid k2
  clear k2 ASK
  go_wp2_with fail
  go_ret
  exact ⟨rfl, st, g.out.more hG, S, R, _, P1h.out.pure K2.out, F1h.out.pure K2.out⟩
theorem does_feed (w : World) (k : Nat) (col : Nat → Nat) (N p q : Nat) (S R T : List Nat) (st : CS) (a F G : Nat) (who : Int) (b : Value) (n : Nat) (l : List UInt8) (hl : l.length ≤ 1152921504) (hG : F + l.length ≤ G) (hF : F ≤ 1000000000000) (g : Hid (Gd st F)) (hb : Hid (Src w b l T)) (hT : Hid (∀ t ∈ T, col t = 7)) (hT2 : Hid (∀ t ∈ T, t < w.heap.size)) (h : Hid (Pl w k col N p q S R st st a)) :
    Calls Try.prog 15 #[.pointer (some ⟨p, 0, none⟩), .pointer (some ⟨q, 0, none⟩), .agg #[.int .i64 who, .int .i64 1, b, .int .u32 n], .pointer (some ⟨k, 0, none⟩)] w (DoesOut w k col N p q a G) := by
  obtain ⟨ba, bc, rfl⟩ := src_slice hb.out
  obtain ⟨w1, hw1⟩ : ∃ w1, w1 = w.alloc (.cells #[.int .i64 who, .int .i64 1, .slice ba l.length bc, .int .u32 n] 45 (0, 0)) := ⟨_, rfl⟩
  have K1 : Kept [] w w1 := by rw [hw1]; exact (Kept.refl [] w).alloc _
  obtain ⟨P1, F1⟩ := h.out.fresh K1
  have hz := K1.size
  have FED := Lib.hid (fed_any w1 k _ N p q S R T st a F (.slice ba l.length bc) l hl hF g (hb.out.kept K1 (fun _ _ hm => by cases hm)) (fun t ht => by rw [newc_old (hT2.out t ht)]; exact hT.out t ht) (fun t ht => by have := hT2.out t ht; omega) P1)
  rw [hw1] at FED
  obtain ⟨x, hx⟩ : ∃ x, x = st.feedK l := ⟨_, rfl⟩
  rw [← hx] at FED
  have F1h := Lib.hid F1
  have HW1 := Lib.hid hw1
  clear P1 F1 K1 hw1 hx hz
  go_enter Try.func15, Try.ntmps15
  go_wp2_with fail
  refine FED.out.mono ?_
  rintro e w2 ⟨rfl, o2⟩
  rw [← HW1.out] at o2
  have O2 := Lib.hid o2
  clear o2 FED
  go_wp2_with fail
  go_ret
  exact ⟨rfl, _, (g.out.feed l).more hG, O2.out.after F1h.out⟩
theorem does_pour (w : World) (k : Nat) (col : Nat → Nat) (N p q : Nat) (S R T : List Nat) (st : CS) (a F G : Nat) (who : Int) (b : Value) (n : Nat) (l : List UInt8) (hl : l.length ≤ 1152921504) (hN : N + 5 * l.length + 10 ≤ 1000000000) (hG : F + l.length ≤ G) (hF : F + l.length ≤ 1000000000000) (hcap : ∃ ba bc, b = .slice ba l.length bc ∧ l.length ≤ bc ∧ bc ≤ 9223372036854775807) (g : Hid (Gd st F)) (hb : Hid (Src w b l T)) (hT : Hid (∀ t ∈ T, col t = 7)) (hT2 : Hid (∀ t ∈ T, t < w.heap.size)) (h : Hid (Pl w k col N p q S R st st a)) :
    Calls Try.prog 15 #[.pointer (some ⟨p, 0, none⟩), .pointer (some ⟨q, 0, none⟩), .agg #[.int .i64 who, .int .i64 5, b, .int .u32 n], .pointer (some ⟨k, 0, none⟩)] w (DoesOut w k col (N + 5 * l.length + 10) p q a G) := by
  have HCAP := Lib.hid hcap
  obtain ⟨ba, bc, rfl⟩ := src_slice hb.out
  obtain ⟨w1, hw1⟩ : ∃ w1, w1 = w.alloc (.cells #[.int .i64 who, .int .i64 5, .slice ba l.length bc, .int .u32 n] 45 (0, 0)) := ⟨_, rfl⟩
  have K1 : Kept [] w w1 := by rw [hw1]; exact (Kept.refl [] w).alloc _
  obtain ⟨P1, F1⟩ := h.out.fresh K1
  have hz := K1.size
  have POUR := Lib.hid (pours_any w1 k _ N p q S R T st a F (.slice ba l.length bc) l hl hN hF g HCAP.out (hb.out.kept K1 (fun _ _ hm => by cases hm)) (fun t ht => by rw [newc_old (hT2.out t ht)]; exact hT.out t ht) (fun t ht => by have := hT2.out t ht; omega) P1)
  rw [hw1] at POUR
  have F1h := Lib.hid F1
  have HW1 := Lib.hid hw1
  clear P1 F1 K1 hw1 hz hcap
  go_enter Try.func15, Try.ntmps15
  go_wp2_with fail
  refine POUR.out.mono ?_
  rintro e w2 ⟨rfl, st', g2, o2⟩
  rw [← HW1.out] at o2
  have O2 := Lib.hid o2
  clear o2 POUR
  go_wp2_with fail
  go_ret
  exact ⟨rfl, st', g2.out.more hG, O2.out.after F1h.out⟩
theorem does_next (w : World) (k : Nat) (col : Nat → Nat) (N p q : Nat) (S R : List Nat) (st : CS) (a F G : Nat) (who : Int) (b : Value) (n : Nat) (hN : N + 10 ≤ 1000000000) (hG : F ≤ G) (hF : F ≤ 1000000000000) (g : Hid (Gd st F)) (h : Hid (Pl w k col N p q S R st st a)) :
    Calls Try.prog 15 #[.pointer (some ⟨p, 0, none⟩), .pointer (some ⟨q, 0, none⟩), .agg #[.int .i64 who, .int .i64 2, b, .int .u32 n], .pointer (some ⟨k, 0, none⟩)] w (DoesOut w k col (N + 10) p q a G) := by
  obtain ⟨w1, hw1⟩ : ∃ w1, w1 = w.alloc (.cells #[.int .i64 who, .int .i64 2, b, .int .u32 n] 45 (0, 0)) := ⟨_, rfl⟩
  have K1 : Kept [] w w1 := by rw [hw1]; exact (Kept.refl [] w).alloc _
  obtain ⟨P1, F1⟩ := h.out.fresh K1
  have T1 := Lib.hid (taken_any w1 k _ N p q S R st a F (by omega) hF g P1)
  rw [hw1] at T1
  obtain ⟨x, hx⟩ : ∃ x, x = st.whole := ⟨_, rfl⟩
  rw [← hx] at T1
  have F1h := Lib.hid F1
  have HW1 := Lib.hid hw1
  clear P1 F1 K1 hw1 hx
  go_enter Try.func15, Try.ntmps15
  go_wp2_with fail
  refine T1.out.mono ?_
  rintro e w2 ⟨rfl, S2, R2, c2, P2, F2⟩
  rw [← HW1.out] at F2
  have T2 := Lib.hid (taken_any w2 k _ (N + 5) p q S2 R2 st.next a F (by omega) hF g.out.next P2)
  obtain ⟨y, hy⟩ : ∃ x, x = st.next.whole := ⟨_, rfl⟩
  rw [← hy] at T2
  clear hy T1
  go_wp2_with fail
  refine T2.out.mono ?_
  rintro e w3 ⟨rfl, o3⟩
  have O3 := Lib.hid o3
  clear o3 T2
  go_wp2_with fail
  go_ret
  exact ⟨rfl, st.next.next, g.out.next.next.more hG, O3.out.after (F1h.out.trans F2.out)⟩
theorem does_limit (w : World) (k : Nat) (col : Nat → Nat) (N p q : Nat) (S R : List Nat) (st : CS) (a F G : Nat) (who : Int) (b : Value) (n : Nat) (hG : F ≤ G) (g : Hid (Gd st F)) (h : Hid (Pl w k col N p q S R st st a)) :
    Calls Try.prog 15 #[.pointer (some ⟨p, 0, none⟩), .pointer (some ⟨q, 0, none⟩), .agg #[.int .i64 who, .int .i64 4, b, .int .u32 n], .pointer (some ⟨k, 0, none⟩)] w (DoesOut w k col N p q a G) := by
  obtain ⟨w1, hw1⟩ : ∃ w1, w1 = w.alloc (.cells #[.int .i64 who, .int .i64 4, b, .int .u32 n] 45 (0, 0)) := ⟨_, rfl⟩
  have K1 : Kept [] w w1 := by rw [hw1]; exact (Kept.refl [] w).alloc _
  obtain ⟨P1, F1⟩ := h.out.fresh K1
  have L1 := Lib.hid (Cut.limit_any w1 p S st n n rfl P1.ct)
  have BOX : w1.cell? ⟨w.heap.size, 3, none⟩ = some (.int .u32 n) := by
    rw [cell_of_row w1 w.heap.size _ _ 45 (0, 0) (by rw [hw1]; exact heap_alloc_new w _)]
    rfl
  have hb0 : w.heap.size < w1.heap.size := by rw [hw1]; simp
  have hbS : w.heap.size ∉ S := fun hm => by have := h.out.ct.lt _ hm; omega
  rw [hw1] at L1
  obtain ⟨x, hx⟩ : ∃ x, x = Cut.CS.limited n := ⟨_, rfl⟩
  rw [← hx] at L1
  have HX := Lib.hid hx
  have P1h := Lib.hid P1
  have F1h := Lib.hid F1
  have HW1 := Lib.hid hw1
  have BOXh := Lib.hid BOX
  have HBS := Lib.hid hbS
  clear P1 F1 K1 hw1 hx BOX hbS
  go_enter Try.func15, Try.ntmps15
  go_wp2_with fail
  refine L1.out.mono ?_
  rintro e w2 ⟨rfl, c2, k2⟩
  rw [← HW1.out] at k2
  obtain ⟨P2, F2⟩ := P1h.out.cut k2 c2.out (fun i hi => Or.inl hi)
  have L2 := Lib.hid (Ref.limit_any w2 q R st n n rfl P2.rf)
  rw [← HX.out] at L2
  have BOX2 : w2.cell? ⟨w.heap.size, 3, none⟩ = some (.int .u32 n) := by
    rw [← BOXh.out]
    exact World.cell?_of_block (k2.block _ hb0 HBS.out)
  have P2h := Lib.hid P2
  have F2h := Lib.hid (F1h.out.trans F2)
  clear L1 k2 c2 P2 F2
  go_wp2_with fail
  refine L2.out.mono ?_
  rintro e w3 ⟨rfl, c3, k3⟩
  obtain ⟨P3, F3⟩ := P2h.out.ref k3 c3.out (fun i hi => Or.inl hi)
  have P3h := Lib.hid P3
  have F3h := Lib.hid (F2h.out.trans F3)
  clear L2 k3 c3 P3 F3
  go_wp2_with fail
  go_ret
  exact ⟨rfl, _, (g.out.limit n).more hG, S, R, _, P3h, F3h⟩
end Two
end Go.Proofs.Ytepemdicbipphaa
