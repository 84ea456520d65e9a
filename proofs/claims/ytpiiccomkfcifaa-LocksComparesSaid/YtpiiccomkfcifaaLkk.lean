/- locks: the law's known; LocksNames walked. -/
import Derived.Test.YtpiiccomkfcifaaLkq
namespace Go.Proofs.Ytpiiccomkfcifaa
set_option linter.unusedVariables false
open Go.RowKit
namespace Lk
open Go.Proofs.Ytpiiccomkfcifaa.Mpf Go.PlainAid
section
variable {Ba : Nat} {w : World} {p b1 b2 b3 : Nat}
theorem need0 : NeedVals (fun _ => none) := fun x v h => by cases h
theorem hol0 (w : World) : Hol w (fun _ => none) := fun x v h => by cases h
/-- The first Ask. -/
theorem Ask_first {x : Nat} {b : Bool} (h : LE Ba w p b1 b2 b3) (hx : x < 9223372036854775808) :
    Calls Try.prog 27 #[.pointer (some ⟨p, 0, none⟩), .int .i64 x, needV b] w (AskR Ba w p b1 b2 b3 true (stN (false, (fun _ => none), 0) (x, b)) [] (fun G2 => ∃ hh, G2 = upd (fun _ => none) x (some (.map (some hh)))) 1 (upd (upd (fun _ => none) x (some (needV b))) x none) 0) := by
  have hs : admN (false, (fun _ => none), 0) [(x, b)] = 1 := rfl
  have hH : ((upd (fun _ => none) x (some (needV b)) : Nat → Option Value) x).isSome = true := by rw [upd_same]; rfl
  refine Ask_any (q1 := [(x, b)]) (st' := (false, (fun _ => none), 0)) (q' := [(x, b)]) (G' := fun _ => none) (ng' := 0) (H' := upd (fun _ => none) x (some (needV b))) (nh' := 1) hx (by have := h.lo; have := Bx.lt h.tab; omega) (fun w' k => ?_) (fun w' k => ?_) (fun w' k => ?_) (fun w3 k bm s' h3 => ?_)
  · exact isWaiting_any (h.kept0 k).tab (h.kept0 k).wts need0 x hx
  · exact holds_any (h.kept0 k).tab (h.kept0 k).hld (hol0 _) x hx
  · refine (wait_new (b := b) (h.kept0 k) hx).mono ?_
    rintro e w2 ⟨he, s', kk, bm, h2, k2⟩
    refine ⟨he, kk, bm, s', h2, KT.of k2 (fun i hi => ?_) (fun i hi => by have := h.lo; simp only [List.mem_cons, List.not_mem_nil, or_false] at hi; omega) (by have := h.lo; have := Bx.lt (h.kept0 k).tab; omega)⟩
    simp only [List.mem_cons, List.not_mem_nil, or_false] at hi
    rcases hi with rfl | rfl
    · exact mp_no2 (h.kept0 k).lks
    · exact mp_no2 (h.kept0 k).wts
  · have := letIn_1R h3 (by simp) (fun y hy => by simp at hy; subst hy; exact hx) hs rfl
    rw [if_pos hH] at this
    exact this
section
variable {k bm : Nat} {st : St} {s : Value} {q : List (Nat × Bool)} {G : Nat → Option Value} {ng : Nat} {H : Nat → Option Value} {nh : Nat}
theorem wait_KT {x : Nat} {b : Bool} (h : LT Ba w p b1 b2 b3 k bm st s q G ng H nh) (hq : q.length ≤ 1000) (hx : x < 9223372036854775808) (hH : H x = none) :
    Calls Try.prog 45 #[.pointer (some ⟨p, 0, none⟩), .int .i64 x, needV b] w fun e w'' => e = .returned (.tuple #[]) ∧ ∃ k bm s', LT Ba w'' p b1 b2 b3 k bm st s' (q ++ [(x, b)]) G ng (upd H x (some (needV b))) (nh + 1) ∧ KT Ba w w'' := by
  refine (wait_there (b := b) h hq hx).mono ?_
  rintro e w2 ⟨he, s', h2, k2⟩
  rw [hH] at h2
  refine ⟨he, k, bm, s', h2, KT.of k2 (fun i hi => ?_) (fun i hi => by
    have hl := h.lo
    simp only [List.mem_cons] at hi
    rcases hi with rfl | rfl | hi
    · omega
    · omega
    · exact h.lor i (by simpa using hi)) (by have := h.lo; have := Bx.lt h.tab; omega)⟩
  simp only [List.mem_cons] at hi
  rcases hi with rfl | rfl | hi
  · exact bx_no2 h.lk (by decide) (by decide)
  · exact mp_no2 h.wts
  · have hi2 : s.ownBlock = some i := by simpa using hi
    obtain ⟨cur, hc⟩ := h.row.type i hi2
    exact bx_no2 (t := 95) (ds := cur) hc (by decide) (by decide)
/-- One who is let in at once. -/
theorem Ask_in {x : Nat} {b : Bool} (h : LT Ba w p b1 b2 b3 k bm st s [] G ng H nh) (hx : x < 9223372036854775808) (hH : H x = none) (hG : G x = none) (ha : admN st [(x, b)] = 1) :
    Calls Try.prog 27 #[.pointer (some ⟨p, 0, none⟩), .int .i64 x, needV b] w (AskR Ba w p b1 b2 b3 true (stN st (x, b)) [] (fun G2 => ∃ hh, G2 = upd G x (some (.map (some hh)))) (ng + 1) (upd (upd H x (some (needV b))) x none) nh) := by
  have hH2 : ((upd H x (some (needV b)) : Nat → Option Value) x).isSome = true := by rw [upd_same]; rfl
  refine Ask_any (q1 := [(x, b)]) (st' := st) (q' := [] ++ [(x, b)]) (G' := G) (ng' := ng) (H' := upd H x (some (needV b))) (nh' := nh + 1) hx (by have := h.lo; have := Bx.lt h.tab; omega) (fun w' k => ?_) (fun w' k => ?_) (fun w' k => wait_KT (h.kept0 k) (by simp) hx hH) (fun w3 k bm s' h3 => ?_)
  · have := isWaiting_any (h.kept0 k).tab (h.kept0 k).wts h.nv x hx
    rw [hH] at this
    exact this
  · have := holds_any (h.kept0 k).tab (h.kept0 k).hld (h.kept0 k).own x hx
    rw [hG] at this
    exact this
  · have := letIn_1R (x := x) (b := b) (q := []) h3 (by simp) (fun y hy => by simp at hy; subst hy; exact hx) ha hG
    rw [if_pos hH2] at this
    exact this
/-- One who waits. -/
theorem Ask_wait {x : Nat} {b : Bool} (h : LT Ba w p b1 b2 b3 k bm st s q G ng H nh) (hq : q.length ≤ 500) (hx : x < 9223372036854775808) (hw : ∀ y ∈ q, y.1 < 9223372036854775808) (hH : H x = none) (hG : G x = none) (ha : admN st (q ++ [(x, b)]) = 0) :
    Calls Try.prog 27 #[.pointer (some ⟨p, 0, none⟩), .int .i64 x, needV b] w (AskR Ba w p b1 b2 b3 false st (q ++ [(x, b)]) (fun G2 => G2 = G) ng (upd H x (some (needV b))) (nh + 1)) := by
  refine Ask_any (q1 := []) (st' := st) (q' := q ++ [(x, b)]) (G' := G) (ng' := ng) (H' := upd H x (some (needV b))) (nh' := nh + 1) hx (by have := h.lo; have := Bx.lt h.tab; omega) (fun w' k => ?_) (fun w' k => ?_) (fun w' k => wait_KT (h.kept0 k) (by omega) hx hH) (fun w3 k bm s' h3 => ?_)
  · have := isWaiting_any (h.kept0 k).tab (h.kept0 k).wts h.nv x hx
    rw [hH] at this
    exact this
  · have := holds_any (h.kept0 k).tab (h.kept0 k).hld (h.kept0 k).own x hx
    rw [hG] at this
    exact this
  · refine letIn_0R h3 (by simp; omega) (fun y hy => ?_) ha
    rcases List.mem_append.1 hy with h | h
    · exact hw y h
    · simp at h; subst h; exact hx
/-- Free, where nobody is let in. -/
theorem Free_0 {x hb : Nat} (h : LT Ba w p b1 b2 b3 k bm st s q G ng H nh) (hq : q.length ≤ 1000) (hw : ∀ y ∈ q, y.1 < 9223372036854775808) (hx : x < 9223372036854775808) (hF : (st.2.1 x).isSome = true) (hG : G x = some (.map (some hb))) (ha : admN (st.1, upd st.2.1 x none, st.2.2 - 1) q = 0) (hn : st.2.2 - 1 ≠ 0) :
    Calls Try.prog 28 #[.pointer (some ⟨p, 0, none⟩), .int .i64 x, aV] w fun e w' => ∃ v s2 G2, e = .returned (.tuple #[v, .int .i64 0]) ∧ G2 = upd G x none ∧ Nu w' v [] ∧ LT Ba w' p b1 b2 b3 k bm (st.1, upd st.2.1 x none, st.2.2 - 1) s2 q G2 (ng - 1) H nh ∧ KL Ba w w' :=
  Free_any (q1 := []) (R := fun G2 => G2 = upd G x none) h hx hF hG (fun w3 h3 => letIn_0R h3 hq hw ha) hn (by simp)
/-- Free, where one is let in. -/
theorem Free_1 {x hb y : Nat} {b : Bool} (h : LT Ba w p b1 b2 b3 k bm st s ((y, b) :: q) G ng H nh) (hq : q.length + 1 ≤ 1000) (hw : ∀ z ∈ (y, b) :: q, z.1 < 9223372036854775808) (hx : x < 9223372036854775808) (hF : (st.2.1 x).isSome = true) (hG : G x = some (.map (some hb))) (ha : admN (st.1, upd st.2.1 x none, st.2.2 - 1) ((y, b) :: q) = 1) (hGy : upd G x none y = none) (hH : (H y).isSome = true) (hn : (stN (st.1, upd st.2.1 x none, st.2.2 - 1) (y, b)).2.2 ≠ 0) :
    Calls Try.prog 28 #[.pointer (some ⟨p, 0, none⟩), .int .i64 x, aV] w fun e w' => ∃ v s2 G2, e = .returned (.tuple #[v, .int .i64 0]) ∧ (∃ hh, G2 = upd (upd G x none) y (some (.map (some hh)))) ∧ Nu w' v [y] ∧ LT Ba w' p b1 b2 b3 k bm (stN (st.1, upd st.2.1 x none, st.2.2 - 1) (y, b)) s2 q G2 (ng - 1 + 1) (upd H y none) (nh - 1) ∧ KL Ba w w' :=
  Free_any (q1 := [(y, b)]) (R := fun G2 => ∃ hh, G2 = upd (upd G x none) y (some (.map (some hh)))) h hx hF hG (fun w3 h3 => by
    have := letIn_1R h3 hq hw ha hGy
    rw [if_pos hH] at this
    exact this) hn (by simp)
end
end
end Lk
end Go.Proofs.Ytpiiccomkfcifaa
