/- The law's turn and ends, in short. -/
import Derived.Test.YtgdaiajjnfnomaaBou
import Derived.Test.YtgdaiajjnfnomaaBkd
namespace Go.Proofs.Ytgdaiajjnfnomaa
set_option linter.unusedVariables false
open Go.RowKit
namespace Bk
theorem turn_any (w : World) (k : Nat) (col : Nat → Nat) (N : Nat) (hN : N ≤ 1000000000) (h : Hid (Bkd w k col N)) :
    Calls Try.prog 7 #[.pointer (some ⟨k, 0, none⟩)] w fun e w' => e = .returned (.bool true) ∧ ∃ col', Hid (Bkd w' k col' N) ∧ Hid (Fr w col w' col' 0) := by
  obtain ⟨lv, mv, hv, tv, fv, wv, vs, fs, ms, hs, hb, ts, xs, ys, xb, B, q1, q2, q3, q4⟩ := h.out
  refine (Law.turn_any w k lv mv hv tv fv wv vs fs ms hs hb ts xs ys xb col (by omega) q2 q3 B).mono fun e w' ⟨he, lv', mv', L, F, M, col', B', LL, FB, FAR⟩ => ?_
  refine ⟨he, _, ⟨_, _, _, _, _, _, _, _, _, _, _, _, _, _, _, B'.out, ?_, FB.out, q4, fun x hx => by cases hx⟩, ?_⟩
  · have := LL.out
    simp
    omega
  · obtain ⟨S, K, hS⟩ := FAR.out.kept
    refine ⟨⟨S, K, fun b hb hlt => Or.inl (hS b hb hlt)⟩, fun b hb h7 => ?_⟩
    show recol (col' b) = col b
    rw [FAR.out.same b hb]
    exact recol_far h7
theorem ends_any (w : World) (k : Nat) (col : Nat → Nat) (N : Nat) (hN : N ≤ 1000000000) (h : Hid (Bkd w k col N)) :
    Calls Try.prog 9 #[.pointer (some ⟨k, 0, none⟩)] w fun e w' => e = .returned (.bool true) ∧ ∃ col', Hid (Bkd w' k col' N) ∧ Hid (Fr w col w' col' 0) := by
  have T1 := Lib.hid (turn_any w k col N hN h)
  go_enter Try.func9, Try.ntmps9
  go_wp2_with fail
  refine T1.out.mono ?_
  rintro e w1 ⟨rfl, c1, b1, f1⟩
  have T2 := Lib.hid (turn_any w1 k c1 N hN b1)
  go_wp2_with fail
  refine T2.out.mono ?_
  rintro e w2 ⟨rfl, c2, b2, f2⟩
  go_wp2_with fail
  go_ret
  exact ⟨rfl, c2, b2, f1.out.trans f2.out⟩
end Bk
end Go.Proofs.Ytgdaiajjnfnomaa
