/- pick: which of so many things a raw number speaks of. -/
import Derived.Test.YtgdaiajjnfnomaaCts
namespace Go.Proofs.Ytgdaiajjnfnomaa
set_option linter.unusedVariables false
open Go.RowKit

/-- Which of m things a raw number speaks of. -/
def pk (x : Int) (m : Nat) : Nat := ((if x < 0 then -(x + 1) else x) % (m : Int)).toNat
theorem pk_lt (x : Int) (m : Nat) (h : 0 < m) : pk x m < m := by
  unfold pk
  have h1 := Int.emod_lt_of_pos (if x < 0 then -(x + 1) else x) (show (0 : Int) < (m : Int) by omega)
  have h2 := Int.emod_nonneg (if x < 0 then -(x + 1) else x) (show (m : Int) ≠ 0 by omega)
  omega

namespace Law
open Cut
theorem pick_any (w : World) (x y : Int) (m : Nat) (hy : y = m) (hm : 0 < m) (hm2 : m ≤ 9223372036854775807) (h1 : -9223372036854775808 ≤ x) (h2 : x ≤ 9223372036854775807) :
    Calls Try.prog 8 #[.int .i64 x, .int .i64 y] w fun e w' => e = .returned (.int .i64 (pk x m)) ∧ w = w' := by
  subst hy
  have hlt := pk_lt x m hm
  have hm0 : (0 : Int) < (m : Int) := by omega
  have hmne : (m : Int) ≠ 0 := by omega
  by_cases hx : x < 0
  · have e : (pk x m : Int) = -((x + 1).tmod (m : Int)) := by
      unfold pk
      rw [if_pos hx, ← Int.neg_tmod, Int.tmod_eq_emod_of_nonneg (by omega)]
      exact Int.toNat_of_nonneg (Int.emod_nonneg _ hmne)
    have E := Lib.hid e
    clear e
    go_enter Try.func8, Try.ntmps8
    go_wp2_with fail
    go_ret
    exact ⟨ret_int E.out.symm, rfl⟩
  · have e : (pk x m : Int) = x % (m : Int) := by
      unfold pk
      rw [if_neg hx]
      exact Int.toNat_of_nonneg (Int.emod_nonneg _ hmne)
    have E := Lib.hid e
    clear e
    go_enter Try.func8, Try.ntmps8
    go_wp2_with fail
    go_ret
    exact ⟨ret_int E.out.symm, rfl⟩
end Law
end Go.Proofs.Ytgdaiajjnfnomaa
