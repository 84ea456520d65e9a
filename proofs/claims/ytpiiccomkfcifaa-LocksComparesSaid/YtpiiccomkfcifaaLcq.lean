/- locks: two locks are the same if their fields are; what Compare's answers say. -/
import Derived.Test.YtpiiccomkfcifaaLco
import Derived.Laws.StructEq
namespace Go.Proofs.Ytpiiccomkfcifaa
set_option linter.unusedVariables false
open Go.RowKit
namespace Lk
open Go.Proofs.Ytpiiccomkfcifaa.Mpf Go.PlainAid
theorem stood26 : Try.prog.stoodInHeld 26 = false := by kernel_rfl
theorem fields26 : Try.prog.underlying 26 = some (.struct (Try.prog.fieldsOf 26)) := by kernel_rfl
theorem eqlLock (w : World) (k1 k2 c1 c2 n1 n2 : Int) : (binOp .eql 26 (.agg #[.int .u8 k1, .int .i64 c1, .int .u64 n1]) (.agg #[.int .u8 k2, .int .i64 c2, .int .u64 n2])).run Try.prog w = .ok (.bool (k1 == k2 && (c1 == c2 && n1 == n2))) w := by
  simp [binOp, Op.equal, Op.maxDepth, run_equalIn_struct w 9999 _ _ _ fields26 stood26]
  simp [go_sem, Try.underlying26, Try.underlying23, Try.underlying3, Try.underlying24]
  by_cases h1 : k1 = k2 <;> by_cases h2 : c1 = c2 <;> by_cases h3 : n1 = n2 <;> simp [h1, h2, h3]
/-- What Compare answers of two. -/
def cm (k1 k2 c1 c2 n1 n2 : Int) : Int := or3 (cmpI k1 k2) (cmpI c1 c2) (cmpI n1 n2)
theorem cmpI_cases (x y : Int) : (cmpI x y = -1 ∧ x < y) ∨ (cmpI x y = 0 ∧ x = y) ∨ (cmpI x y = 1 ∧ y < x) := by
  rcases Int.lt_trichotomy x y with h | h | h
  · exact Or.inl ⟨cmpI_lt h, h⟩
  · exact Or.inr (Or.inl ⟨by subst h; simp [cmpI], h⟩)
  · exact Or.inr (Or.inr ⟨cmpI_gt h, h⟩)
theorem cm_cases (k1 k2 c1 c2 n1 n2 : Int) : (cm k1 k2 c1 c2 n1 n2 = -1 ∧ (k1 < k2 ∨ k1 = k2 ∧ (c1 < c2 ∨ c1 = c2 ∧ n1 < n2))) ∨ (cm k1 k2 c1 c2 n1 n2 = 0 ∧ (k1 = k2 ∧ c1 = c2 ∧ n1 = n2)) ∨ (cm k1 k2 c1 c2 n1 n2 = 1 ∧ (k2 < k1 ∨ k1 = k2 ∧ (c2 < c1 ∨ c1 = c2 ∧ n2 < n1))) := by
  unfold cm or3
  rcases cmpI_cases k1 k2 with ⟨h1, g1⟩ | ⟨h1, g1⟩ | ⟨h1, g1⟩ <;> rcases cmpI_cases c1 c2 with ⟨h2, g2⟩ | ⟨h2, g2⟩ | ⟨h2, g2⟩ <;> rcases cmpI_cases n1 n2 with ⟨h3, g3⟩ | ⟨h3, g3⟩ | ⟨h3, g3⟩ <;> rw [h1, h2, h3] <;> simp <;> omega
theorem cm_neg (k1 k2 c1 c2 n1 n2 : Int) : cm k2 k1 c2 c1 n2 n1 = - cm k1 k2 c1 c2 n1 n2 := by
  rcases cm_cases k1 k2 c1 c2 n1 n2 with ⟨h1, g1⟩ | ⟨h1, g1⟩ | ⟨h1, g1⟩ <;> rcases cm_cases k2 k1 c2 c1 n2 n1 with ⟨h2, g2⟩ | ⟨h2, g2⟩ | ⟨h2, g2⟩ <;> omega
theorem cm_zero (k1 k2 c1 c2 n1 n2 : Int) : (cm k1 k2 c1 c2 n1 n2 == 0) = (k1 == k2 && (c1 == c2 && n1 == n2)) := by
  rcases cm_cases k1 k2 c1 c2 n1 n2 with ⟨h1, g1⟩ | ⟨h1, g1⟩ | ⟨h1, g1⟩
  · rw [h1]
    have : ¬ (k1 = k2 ∧ c1 = c2 ∧ n1 = n2) := by omega
    simp only [not_and] at this
    by_cases q1 : k1 = k2 <;> by_cases q2 : c1 = c2 <;> simp [q1, q2]
    exact this q1 q2
  · rw [h1]; simp [g1.1, g1.2.1, g1.2.2]
  · rw [h1]
    have : ¬ (k1 = k2 ∧ c1 = c2 ∧ n1 = n2) := by omega
    simp only [not_and] at this
    by_cases q1 : k1 = k2 <;> by_cases q2 : c1 = c2 <;> simp [q1, q2]
    exact this q1 q2
/-- Of three. -/
theorem cm_trans (k1 k2 k3 c1 c2 c3 n1 n2 n3 : Int) : (cm k1 k2 c1 c2 n1 n2 = -1 ∨ cm k1 k2 c1 c2 n1 n2 = 0 ∨ cm k1 k2 c1 c2 n1 n2 = 1) ∧ (cm k2 k3 c2 c3 n2 n3 = -1 ∨ cm k2 k3 c2 c3 n2 n3 = 0 ∨ cm k2 k3 c2 c3 n2 n3 = 1) ∧ (cm k1 k3 c1 c3 n1 n3 = -1 ∨ cm k1 k3 c1 c3 n1 n3 = 0 ∨ cm k1 k3 c1 c3 n1 n3 = 1) ∧
    (cm k1 k2 c1 c2 n1 n2 ≤ 0 → cm k2 k3 c2 c3 n2 n3 ≤ 0 → cm k1 k3 c1 c3 n1 n3 ≤ 0) ∧ (cm k1 k2 c1 c2 n1 n2 < 0 → cm k2 k3 c2 c3 n2 n3 ≤ 0 → cm k1 k3 c1 c3 n1 n3 < 0) := by
  rcases cm_cases k1 k2 c1 c2 n1 n2 with ⟨h1, g1⟩ | ⟨h1, g1⟩ | ⟨h1, g1⟩ <;> rcases cm_cases k2 k3 c2 c3 n2 n3 with ⟨h2, g2⟩ | ⟨h2, g2⟩ | ⟨h2, g2⟩ <;> rcases cm_cases k1 k3 c1 c3 n1 n3 with ⟨h3, g3⟩ | ⟨h3, g3⟩ | ⟨h3, g3⟩ <;> rw [h1, h2, h3] <;> refine ⟨by omega, by omega, by omega, fun _ _ => by omega, fun _ _ => by omega⟩
end Lk
end Go.Proofs.Ytpiiccomkfcifaa
