/- A book's turn: small mathematics, and its code's blocks. -/
import Derived.Test.YtgdaiajjnfnomaaBoc
import Derived.Test.YtgdaiajjnfnomaaSam
import Derived.Deep.Cut
import Derived.Deep.CutBlock
import Derived.Deep.CutRange
import Derived.StillTailTactics
import Derived.Deep.QuietTactic
import Derived.BigQuiet
import Derived.Outline
namespace Go.Proofs.Ytgdaiajjnfnomaa
set_option linter.unusedVariables false
open Go.RowKit
theorem sixB {w : World} {p : Nat} {x0 x1 x2 x3 x4 x5 : Value} {t : TypeId} (h : w.heap[p]? = some (.cells #[x0, x1, x2, x3, x4, x5] t (0, 0))) :
    w.cell? ⟨p, 0, none⟩ = some x0 ∧ w.cell? ⟨p, 1, none⟩ = some x1 ∧ w.cell? ⟨p, 2, none⟩ = some x2 ∧ w.cell? ⟨p, 3, none⟩ = some x3 ∧ w.cell? ⟨p, 4, none⟩ = some x4 ∧ w.cell? ⟨p, 5, none⟩ = some x5 ∧ (∀ i, w.frozen? ⟨p, i, none⟩ = false) := by
  refine ⟨?_, ?_, ?_, ?_, ?_, ?_, fun i => ?_⟩
  case refine_7 => simp [World.frozen?, h]
  all_goals
    rw [cell_of_row w p _ _ t (0, 0) h]
    rfl
theorem u8_natB (n : Nat) : (UInt8.ofNat n).toNat = n % 256 := by simp
theorem mark_step {bs : List UInt8} {q : Nat} {x : UInt8} (h : q < bs.length) : ((List.replicate q x ++ bs.drop q).map bv).set q (bv x) = (List.replicate (q + 1) x ++ bs.drop (q + 1)).map bv := by
  rw [List.drop_eq_getElem_cons h, List.map_append, List.map_append, List.map_cons, List.set_append_right _ _ (by simp)]
  simp [List.replicate_succ', List.append_assoc]
theorem mark_len {bs : List UInt8} {q : Nat} {x : UInt8} (h : q ≤ bs.length) : (List.replicate q x ++ bs.drop q).length = bs.length := by simp; omega
def cnt4 (q : Nat) : Nat := (if 0 < q then 1 else 0) + (if 3 < q then 1 else 0) + (if 15 < q then 1 else 0) + (if 69 < q then 1 else 0)
def recB (q : Nat) : Bool := decide (q = 0 ∨ q = 3 ∨ q = 15 ∨ q = 69)
theorem cnt4_yes {q : Nat} (h : recB q = true) : cnt4 (q + 1) = cnt4 q + 1 := by
  have h1 : q = 0 ∨ q = 3 ∨ q = 15 ∨ q = 69 := of_decide_eq_true h
  rcases h1 with rfl | rfl | rfl | rfl <;> decide
theorem cnt4_no {q : Nat} (h : recB q = false) : cnt4 (q + 1) = cnt4 q := by
  have h1 : ¬ (q = 0 ∨ q = 3 ∨ q = 15 ∨ q = 69) := of_decide_eq_false h
  have a0 : (if 0 < q + 1 then 1 else 0) = (if 0 < q then 1 else (0 : Nat)) := by split <;> split <;> omega
  have a1 : (if 3 < q + 1 then 1 else 0) = (if 3 < q then 1 else (0 : Nat)) := by split <;> split <;> omega
  have a2 : (if 15 < q + 1 then 1 else 0) = (if 15 < q then 1 else (0 : Nat)) := by split <;> split <;> omega
  have a3 : (if 69 < q + 1 then 1 else 0) = (if 69 < q then 1 else (0 : Nat)) := by split <;> split <;> omega
  unfold cnt4
  rw [a0, a1, a2, a3]
theorem cnt4_le (q : Nat) : cnt4 q ≤ 4 := by unfold cnt4; split <;> split <;> split <;> split <;> omega
theorem cnt4_70 : cnt4 70 = 4 := by decide
/-- How long a book's lists are, those that are new from the n-th on. -/
def Bnd (F : List (List UInt8)) (n : Nat) : Prop := (∀ x ∈ F, x.length ≤ 1200000000) ∧ ∀ x ∈ F.drop n, x.length ≤ 1100000000
theorem Bnd.start {F : List (List UInt8)} (h : ∀ x ∈ F, x.length ≤ 1200000000) : Bnd F F.length := ⟨h, fun x hx => by rw [List.drop_length] at hx; cases hx⟩
theorem Bnd.push {F : List (List UInt8)} {n : Nat} {f : List UInt8} (h : Bnd F n) (hn : n ≤ F.length) (hf : f.length ≤ 1100000000) : Bnd (F ++ [f]) n := by
  refine ⟨fun x hx => ?_, fun x hx => ?_⟩
  · rcases List.mem_append.1 hx with q | q
    · exact h.1 x q
    · rw [List.mem_singleton] at q
      subst q
      omega
  · rw [List.drop_append_of_le_length hn] at hx
    rcases List.mem_append.1 hx with q | q
    · exact h.2 x q
    · rw [List.mem_singleton] at q
      subst q
      exact hf
theorem Bnd.at {F : List (List UInt8)} {n i : Nat} (h : Bnd F n) (hi : n ≤ i) (hl : i < F.length) : F[i].length ≤ 1100000000 :=
  h.2 _ (List.mem_iff_getElem.2 ⟨i - n, by rw [List.length_drop]; omega, by rw [List.getElem_drop]; congr 1; omega⟩)

/-- The n-th block of a code. -/
def blkOf (n : Nat) : Code → Option Code
  | .block m c => if m = n then some (.block m c) else blkOf n c
  | .seq a b => match blkOf n a with
    | some c => some c
    | none => blkOf n b
  | .loop c => blkOf n c
  | .scope c => blkOf n c
  | .cond _ a b => match blkOf n a with
    | some c => some c
    | none => blkOf n b
  | _ => none
noncomputable def turnBlk (n : Nat) : Code := ((Try.f7.body.bind (blkOf n)).getD .skip)
end Go.Proofs.Ytgdaiajjnfnomaa
