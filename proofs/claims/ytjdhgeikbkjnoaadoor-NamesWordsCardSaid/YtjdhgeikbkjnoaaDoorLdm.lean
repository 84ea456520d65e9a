/- NamesLead: a tree, and where parts lead to. No program's run. -/
import Derived.Test.YtjdhgeikbkjnoaaDoorUnd
namespace Go.Proofs.YtjdhgeikbkjnoaaDoor
set_option linter.unusedVariables false
open Go.RowKit Go.Shelf
namespace Nm
open Go.Proofs.YtjdhgeikbkjnoaaDoor.Utf Go.Proofs.YtjdhgeikbkjnoaaDoor.Txt Go.PlainAid

/-- The first directory from the i-th on, of n more, that lies in this one and is called so. -/
def cdf (us : List Nat) (ns : List ByteArray) (at' : Nat) (x : ByteArray) : Nat → Nat → Option Nat
  | 0, _ => none
  | n + 1, i => if us.getD i 0 = at' ∧ (ns.getD i ByteArray.empty).toList = x.toList then some i else cdf us ns at' x n (i + 1)
def cd (us : List Nat) (ns : List ByteArray) (at' : Nat) (x : ByteArray) : Option Nat := cdf us ns at' x (us.length - 1) 1
theorem cdf_some {us : List Nat} {ns : List ByteArray} {a : Nat} {x : ByteArray} : ∀ {n i j : Nat}, cdf us ns a x n i = some j → i ≤ j ∧ j < i + n ∧ us.getD j 0 = a
  | 0, i, j, h => by cases h
  | n + 1, i, j, h => by
    unfold cdf at h
    split at h
    · rename_i hc; cases h; exact ⟨Nat.le_refl _, by omega, hc.1⟩
    · have := cdf_some h; exact ⟨by omega, by omega, this.2.2⟩
/-- Each but the first lies in one of them, the first in itself. -/
structure Tr (us : List Nat) (ns : List ByteArray) : Prop where
  len : ns.length = us.length
  pos : 1 ≤ us.length
  low : us.length ≤ 60
  root : us.getD 0 0 = 0
  all : ∀ i, us.getD i 0 < us.length
theorem Tr.cd {us : List Nat} {ns : List ByteArray} (h : Tr us ns) {a j : Nat} {x : ByteArray} (hc : cd us ns a x = some j) : j < us.length ∧ us.getD j 0 = a := by
  have := cdf_some hc
  have := h.pos
  exact ⟨by omega, by omega⟩
/-- A step. -/
def go1 (us : List Nat) (ns : List ByteArray) (a : Nat) (x : ByteArray) : Option Nat := if upp0 x = true then some (us.getD a 0) else cd us ns a x
where upp0 (x : ByteArray) : Bool := x.toList == [46, 46]
theorem go1_up {us : List Nat} {ns : List ByteArray} {a : Nat} {x : ByteArray} (h : dl x = [46, 46]) : go1 us ns a x = some (us.getD a 0) := by
  unfold go1 go1.upp0
  rw [toList_dl, h, if_pos (by decide)]
theorem go1_no {us : List Nat} {ns : List ByteArray} {a : Nat} {x : ByteArray} (h : dl x ≠ [46, 46]) : go1 us ns a x = cd us ns a x := by
  unfold go1 go1.upp0
  rw [toList_dl, if_neg (by simpa using h)]
def lds (us : List Nat) (ns : List ByteArray) : Nat → List ByteArray → Option Nat
  | a, [] => some a
  | a, x :: l => match go1 us ns a x with
    | none => none
    | some b => lds us ns b l
theorem lds_app {us : List Nat} {ns : List ByteArray} : ∀ (l m : List ByteArray) (a : Nat), lds us ns a (l ++ m) = match lds us ns a l with | none => none | some b => lds us ns b m
  | [], m, a => rfl
  | x :: l, m, a => by
    simp only [List.cons_append, lds]
    cases go1 us ns a x with
    | none => rfl
    | some b => exact lds_app l m b
theorem lds_lt {us : List Nat} {ns : List ByteArray} (h : Tr us ns) : ∀ (l : List ByteArray) (a z : Nat), a < us.length → lds us ns a l = some z → z < us.length
  | [], a, z, ha, hz => by cases hz; exact ha
  | x :: l, a, z, ha, hz => by
    simp only [lds] at hz
    cases hg : go1 us ns a x with
    | none => rw [hg] at hz; cases hz
    | some b =>
      rw [hg] at hz
      refine lds_lt h l b z ?_ hz
      by_cases hx : dl x = [46, 46]
      · rw [go1_up hx] at hg; cases hg; exact h.all a
      · rw [go1_no hx] at hg; exact (h.cd hg).1
/-- A part more, or a part less. -/
theorem lds_stp {us : List Nat} {ns : List ByteArray} (h : Tr us ns) {r : Bool} {l : List ByteArray} {y : ByteArray} {a z : Nat} (hc : CL r l) (ha : r = true → a = 0) (hz : lds us ns a (l ++ [y]) = some z) : lds us ns a (stp r l y) = some z := by
  by_cases hy : dl y = [46, 46]
  · rcases List.eq_nil_or_concat l with rfl | ⟨l', u, rfl⟩
    · unfold stp
      rw [if_pos hy]
      simp only [List.getLast?_nil]
      cases r with
      | false => exact hz
      | true =>
        have h0 := ha rfl
        subst h0
        simp only [List.nil_append, lds, go1_up hy, h.root] at hz
        exact hz
    · rw [List.concat_eq_append] at hc hz ⊢
      by_cases hu : dl u = [46, 46]
      · unfold stp
        rw [if_pos hy, List.getLast?_concat]
        dsimp only
        rw [if_pos hu]
        cases r with
        | false => exact hz
        | true =>
          obtain ⟨p, q, e, hp, hq, hr⟩ := hc
          rw [hr rfl, List.nil_append] at e
          exact absurd hu (hq u (by rw [← e]; simp))
      · unfold stp
        rw [if_pos hy, List.getLast?_concat]
        dsimp only
        rw [if_neg hu, List.dropLast_concat]
        rw [List.append_assoc, lds_app] at hz
        cases hl : lds us ns a l' with
        | none => rw [hl] at hz; cases hz
        | some m =>
          rw [hl] at hz
          simp only [List.cons_append, List.nil_append, lds, go1_no hu] at hz
          cases hcd : cd us ns m u with
          | none => rw [hcd] at hz; cases hz
          | some j =>
            rw [hcd] at hz
            simp only [go1_up hy, (h.cd hcd).2] at hz
            exact hz
  · unfold stp
    rw [if_neg hy]
    exact hz
theorem lds_fold {us : List Nat} {ns : List ByteArray} (h : Tr us ns) {r : Bool} {a z : Nat} (ha : r = true → a = 0) : ∀ (ps l : List ByteArray), CL r l → lds us ns a (l ++ ps) = some z → lds us ns a (ps.foldl (stp r) l) = some z
  | [], l, hc, hz => by simpa using hz
  | y :: ps, l, hc, hz => by
    refine lds_fold h ha ps (stp r l y) (hc.stp y) ?_
    have e : l ++ y :: ps = (l ++ [y]) ++ ps := by simp
    rw [e, lds_app] at hz
    cases hl : lds us ns a (l ++ [y]) with
    | none => rw [hl] at hz; cases hz
    | some m =>
      rw [hl] at hz
      rw [lds_app, lds_stp h hc ha hl]
      exact hz
theorem lds_sho {us : List Nat} {ns : List ByteArray} (h : Tr us ns) {r : Bool} {a z : Nat} (ha : r = true → a = 0) {ps : List ByteArray} (hz : lds us ns a ps = some z) : lds us ns a (sho r ps) = some z :=
  lds_fold h ha ps [] (CL.nil r) (by simpa using hz)
end Nm
end Go.Proofs.YtjdhgeikbkjnoaaDoor
