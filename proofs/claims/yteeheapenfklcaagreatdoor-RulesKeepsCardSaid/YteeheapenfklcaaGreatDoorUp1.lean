/- users: what Parse leaves to its deferred function; says. -/
import Derived.Test.YteeheapenfklcaaGreatDoorUtx
import Derived.Test.YteeheapenfklcaaGreatDoorUmk
import Derived.Defers
import Derived.Recover
import Derived.Laws.Pointers
namespace Go.Proofs.YteeheapenfklcaaGreatDoor
set_option linter.unusedVariables false
open Go.RowKit Go.Shelf
attribute [local go_sem] Oper.semAt_some
namespace Us
open Go.Proofs.YteeheapenfklcaaGreatDoor.Utf Go.Proofs.YteeheapenfklcaaGreatDoor.Txt Go.PlainAid Go.Proofs.YteeheapenfklcaaGreatDoor.Mpf

theorem parse1_idle (p q : Value) (w : World) :
    CallsD Tryz.prog 43 #[p, q] .returning w fun e u' w' => e = .returned (.tuple #[]) ∧ u' = .returning ∧ w' = w := by
  refine callsD_of_wpS Tryz.func43 rfl fun c₀ cs hu => ?_
  apply wpS_seq
  apply wpS_region
  simp [wpOpsS, go_sem, recoverD, hu, Tryz.ntmps43, Exit.thenS]
  apply wpS_seq
  apply wpS_region
  simp [wpOpsS, go_sem, Exit.thenS]
  refine wpS_cond (t := false) (by simp [Act.eval, Array.replicate]) ?_
  simp only [Bool.false_eq_true, if_false]
  refine wpS_of_wp (wp_skip ?_)
  cases c₀
  simp_all [bodyPostS, results, Tryz.results43]

theorem parse1_panic (R2 R3 : Nat) (k : Int) (w : World) (hne : R2 ≠ R3) (p0 : Value) (e0 : Int) (b2 : w.heap[R2]? = some (.cells #[p0] 29 (0, 0))) (b3 : w.heap[R3]? = some (.cells #[.int .i64 e0] 37 (0, 0))) :
    CallsD Tryz.prog 43 #[.pointer (some ⟨R2, 0, none⟩), .pointer (some ⟨R3, 0, none⟩)] (.panicking [{ v := .iface 37 (.int .i64 k), recovered := false }]) w fun e u' w' =>
      e = .returned (.tuple #[]) ∧ u' = .panicking [{ v := .iface 37 (.int .i64 k), recovered := true }] ∧ w'.heap[R2]? = some (.cells #[.pointer none] 29 (0, 0)) ∧ w'.heap[R3]? = some (.cells #[.int .i64 k] 37 (0, 0)) ∧ Kept [R2, R3] w w' := by
  have c2 : w.cell? ⟨R2, 0, none⟩ = some p0 := by rw [cell_of_row w R2 0 _ _ (0, 0) b2]; rfl
  have c3 : w.cell? ⟨R3, 0, none⟩ = some (.int .i64 e0) := by rw [cell_of_row w R3 0 _ _ (0, 0) b3]; rfl
  have f2 : ∀ i, w.frozen? ⟨R2, i, none⟩ = false := fun i => by simp [World.frozen?, b2]
  have f3 : ∀ i, w.frozen? ⟨R3, i, none⟩ = false := fun i => by simp [World.frozen?, b3]
  refine callsD_of_wpS Tryz.func43 rfl fun c₀ cs hu => ?_
  apply wpS_seq
  apply wpS_region
  simp [wpOpsS, go_sem, recoverD, hu, Tryz.ntmps43, Exit.thenS]
  apply wpS_seq
  apply wpS_region
  simp [wpOpsS, go_sem, Exit.thenS]
  refine wpS_cond (t := true) (by simp [Act.eval, Array.replicate]) ?_
  simp only [if_true]
  refine wpS_of_wp ?_
  have ht : (#[Value.pointer (some ⟨R2, 0, none⟩), Value.pointer (some ⟨R3, 0, none⟩)] ++ ((((Array.replicate 6 undef).setIfInBounds 1 (Value.iface 37 (Value.int IntKind.i64 k))).setIfInBounds 0 (Value.iface 37 (Value.int IntKind.i64 k))).setIfInBounds 2 (Value.iface 37 (Value.int IntKind.i64 k))).setIfInBounds 3 (Value.bool true)) = #[Value.pointer (some ⟨R2, 0, none⟩), Value.pointer (some ⟨R3, 0, none⟩), Value.iface 37 (Value.int IntKind.i64 k), Value.iface 37 (Value.int IntKind.i64 k), Value.iface 37 (Value.int IntKind.i64 k), Value.bool true, undef, undef] := rfl
  rw [ht]
  have c32 : (w.drew.setCell ⟨R2, 0, none⟩ (.pointer none)).cell? ⟨R3, 0, none⟩ = some (.int .i64 e0) := by rw [World.cell?_setCell_far _ _ _ _ hne]; exact c3
  have c23 : (w.drew.setCell ⟨R3, 0, none⟩ (.int .i64 k)).cell? ⟨R2, 0, none⟩ = some p0 := by rw [World.cell?_setCell_far _ _ _ _ (Ne.symm hne)]; exact c2
  have d2 : w.drew.cell? ⟨R2, 0, none⟩ = some p0 := c2
  have d3 : w.drew.cell? ⟨R3, 0, none⟩ = some (.int .i64 e0) := c3
  have END : Hid (∀ W, (W = ((w.setCell ⟨R2, 0, none⟩ (.pointer none)).setCell ⟨R3, 0, none⟩ (.int .i64 k)).drew ∨ W = ((w.setCell ⟨R3, 0, none⟩ (.int .i64 k)).setCell ⟨R2, 0, none⟩ (.pointer none)).drew) → W.heap[R2]? = some (.cells #[.pointer none] 29 (0, 0)) ∧ W.heap[R3]? = some (.cells #[.int .i64 k] 37 (0, 0)) ∧ Kept [R2, R3] w W) := by
    intro W hW
    rcases hW with rfl | rfl
    · have x2 := heap_set (w := w) (i := 0) (Value.pointer none) b2
      have x3 : (w.setCell ⟨R2, 0, none⟩ (.pointer none)).heap[R3]? = some (.cells #[.int .i64 e0] 37 (0, 0)) := (Below.heap_setCell _ _ _ _ (fun h => hne h.symm)).trans b3
      have y3 : ((w.setCell ⟨R2, 0, none⟩ (.pointer none)).setCell ⟨R3, 0, none⟩ (.int .i64 k)).heap[R3]? = some (.cells #[.int .i64 k] 37 (0, 0)) := by simpa using heap_set (i := 0) (Value.int .i64 k) x3
      refine ⟨(Below.heap_setCell _ _ _ _ hne).trans (by simpa using x2), y3, (((Kept.refl _ w).setCell (p := ⟨R2, 0, none⟩) (Or.inl (by simp)) _).setCell (p := ⟨R3, 0, none⟩) (Or.inl (by simp)) _).drew⟩
    · have x3 := heap_set (w := w) (i := 0) (Value.int .i64 k) b3
      have x2 : (w.setCell ⟨R3, 0, none⟩ (.int .i64 k)).heap[R2]? = some (.cells #[p0] 29 (0, 0)) := (Below.heap_setCell _ _ _ _ hne).trans b2
      have y2 : ((w.setCell ⟨R3, 0, none⟩ (.int .i64 k)).setCell ⟨R2, 0, none⟩ (.pointer none)).heap[R2]? = some (.cells #[.pointer none] 29 (0, 0)) := by simpa using heap_set (i := 0) (Value.pointer none) x2
      refine ⟨y2, (Below.heap_setCell _ _ _ _ (fun h => hne h.symm)).trans (by simpa using x3), (((Kept.refl _ w).setCell (p := ⟨R3, 0, none⟩) (Or.inl (by simp)) _).setCell (p := ⟨R2, 0, none⟩) (Or.inl (by simp)) _).drew⟩
  have hTA : ∀ W, (Instr.typeAssert (.iface 37 (.int .i64 k)) 20 37 false).run Tryz.prog W = .ok (.int .i64 k) W := fun W => by kernel_rfl
  clear b2 b3
  go_region
  all_goals
    first
      | (obtain ⟨e1, e2, e3⟩ := END.out _ (Or.inl rfl)
         exact ⟨rfl, _, rfl, .tuple #[], (by simp [results, Tryz.results43]), rfl, rfl, e1, e2, e3⟩)
      | (obtain ⟨e1, e2, e3⟩ := END.out _ (Or.inr rfl)
         exact ⟨rfl, _, rfl, .tuple #[], (by simp [results, Tryz.results43]), rfl, rfl, e1, e2, e3⟩)
theorem says_any (w : World) (l : ByteArray) : Calls Tryz.prog 46 #[.string l] w fun e w' => e = .returned (.bool (says l)) ∧ w' = w := by
  have PR := Lib.hid (Tryz.strings_HasPrefix l ⟨#[35]⟩ w)
  have hv : Hid (says l = (!(dl l == []) && !Lib.hasPrefix (dl l) [35])) := rfl
  have hq : Lib.hasPrefix l.data.toList (⟨#[35]⟩ : ByteArray).data.toList = Lib.hasPrefix (dl l) [35] := rfl
  rw [hq] at PR
  obtain ⟨q, hq⟩ : ∃ q, q = Lib.hasPrefix (dl l) [35] := ⟨_, rfl⟩
  obtain ⟨z, hz⟩ : ∃ z, z = says l := ⟨_, rfl⟩
  rw [← hq] at PR hv
  rw [← hz] at hv ⊢
  clear hq hz
  by_cases h1 : l.toList = []
  · have h0 : (dl l == []) = true := by unfold dl; rw [← ByteArray.toList_eq, h1]; rfl
    have e : z = false := by rw [hv.out, h0]; rfl
    subst e
    clear h0 hv
    go_enter Tryz.func46, Tryz.ntmps46
    go_wp2_with fail
    go_ret
    exact ⟨rfl, rfl⟩
  · have h0 : (dl l == []) = false := by rw [beq_eq_false_iff_ne]; unfold dl; rw [← ByteArray.toList_eq]; exact h1
    have e : z = !q := by rw [hv.out, h0]; rfl
    subst e
    have b1 : l.toList.isEmpty = false := by rw [List.isEmpty_eq_false_iff]; exact h1
    have b0 : (l.toList == []) = false := by rw [beq_eq_false_iff_ne]; exact h1
    clear h0 hv h1
    go_enter Tryz.func46, Tryz.ntmps46
    go_wp2_with (first | (go_at_call 84; refine PR.out.mono ?_; rintro e w2 ⟨rfl, rfl⟩))
    go_ret
    exact ⟨rfl, rfl⟩
end Us
end Go.Proofs.YteeheapenfklcaaGreatDoor
