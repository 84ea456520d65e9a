/- users: what Parse leaves to its deferred function; says. users: what Parse comes to, step by step. No program's run. -/
import Derived.Defers
import Derived.Recover
import Derived.Laws.Pointers
import Derived.Test.YtahjmpfjidijaaaGreatDoorGaf
import Derived.Test.YtahjmpfjidijaaaGreatDoorHUtx
section
namespace Go.Proofs.YtahjmpfjidijaaaGreatDoor
set_option linter.unusedVariables false
open Go.RowKit Go.Shelf
attribute [local go_sem] Oper.semAt_some
namespace Us
open Go.Proofs.YtahjmpfjidijaaaGreatDoor.Utf Go.Proofs.YtahjmpfjidijaaaGreatDoor.Txt Go.PlainAid Go.Proofs.YtahjmpfjidijaaaGreatDoor.Mpf

theorem parse1_idle (p q : Value) (w : World) :
    CallsD Tryz.prog 50 #[p, q] .returning w fun e u' w' => e = .returned (.tuple #[]) ∧ u' = .returning ∧ w' = w := by
  refine callsD_of_wpS Tryz.func50 rfl fun c₀ cs hu => ?_
  apply wpS_seq
  apply wpS_region
  simp [wpOpsS, go_sem, recoverD, hu, Tryz.ntmps50, Exit.thenS]
  apply wpS_seq
  apply wpS_region
  simp [wpOpsS, go_sem, Exit.thenS]
  refine wpS_cond (t := false) (by simp [Act.eval, Array.replicate]) ?_
  simp only [Bool.false_eq_true, if_false]
  refine wpS_of_wp (wp_skip ?_)
  cases c₀
  simp_all [bodyPostS, results, Tryz.results50]

theorem parse1_panic (R2 R3 : Nat) (k : Int) (w : World) (hne : R2 ≠ R3) (p0 : Value) (e0 : Int) (b2 : w.heap[R2]? = some (.cells #[p0] 36 (0, 0))) (b3 : w.heap[R3]? = some (.cells #[.int .i64 e0] 28 (0, 0))) :
    CallsD Tryz.prog 50 #[.pointer (some ⟨R2, 0, none⟩), .pointer (some ⟨R3, 0, none⟩)] (.panicking [{ v := .iface 28 (.int .i64 k), recovered := false }]) w fun e u' w' =>
      e = .returned (.tuple #[]) ∧ u' = .panicking [{ v := .iface 28 (.int .i64 k), recovered := true }] ∧ w'.heap[R2]? = some (.cells #[.pointer none] 36 (0, 0)) ∧ w'.heap[R3]? = some (.cells #[.int .i64 k] 28 (0, 0)) ∧ Kept [R2, R3] w w' := by
  have c2 : w.cell? ⟨R2, 0, none⟩ = some p0 := by rw [cell_of_row w R2 0 _ _ (0, 0) b2]; rfl
  have c3 : w.cell? ⟨R3, 0, none⟩ = some (.int .i64 e0) := by rw [cell_of_row w R3 0 _ _ (0, 0) b3]; rfl
  have f2 : ∀ i, w.frozen? ⟨R2, i, none⟩ = false := fun i => by simp [World.frozen?, b2]
  have f3 : ∀ i, w.frozen? ⟨R3, i, none⟩ = false := fun i => by simp [World.frozen?, b3]
  refine callsD_of_wpS Tryz.func50 rfl fun c₀ cs hu => ?_
  apply wpS_seq
  apply wpS_region
  simp [wpOpsS, go_sem, recoverD, hu, Tryz.ntmps50, Exit.thenS]
  apply wpS_seq
  apply wpS_region
  simp [wpOpsS, go_sem, Exit.thenS]
  refine wpS_cond (t := true) (by simp [Act.eval, Array.replicate]) ?_
  simp only [if_true]
  refine wpS_of_wp ?_
  have ht : (#[Value.pointer (some ⟨R2, 0, none⟩), Value.pointer (some ⟨R3, 0, none⟩)] ++ ((((Array.replicate 6 undef).setIfInBounds 1 (Value.iface 28 (Value.int IntKind.i64 k))).setIfInBounds 0 (Value.iface 28 (Value.int IntKind.i64 k))).setIfInBounds 2 (Value.iface 28 (Value.int IntKind.i64 k))).setIfInBounds 3 (Value.bool true)) = #[Value.pointer (some ⟨R2, 0, none⟩), Value.pointer (some ⟨R3, 0, none⟩), Value.iface 28 (Value.int IntKind.i64 k), Value.iface 28 (Value.int IntKind.i64 k), Value.iface 28 (Value.int IntKind.i64 k), Value.bool true, undef, undef] := rfl
  rw [ht]
  have c32 : (w.drew.setCell ⟨R2, 0, none⟩ (.pointer none)).cell? ⟨R3, 0, none⟩ = some (.int .i64 e0) := by rw [World.cell?_setCell_far _ _ _ _ hne]; exact c3
  have c23 : (w.drew.setCell ⟨R3, 0, none⟩ (.int .i64 k)).cell? ⟨R2, 0, none⟩ = some p0 := by rw [World.cell?_setCell_far _ _ _ _ (Ne.symm hne)]; exact c2
  have d2 : w.drew.cell? ⟨R2, 0, none⟩ = some p0 := c2
  have d3 : w.drew.cell? ⟨R3, 0, none⟩ = some (.int .i64 e0) := c3
  have END : Hid (∀ W, (W = ((w.setCell ⟨R2, 0, none⟩ (.pointer none)).setCell ⟨R3, 0, none⟩ (.int .i64 k)).drew ∨ W = ((w.setCell ⟨R3, 0, none⟩ (.int .i64 k)).setCell ⟨R2, 0, none⟩ (.pointer none)).drew) → W.heap[R2]? = some (.cells #[.pointer none] 36 (0, 0)) ∧ W.heap[R3]? = some (.cells #[.int .i64 k] 28 (0, 0)) ∧ Kept [R2, R3] w W) := by
    intro W hW
    rcases hW with rfl | rfl
    · have x2 := heap_set (w := w) (i := 0) (Value.pointer none) b2
      have x3 : (w.setCell ⟨R2, 0, none⟩ (.pointer none)).heap[R3]? = some (.cells #[.int .i64 e0] 28 (0, 0)) := (Below.heap_setCell _ _ _ _ (fun h => hne h.symm)).trans b3
      have y3 : ((w.setCell ⟨R2, 0, none⟩ (.pointer none)).setCell ⟨R3, 0, none⟩ (.int .i64 k)).heap[R3]? = some (.cells #[.int .i64 k] 28 (0, 0)) := by simpa using heap_set (i := 0) (Value.int .i64 k) x3
      refine ⟨(Below.heap_setCell _ _ _ _ hne).trans (by simpa using x2), y3, (((Kept.refl _ w).setCell (p := ⟨R2, 0, none⟩) (Or.inl (by simp)) _).setCell (p := ⟨R3, 0, none⟩) (Or.inl (by simp)) _).drew⟩
    · have x3 := heap_set (w := w) (i := 0) (Value.int .i64 k) b3
      have x2 : (w.setCell ⟨R3, 0, none⟩ (.int .i64 k)).heap[R2]? = some (.cells #[p0] 36 (0, 0)) := (Below.heap_setCell _ _ _ _ hne).trans b2
      have y2 : ((w.setCell ⟨R3, 0, none⟩ (.int .i64 k)).setCell ⟨R2, 0, none⟩ (.pointer none)).heap[R2]? = some (.cells #[.pointer none] 36 (0, 0)) := by simpa using heap_set (i := 0) (Value.pointer none) x2
      refine ⟨y2, (Below.heap_setCell _ _ _ _ (fun h => hne h.symm)).trans (by simpa using x3), (((Kept.refl _ w).setCell (p := ⟨R3, 0, none⟩) (Or.inl (by simp)) _).setCell (p := ⟨R2, 0, none⟩) (Or.inl (by simp)) _).drew⟩
  have hTA : ∀ W, (Instr.typeAssert (.iface 28 (.int .i64 k)) 20 28 false).run Tryz.prog W = .ok (.int .i64 k) W := fun W => by kernel_rfl
  clear b2 b3
  go_region
  all_goals
    first
      | (obtain ⟨e1, e2, e3⟩ := END.out _ (Or.inl rfl)
         exact ⟨rfl, _, rfl, .tuple #[], (by simp [results, Tryz.results50]), rfl, rfl, e1, e2, e3⟩)
      | (obtain ⟨e1, e2, e3⟩ := END.out _ (Or.inr rfl)
         exact ⟨rfl, _, rfl, .tuple #[], (by simp [results, Tryz.results50]), rfl, rfl, e1, e2, e3⟩)
theorem says_any (w : World) (l : ByteArray) : Calls Tryz.prog 53 #[.string l] w fun e w' => e = .returned (.bool (says l)) ∧ w' = w := by
  have PR := Lib.hid (Tryz.strings_HasPrefix l ⟨#[35]⟩ w)
  have hv : Hid (says l = (!(dl l == []) && !Lib.hasPrefix (dl l) [35])) := rfl
  have hq : Lib.hasPrefix l.data.toList (⟨#[35]⟩ : ByteArray).data.toList = Lib.hasPrefix (dl l) [35] := rfl
  rw [hq] at PR
  obtain ⟨q, hq⟩ : ∃ q, q = Lib.hasPrefix (dl l) [35] := ⟨_, rfl⟩
  obtain ⟨z, hz⟩ : ∃ z, z = says l := ⟨_, rfl⟩
  rw [← hq] at PR hv
  rw [← hz] at hv ⊢
  clear hq hz
  by_cases h1 : l.toList = []
  · have h0 : (dl l == []) = true := by unfold dl; rw [← ByteArray.toList_eq, h1]; rfl
    have e : z = false := by rw [hv.out, h0]; rfl
    subst e
    clear h0 hv
    go_enter Tryz.func53, Tryz.ntmps53
    go_wp2_with fail
    go_ret
    exact ⟨rfl, rfl⟩
  · have h0 : (dl l == []) = false := by rw [beq_eq_false_iff_ne]; unfold dl; rw [← ByteArray.toList_eq]; exact h1
    have e : z = !q := by rw [hv.out, h0]; rfl
    subst e
    have b1 : l.toList.isEmpty = false := by rw [List.isEmpty_eq_false_iff]; exact h1
    have b0 : (l.toList == []) = false := by rw [beq_eq_false_iff_ne]; exact h1
    clear h0 hv h1
    go_enter Tryz.func53, Tryz.ntmps53
    go_wp2_with (first | (go_at_call 96; refine PR.out.mono ?_; rintro e w2 ⟨rfl, rfl⟩))
    go_ret
    exact ⟨rfl, rfl⟩
end Us
end Go.Proofs.YtahjmpfjidijaaaGreatDoor
end
section
namespace Go.Proofs.YtahjmpfjidijaaaGreatDoor
set_option linter.unusedVariables false
namespace Us
open Go.Proofs.YtahjmpfjidijaaaGreatDoor.Utf Go.Proofs.YtahjmpfjidijaaaGreatDoor.Txt

theorem isName_size {s : ByteArray} (h : isName s = true) : s.size ≤ 32 := by
  unfold isName at h
  simp only [Bool.and_eq_true, decide_eq_true_eq] at h
  exact h.1.1.2
theorem accOf_fit {line : ByteArray} {a : Acc} (h : accOf line = some a) (hs : line.size ≤ 65536) : Fit a := by
  unfold accOf at h
  match hc : cutB 58 line with
  | [n, l, m, k] =>
    rw [hc] at h
    simp only at h
    unfold accIf at h
    split at h
    · rename_i hf
      cases h
      unfold form at hf
      simp only [Bool.and_eq_true] at hf
      obtain ⟨⟨⟨h1, h2⟩, h3⟩, h4⟩ := hf
      refine ⟨isName_size h1, ?_, ?_, fun x hx => isName_size (List.all_eq_true.1 h3 x hx), ?_⟩
      · unfold leadOk at h2
        rw [Bool.or_eq_true, decide_eq_true_eq] at h2
        rcases h2 with h2 | h2
        · show l.size ≤ 32; omega
        · exact isName_size h2
      · unfold isKey at h4
        simp only [Bool.and_eq_true, decide_eq_true_eq] at h4
        exact h4.2
      · show (membersOf m).length ≤ 65537
        have hm := cutB_sizes 58 line m (by rw [hc]; simp)
        unfold membersOf
        split
        · simp
        · have := cutB_le 44 m; omega
    · cases h
  | [] => rw [hc] at h; cases h
  | [_] => rw [hc] at h; cases h
  | [_, _] => rw [hc] at h; cases h
  | [_, _, _] => rw [hc] at h; cases h
  | _ :: _ :: _ :: _ :: _ :: _ => rw [hc] at h; cases h

section
variable {ls : List ByteArray} {i : Nat} {T : List Acc} {l : ByteArray}
theorem drop_at (hi : i < ls.length) : ls.drop i = ls[i] :: ls.drop (i + 1) := List.drop_eq_getElem_cons hi
theorem pass1_quiet (hi : i < ls.length) (h : says ls[i] = false) : pass1 (ls.drop i) i T = pass1 (ls.drop (i + 1)) (i + 1) T := by
  rw [drop_at hi, pass1, if_neg (by rw [h]; decide)]
theorem pass1_none (hi : i < ls.length) (h : says ls[i] = true) (h2 : accOf ls[i] = none) : pass1 (ls.drop i) i T = .inl (60, i + 1) := by
  rw [drop_at hi, pass1, if_pos h, h2]
theorem pass1_twice (hi : i < ls.length) (h : says ls[i] = true) {a : Acc} (h2 : accOf ls[i] = some a) (h3 : addOk T a = false) : pass1 (ls.drop i) i T = .inl (61, i + 1) := by
  rw [drop_at hi, pass1, if_pos h, h2]
  simp [h3]
theorem pass1_more (hi : i < ls.length) (h : says ls[i] = true) {a : Acc} (h2 : accOf ls[i] = some a) (h3 : addOk T a = true) : pass1 (ls.drop i) i T = pass1 (ls.drop (i + 1)) (i + 1) (T ++ [a]) := by
  rw [drop_at hi, pass1, if_pos h, h2]
  simp [h3]
theorem pass2_quiet (hi : i < ls.length) (h : says ls[i] = false) : pass2 T (ls.drop i) i = pass2 T (ls.drop (i + 1)) (i + 1) := by
  rw [drop_at hi, pass2, if_neg (by rw [h]; decide)]
theorem pass2_none (hi : i < ls.length) (h : says ls[i] = true) (h2 : accOf ls[i] = none) : pass2 T (ls.drop i) i = .inl (60, i + 1) := by
  rw [drop_at hi, pass2, if_pos h, h2]
theorem pass2_lost (hi : i < ls.length) (h : says ls[i] = true) {a : Acc} (h2 : accOf ls[i] = some a) (h3 : knows T a = false) : pass2 T (ls.drop i) i = .inl (62, i + 1) := by
  rw [drop_at hi, pass2, if_pos h, h2]
  simp [h3]
theorem pass2_more (hi : i < ls.length) (h : says ls[i] = true) {a : Acc} (h2 : accOf ls[i] = some a) (h3 : knows T a = true) : pass2 T (ls.drop i) i = pass2 T (ls.drop (i + 1)) (i + 1) := by
  rw [drop_at hi, pass2, if_pos h, h2]
  simp [h3]
end
section
variable {s : ByteArray} {e i : Nat} {T : List Acc}
theorem parse_long (h : 65536 < s.size) : parse s = (none, 1, 0) := by unfold parse; rw [if_pos h]
theorem parse_one (h : ¬ 65536 < s.size) (h1 : pass1 (cutB 10 s) 0 [] = .inl (e, i)) : parse s = (none, e, i) := by unfold parse; rw [if_neg h, h1]
theorem parse_two (h : ¬ 65536 < s.size) (h1 : pass1 (cutB 10 s) 0 [] = .inr T) (h2 : pass2 T (cutB 10 s) 0 = .inl (e, i)) : parse s = (none, e, i) := by unfold parse; rw [if_neg h, h1]; simp only [h2]
theorem parse_much (h : ¬ 65536 < s.size) (h1 : pass1 (cutB 10 s) 0 [] = .inr T) (h2 : pass2 T (cutB 10 s) 0 = .inr ()) (h3 : 65536 < (textL T).length) : parse s = (none, 1, 0) := by unfold parse; rw [if_neg h, h1]; simp only [h2, if_pos h3]
theorem parse_ok (h : ¬ 65536 < s.size) (h1 : pass1 (cutB 10 s) 0 [] = .inr T) (h2 : pass2 T (cutB 10 s) 0 = .inr ()) (h3 : ¬ 65536 < (textL T).length) : parse s = (some T, 0, 0) := by unfold parse; rw [if_neg h, h1]; simp only [h2, if_neg h3]
end
end Us
end Go.Proofs.YtahjmpfjidijaaaGreatDoor
end
