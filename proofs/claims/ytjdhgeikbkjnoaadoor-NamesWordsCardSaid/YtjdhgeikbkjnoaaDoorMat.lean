/- names' Match, where the pattern is one. -/
import Derived.Test.YtjdhgeikbkjnoaaDoorMtw
import Derived.Defers
import Derived.Recover
import Derived.Laws.Pointers
namespace Go.Proofs.YtjdhgeikbkjnoaaDoor
set_option linter.unusedVariables false
open Go.RowKit Go.Shelf
attribute [local go_sem] Oper.semAt_some
namespace Nm
open Go.Proofs.YtjdhgeikbkjnoaaDoor.Utf Go.Proofs.YtjdhgeikbkjnoaaDoor.Txt Go.PlainAid

theorem match1_idle (p q : Value) (w : World) :
    CallsD Tryd.prog 33 #[p, q] .returning w fun e u' w' => e = .returned (.tuple #[]) ∧ u' = .returning ∧ w' = w := by
  refine callsD_of_wpS Tryd.func33 rfl fun c₀ cs hu => ?_
  apply wpS_seq
  apply wpS_region
  simp [wpOpsS, go_sem, recoverD, hu, Tryd.ntmps33, Exit.thenS]
  refine wpS_cond (t := false) (by simp [Act.eval, Array.replicate]) ?_
  simp only [Bool.false_eq_true, if_false]
  refine wpS_of_wp (wp_skip ?_)
  cases c₀
  simp_all [bodyPostS, results, Tryd.results33]

set_option maxHeartbeats 8000000 in
set_option maxRecDepth 100000 in
theorem match_ok (w : World) (pat name : ByteArray) (r : Bool) (hs : name.size ≤ 140737488355328)
    (hp : ∀ w, Calls Tryd.prog 34 #[.string pat] w fun e w' => ∃ v ps, e = .returned v ∧ Hid (PsAt w' w.heap.size v ps) ∧ Hid (Kept [] w w') ∧ Hid (ps.length ≤ 255) ∧ Hid (∀ p ∈ ps, p.sp.length ≤ 1000000) ∧ Hid ((good name && mts ps name) = r)) :
    Calls Tryd.prog 19 #[.string pat, .string name] w fun e w' => e = .returned (.tuple #[.bool r, .int .i64 0]) ∧ Kept [] w w' := by
  have hmf : ∀ (fn : Fn) (first cap : Array Value) (w : World), (Instr.makeFunc fn first cap).run Tryd.prog w = .ok (.func fn first cap) w := fun _ _ _ _ => rfl
  have PC := Lib.hid hp
  have GD := Lib.hid (fun w => good_any name w hs)
  have MT : Hid (∀ w B v ps, PsAt w B v ps → ps.length ≤ 255 → (∀ p ∈ ps, p.sp.length ≤ 1000000) → Calls Tryd.prog 36 #[v, .string name] w fun e w' => e = .returned (.bool (mts ps name)) ∧ Kept [] w w') := fun w B v ps h1 h2 h3 => matches_any w B v ps name h1 h2 h3 hs
  clear hp
  go_enter_defers Tryd.func19, Tryd.ntmps19
  go_wp2_with fail
  obtain ⟨w1, hw1⟩ : ∃ w1, w1 = (w.alloc (.cells #[.bool false] 4)).alloc (.cells #[.int .i64 0] 23) := ⟨_, rfl⟩
  obtain ⟨R3, hR3⟩ : ∃ R, R = w.heap.size + 1 := ⟨_, rfl⟩
  obtain ⟨R2, hR2⟩ : ∃ R, R = w.heap.size := ⟨_, rfl⟩
  have k1 : Kept [] w w1 := by rw [hw1]; exact ((Kept.refl _ _).alloc _).alloc _
  have b2 : w1.heap[R2]? = some (.cells #[.bool false] 4 (0, 0)) := by
    rw [hw1, hR2]
    exact (Below.heap_alloc _ _ _ (by simp)).trans (heap_alloc_new w _)
  have b3 : w1.heap[R3]? = some (.cells #[.int .i64 0] 23 (0, 0)) := by
    rw [hw1, hR3]
    have := heap_alloc_new (w.alloc (.cells #[.bool false] 4)) (.cells #[.int .i64 0] 23)
    rwa [World.size_alloc] at this
  have HR : Hid (w.heap.size ≤ R2 ∧ w.heap.size ≤ R3 ∧ R2 ≠ R3) := (by omega : w.heap.size ≤ R2 ∧ w.heap.size ≤ R3 ∧ R2 ≠ R3)
  have K1 := Lib.hid k1
  have B2 := Lib.hid b2
  have B3 := Lib.hid b3
  rw [← hw1, ← hR3, ← hR2]
  clear hw1 hR3 hR2 k1 b2 b3
  refine (PC.out w1).mono ?_
  rintro e w2 ⟨v, ps, rfl, hps, hk2, hn, hsl, hr⟩
  have K2 : Hid (Kept [] w w2) := K1.out.trans hk2.out (fun i hi => by simp at hi)
  have B22 := Lib.hid ((hk2.out.block _ (block_lt B2.out) (by simp)).trans B2.out)
  have B23 := Lib.hid ((hk2.out.block _ (block_lt B3.out) (by simp)).trans B3.out)
  clear hk2 PC
  obtain ⟨g, hg⟩ : ∃ g, g = good name := ⟨_, rfl⟩
  rw [← hg] at GD hr
  obtain ⟨m, hm⟩ : ∃ m, m = mts ps name := ⟨_, rfl⟩
  have MT2 : Hid (∀ w', Kept [] w2 w' → Calls Tryd.prog 36 #[v, .string name] w' fun e w' => e = .returned (.bool (mts ps name)) ∧ Kept [] _ w') := fun w' k => MT.out w' w1.heap.size v ps (hps.out.kept k (fun i hi => by simp at hi)) hn.out hsl.out
  rw [← hm] at MT2 hr
  clear hg hm MT
  go_wp2_with fail
  refine (GD.out w2).mono ?_
  rintro e w3 ⟨rfl, kb⟩
  have k3 : Kept [] w2 w3 := Kept.of_below kb _
  have K3 : Hid (Kept [] w w3) := K2.out.trans k3 (fun i hi => by simp at hi)
  have b2 := (k3.block _ (block_lt B22.out) (by simp)).trans B22.out
  have b3 := (k3.block _ (block_lt B23.out) (by simp)).trans B23.out
  have MT3 := Lib.hid (MT2.out w3 k3)
  clear kb k3 MT2 B22 B23 B2 B3
  cases g with
  | false =>
    have e1 : false = r := by have := hr.out; simpa using this
    subst e1
    have K4 := K3
    have k4 := Kept.refl [] w3
    obtain ⟨w4, hw4⟩ : ∃ w4, w4 = w3 := ⟨_, rfl⟩
    subst hw4
    have b24 := (k4.block _ (block_lt b2) (by simp)).trans b2
    have b34 := (k4.block _ (block_lt b3) (by simp)).trans b3
    have c2 : w4.cell? ⟨R2, 0, none⟩ = some (.bool false) := by rw [cell_of_row w4 R2 0 _ _ (0, 0) b24]; rfl
    have c3 : w4.cell? ⟨R3, 0, none⟩ = some (.int .i64 0) := by rw [cell_of_row w4 R3 0 _ _ (0, 0) b34]; rfl
    have f2 : ∀ i, w4.frozen? ⟨R2, i, none⟩ = false := fun i => by simp [World.frozen?, b24]
    have f3 : ∀ i, w4.frozen? ⟨R3, i, none⟩ = false := fun i => by simp [World.frozen?, b34]
    have c32 : (w4.setCell ⟨R2, 0, none⟩ (.bool false)).cell? ⟨R3, 0, none⟩ = some (.int .i64 0) := by rw [World.cell?_setCell_far _ _ _ _ HR.out.2.2]; exact c3
    have B24 := Lib.hid b24
    have B34 := Lib.hid b34
    clear k4 b2 b3 b24 b34
    go_wp2_with fail
    clear c2 c3 f2 f3 c32
    obtain ⟨WF, hWF⟩ : ∃ WF, WF = (w4.setCell ⟨R2, 0, none⟩ (.bool false)).setCell ⟨R3, 0, none⟩ (.int .i64 0) := ⟨_, rfl⟩
    have kW : Kept [R2, R3] w4 WF := by
      rw [hWF]
      exact ((Kept.refl _ w4).setCell (p := ⟨R2, 0, none⟩) (Or.inl (by simp)) _).setCell (p := ⟨R3, 0, none⟩) (Or.inl (by simp)) _
    have e2 : WF.heap[R2]? = some (.cells #[.bool false] 4 (0, 0)) := by
      rw [hWF]
      exact (Below.heap_setCell _ _ _ _ HR.out.2.2).trans (by simpa using heap_set (i := 0) (Value.bool false) B24.out)
    have e3 : WF.heap[R3]? = some (.cells #[.int .i64 0] 23 (0, 0)) := by
      rw [hWF]
      have e3 : (w4.setCell ⟨R2, 0, none⟩ (.bool false)).heap[R3]? = some (.cells #[.int .i64 0] 23 (0, 0)) := (Below.heap_setCell _ _ _ _ (fun h => HR.out.2.2 h.symm)).trans B34.out
      simpa using heap_set (i := 0) (Value.int .i64 0) e3
    have c2 : WF.cell? ⟨R2, 0, none⟩ = some (.bool false) := by rw [cell_of_row WF R2 0 _ _ (0, 0) e2]; rfl
    have c3 : WF.cell? ⟨R3, 0, none⟩ = some (.int .i64 0) := by rw [cell_of_row WF R3 0 _ _ (0, 0) e3]; rfl
    have KF : Hid (Kept [] w WF) := K4.out.trans kW (fun i hi => by have := HR.out; simp at hi; right; omega)
    rw [← hWF]
    clear hWF kW e2 e3
    refine leaves_cons (f := 33) (args := #[.pointer (some ⟨R2, 0, none⟩), .pointer (some ⟨R3, 0, none⟩)]) (by simp) (by simp [go_sem]) ?_
    refine (match1_idle _ _ _).mono ?_
    rintro e u' w'' ⟨rfl, rfl, rfl⟩
    simp [Leaves, settle, results, Tryd.f19, go_sem, c2, c3]
    exact KF.out
  | true =>
    have e1 : m = r := by have := hr.out; simpa using this
    subst e1
    go_wp2_with fail
    refine MT3.out.mono ?_
    rintro e w4 ⟨rfl, k4⟩
    have K4 : Hid (Kept [] w w4) := K3.out.trans k4 (fun i hi => by simp at hi)
    have b24 := (k4.block _ (block_lt b2) (by simp)).trans b2
    have b34 := (k4.block _ (block_lt b3) (by simp)).trans b3
    have c2 : w4.cell? ⟨R2, 0, none⟩ = some (.bool false) := by rw [cell_of_row w4 R2 0 _ _ (0, 0) b24]; rfl
    have c3 : w4.cell? ⟨R3, 0, none⟩ = some (.int .i64 0) := by rw [cell_of_row w4 R3 0 _ _ (0, 0) b34]; rfl
    have f2 : ∀ i, w4.frozen? ⟨R2, i, none⟩ = false := fun i => by simp [World.frozen?, b24]
    have f3 : ∀ i, w4.frozen? ⟨R3, i, none⟩ = false := fun i => by simp [World.frozen?, b34]
    have c32 : (w4.setCell ⟨R2, 0, none⟩ (.bool m)).cell? ⟨R3, 0, none⟩ = some (.int .i64 0) := by rw [World.cell?_setCell_far _ _ _ _ HR.out.2.2]; exact c3
    have B24 := Lib.hid b24
    have B34 := Lib.hid b34
    clear k4 b2 b3 b24 b34
    go_wp2_with fail
    clear c2 c3 f2 f3 c32
    obtain ⟨WF, hWF⟩ : ∃ WF, WF = (w4.setCell ⟨R2, 0, none⟩ (.bool m)).setCell ⟨R3, 0, none⟩ (.int .i64 0) := ⟨_, rfl⟩
    have kW : Kept [R2, R3] w4 WF := by
      rw [hWF]
      exact ((Kept.refl _ w4).setCell (p := ⟨R2, 0, none⟩) (Or.inl (by simp)) _).setCell (p := ⟨R3, 0, none⟩) (Or.inl (by simp)) _
    have e2 : WF.heap[R2]? = some (.cells #[.bool m] 4 (0, 0)) := by
      rw [hWF]
      exact (Below.heap_setCell _ _ _ _ HR.out.2.2).trans (by simpa using heap_set (i := 0) (Value.bool m) B24.out)
    have e3 : WF.heap[R3]? = some (.cells #[.int .i64 0] 23 (0, 0)) := by
      rw [hWF]
      have e3 : (w4.setCell ⟨R2, 0, none⟩ (.bool m)).heap[R3]? = some (.cells #[.int .i64 0] 23 (0, 0)) := (Below.heap_setCell _ _ _ _ (fun h => HR.out.2.2 h.symm)).trans B34.out
      simpa using heap_set (i := 0) (Value.int .i64 0) e3
    have c2 : WF.cell? ⟨R2, 0, none⟩ = some (.bool m) := by rw [cell_of_row WF R2 0 _ _ (0, 0) e2]; rfl
    have c3 : WF.cell? ⟨R3, 0, none⟩ = some (.int .i64 0) := by rw [cell_of_row WF R3 0 _ _ (0, 0) e3]; rfl
    have KF : Hid (Kept [] w WF) := K4.out.trans kW (fun i hi => by have := HR.out; simp at hi; right; omega)
    rw [← hWF]
    clear hWF kW e2 e3
    refine leaves_cons (f := 33) (args := #[.pointer (some ⟨R2, 0, none⟩), .pointer (some ⟨R3, 0, none⟩)]) (by simp) (by simp [go_sem]) ?_
    refine (match1_idle _ _ _).mono ?_
    rintro e u' w'' ⟨rfl, rfl, rfl⟩
    simp [Leaves, settle, results, Tryd.f19, go_sem, c2, c3]
    exact KF.out
end Nm
end Go.Proofs.YtjdhgeikbkjnoaaDoor
