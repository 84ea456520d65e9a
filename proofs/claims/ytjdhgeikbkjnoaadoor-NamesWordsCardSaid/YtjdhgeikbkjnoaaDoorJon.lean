/- names' Join walked. -/
import Derived.Test.YtjdhgeikbkjnoaaDoorShn
namespace Go.Proofs.YtjdhgeikbkjnoaaDoor
set_option linter.unusedVariables false
open Go.RowKit Go.Shelf
attribute [local go_sem] Oper.semAt_some
namespace Nm
open Go.Proofs.YtjdhgeikbkjnoaaDoor.Utf Go.Proofs.YtjdhgeikbkjnoaaDoor.Txt Go.PlainAid

/-- The parts with a stroke between. -/
def jin (ps : List ByteArray) : ByteArray := ⟨(Lib.join (ps.map dl) [47]).toArray⟩
def joi (r : Bool) (ps : List ByteArray) : ByteArray := if r = true then ⟨#[47]⟩ ++ jin ps else if ps.length = 0 then ⟨#[46]⟩ else jin ps

set_option maxHeartbeats 8000000 in
set_option maxRecDepth 100000 in
theorem join_any (w : World) (r : Bool) (pv : Value) (ps : List ByteArray) (hp : Lst w pv ps) (hl : ps.length ≤ 1073741825) (hj : (jin ps).size ≤ 4294967296) :
    Calls Tryd.prog 13 #[.agg #[.bool r, pv]] w fun e w' => e = .returned (.string (joi r ps)) ∧ Kept [] w w' := by
  obtain ⟨pa, pc, rfl, hpc, hpp⟩ := hp
  have LS : Hid (Lst w (.slice pa ps.length pc) ps) := ⟨pa, pc, rfl, hpc, hpp⟩
  clear hpp
  obtain ⟨jj, hjj⟩ : ∃ j, j = jin ps := ⟨_, rfl⟩
  rw [← hjj] at hj
  have JJ := Lib.hid hjj
  have JOI : Hid (∀ w, Lst w (.slice pa ps.length pc) ps → Calls Tryd.prog 29 #[.slice pa ps.length pc, .string ⟨#[47]⟩] w fun e w' => e = .returned (.string jj) ∧ Kept [] w w') := fun w hw => by
    obtain ⟨pa', pc', e, hc', hh⟩ := hw
    cases e
    rcases hh with rfl | ⟨b, o, rfl, hb, hh⟩
    · refine (Tryd.strings_Join_none pa pc ⟨#[47]⟩ w).mono ?_
      rintro e w' ⟨rfl, rfl⟩
      exact ⟨by rw [JJ.out]; rfl, Kept.refl _ _⟩
    · have hz : (Lib.join (ps.map dl) [47]).length = jj.size := by rw [JJ.out]; rfl
      refine (Tryd.strings_Join b o pc ps ⟨#[47]⟩ w hh hb (by omega) hc' (by show (Lib.join (ps.map dl) [47]).length ≤ _; omega)).mono ?_
      rintro e w' ⟨rfl, hB⟩
      exact ⟨by rw [JJ.out]; rfl, Kept.of_below hB _⟩
  clear hjj
  go_enter Tryd.func13, Tryd.ntmps13
  go_wp2_with fail
  obtain ⟨w1, hw1⟩ : ∃ w1, w1 = w.alloc (.cells #[.bool r, .slice pa ps.length pc] 28) := ⟨_, rfl⟩
  obtain ⟨R1, hR1⟩ : ∃ R, R = w.heap.size := ⟨_, rfl⟩
  have k1 : Kept [] w w1 := by rw [hw1]; exact (Kept.refl _ _).alloc _
  have b1 : w1.heap[R1]? = some (.cells #[.bool r, .slice pa ps.length pc] 28 (0, 0)) := by
    rw [hw1, hR1]
    exact heap_alloc_new w _
  have LS1 : Hid (Lst w1 (.slice pa ps.length pc) ps) := Lst.kept LS.out k1 (fun _ _ _ _ hm => by simp at hm)
  rw [← hw1, ← hR1]
  clear hw1 hR1
  refine (JOI.out w1 LS1.out).mono ?_
  rintro e w2 ⟨rfl, k2⟩
  have b2 := (k2.block _ (block_lt b1) (by simp)).trans b1
  have c0 : w2.cell? ⟨R1, 0, none⟩ = some (.bool r) := by rw [cell_of_row w2 R1 0 _ _ (0, 0) b2]; rfl
  have c1 : w2.cell? ⟨R1, 1, none⟩ = some (.slice pa ps.length pc) := by rw [cell_of_row w2 R1 1 _ _ (0, 0) b2]; rfl
  have KK : Hid (Kept [] w w2) := k1.trans k2 (fun i hi => by simp at hi)
  clear k1 k2 b1 b2
  cases r with
  | true =>
    go_wp2_with fail
    go_ret
    exact ⟨by unfold joi; rw [if_pos rfl, JJ.out]; rfl, KK.out⟩
  | false =>
    by_cases h0 : ps.length = 0
    · go_wp2_with fail
      go_ret
      exact ⟨by unfold joi; rw [if_neg (by simp), if_pos h0]; rfl, KK.out⟩
    · go_wp2_with fail
      go_ret
      exact ⟨by unfold joi; rw [if_neg (by simp), if_neg h0, JJ.out]; rfl, KK.out⟩
end Nm
end Go.Proofs.YtjdhgeikbkjnoaaDoor
