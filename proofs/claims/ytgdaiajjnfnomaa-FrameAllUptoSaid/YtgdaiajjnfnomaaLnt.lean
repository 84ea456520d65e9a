/- The law's lent and kept. -/
import Derived.Test.YtgdaiajjnfnomaaSam
import Derived.Test.YtgdaiajjnfnomaaFrs
import Derived.StillTailTactics
namespace Go.Proofs.Ytgdaiajjnfnomaa
set_option linter.unusedVariables false
open Go.RowKit
namespace Lst
/-- The bytes with their marks behind them. -/
def marked (bs : List UInt8) : List UInt8 := bs ++ [90, 165, 105]

set_option maxHeartbeats 1000000 in
set_option maxRecDepth 100000 in
theorem lent_any (w : World) (v : Value) (bs : List UInt8) (T : List Nat) (hsz : bs.length ≤ 1152921504) (hb : Hid (Src w v bs T)) :
    Calls Try.prog 20 #[v] w (Fresh w (marked bs)) := by
  obtain ⟨i0, hi0, hz00, hz01, hz02⟩ := info_parts info_u8
  obtain ⟨a, c, rfl⟩ := src_slice hb.out
  have RS := Lib.hid hb.out.rowsrc
  go_enter Try.func20, Try.ntmps20
  go_wp2_with (at_builtin; first | (refine wpList_append_src w rfl (.tmp 4) (.tmp 5) 22 rfl w.heap.size 5 i0 (.int .u8 0) 1 1 Try.underlying22 hi0 hz00 hz01 hz02 rfl (by decide) (.slice none 0 0) 0 [] rfl (World.ownsRow_nil _ _ _ _) (.slice a bs.length c) bs.length (bs.map bv) rfl RS.out (by rw [List.length_map]; omega) (by intro u hu; obtain ⟨b, -, rfl⟩ := List.mem_map.1 hu; rfl) (by unfold maxLen; omega) (by omega) (Nat.le_refl _) ?_; intro v1 w1 hown1 hgrow1 hat1; have R1 : Hid (w1.ownsRow w.heap.size 5 1 v1 bs.length (bs.map bv)) := (by have := hown1; rw [Nat.zero_add, List.nil_append] at this; exact this); have R2 : Hid (Kept [] w w1) := (Kept.refl [] w).grown hgrow1 (fun k e => by cases e); clear hown1 hgrow1 hat1) | (refine wpList_append_src (w1.alloc (.cells #[.int .u8 90, .int .u8 165, .int .u8 105] 5)) rfl (.tmp 7) (.tmp 8) 22 rfl w.heap.size 5 i0 (.int .u8 0) 1 1 Try.underlying22 hi0 hz00 hz01 hz02 rfl (by decide) v1 bs.length (bs.map bv) rfl (R1.out.alloc _) (.slice (some ⟨w1.heap.size, 0, none⟩) 3 3) 3 [.int .u8 90, .int .u8 165, .int .u8 105] rfl (Or.inr ⟨_, _, rfl, World.news_of_block (cs := #[.int .u8 90, .int .u8 165, .int .u8 105]) (by exact heap_alloc_new w1 _)⟩) rfl (by intro u hu; simp at hu; rcases hu with rfl | rfl | rfl <;> rfl) (by unfold maxLen; omega) (by omega) (by have := R2.out.size; simp; omega) ?_; intro v2 w2 hown2 hgrow2 _; have Q1 : Hid (Own w2 w.heap.size v2 (marked bs)) := (by have := hown2; show Own _ _ _ _; unfold Own marked; rw [List.length_append, List.map_append]; exact this); have Q2 : Hid (Kept [] w w2) := (R2.out.trans ((Kept.refl [] w1).alloc _) (fun i hi => by simp at hi)).grown hgrow2 (fun i hi => Or.inr (R1.out.lt i hi).1); clear hown2 hgrow2))
  go_ret
  exact ⟨_, rfl, Q1, Q2.out⟩

set_option maxHeartbeats 1000000 in
theorem kept_true (w : World) (g c : Nat) (b : Value) (bs : List UInt8) (T : List Nat) (hsz : bs.length ≤ 1152921504) (hv : Hid (w.ownsRow 0 5 1 (.slice (some ⟨g, 0, none⟩) (bs.length + 3) c) (bs.length + 3) ((marked bs).map bv))) (hb : Hid (Src w b bs T)) :
    Calls Try.prog 22 #[.slice (some ⟨g, 0, none⟩) (bs.length + 3) c, b] w fun e w' => e = .returned (.bool true) ∧ Kept [g] w w' := by
  have hml : (marked bs).length = bs.length + 3 := by simp [marked]
  have hseg0 : Seg w (.slice (some ⟨g, 0, none⟩) (bs.length + 3) c) (marked bs) [g] := by
    have h1 := hv.out
    rw [← hml] at h1
    have := Seg.of_own h1
    rw [hml] at this
    exact this
  have hseg : Hid (Seg w (.slice (some ⟨g, 0, none⟩) bs.length c) bs [g]) := by
    have h1 := hseg0
    rw [← hml] at h1
    have h2 := h1.take (n := bs.length) (by omega)
    have e : (marked bs).take bs.length = bs := by unfold marked; simp
    rw [e] at h2
    exact h2
  have hcap : bs.length + 3 ≤ c := by
    rcases hv.out.2 with ⟨h, _⟩ | ⟨_, _, _, h, _, _, hc, _⟩
    · cases h
    · simp only [Value.slice.injEq] at h; omega
  have d0 : w.cell? ⟨g, bs.length, none⟩ = some (.int .u8 90) := by rw [hv.out.cellAt bs.length (by omega)]; simp [marked, bv]
  have d1 : w.cell? ⟨g, bs.length + 1, none⟩ = some (.int .u8 165) := by rw [hv.out.cellAt (bs.length + 1) (by omega)]; simp [marked, bv]
  have d2 : w.cell? ⟨g, bs.length + 2, none⟩ = some (.int .u8 105) := by rw [hv.out.cellAt (bs.length + 2) (by omega)]; simp [marked, bv]
  clear hseg0 hml
  have hl' : ((bs.length : Int) + 3 - 3) = bs.length := by omega
  go_enter Try.func22, Try.ntmps22
  go_wp2_with fail
  refine (same_src w _ b bs bs [g] T (by omega) hseg hb).mono ?_
  rintro e w1 ⟨rfl, hk1⟩
  rw [show decide (bs = bs) = true from by simp]
  have D0 : w1.cell? ⟨g, bs.length, none⟩ = some (.int .u8 90) := by rw [← d0]; exact World.cell?_of_block (hk1.block _ (World.block_lt_of_cell? w _ d0) (by simp))
  have D1 : w1.cell? ⟨g, bs.length + 1, none⟩ = some (.int .u8 165) := by rw [← d1]; exact World.cell?_of_block (hk1.block _ (World.block_lt_of_cell? w _ d1) (by simp))
  have D2 : w1.cell? ⟨g, bs.length + 2, none⟩ = some (.int .u8 105) := by rw [← d2]; exact World.cell?_of_block (hk1.block _ (World.block_lt_of_cell? w _ d2) (by simp))
  have hv1 := Lib.hid (ownsRow_kept hv.out hk1 (fun k _ hm => by simp at hm))
  clear d0 d1 d2
  go_wp2_with fail
  go_loopw [7] (fun v wr => ∃ (k : Nat) (xs : List Value), k ≤ bs.length + 3 ∧ v = .int .i64 k ∧ Hid (wr.ownsRow 0 5 1 (.slice (some ⟨g, 0, none⟩) (bs.length + 3) c) (bs.length + 3) xs) ∧ Hid (Kept [g] w wr)) (fun v _ => bs.length + 3 - (intOf v).toNat)
  case atStart => exact ⟨0, _, by omega, rfl, hv1.out, hk1.mono (fun i hi => by simp at hi)⟩
  case round =>
    obtain ⟨k, xs, hk, rfl, hown, hK⟩ := hrel
    by_cases hlt : k < bs.length + 3
    · have hxl : xs.length = (bs.length + 3) * 1 := hown.out.1
      have dk : wr.cell? ⟨g, k, none⟩ = some (xs[k]'(by omega)) := by rw [hown.out.cellAt k (by omega)]; exact List.getElem?_eq_getElem _
      have fk := hown.out.frozenAt k
      have R1 := Lib.hid (hown.out.stored k (.int .u8 238)).1
      go_wp2_with fail
      go_roundw
      case rel => exact ⟨k + 1, _, by omega, by go_num, R1, hK.out.setCell (Or.inl (by simp)) _⟩
      case measure => simp [intOf]; omega
    · go_wp2_with fail
      go_ret
      exact ⟨rfl, hK.out⟩
end Lst
/-- The marked list's own slice, and the list without its marks. -/
theorem own_marked {w : World} {B : Nat} {v : Value} {bs : List UInt8} (h : Own w B v (Lst.marked bs)) :
    ∃ g c, v = .slice (some ⟨g, 0, none⟩) (bs.length + 3) c ∧ B ≤ g ∧ g < w.heap.size ∧ bs.length + 3 ≤ c ∧ c ≤ 9223372036854775807 ∧ w.ownsRow 0 5 1 (.slice (some ⟨g, 0, none⟩) (bs.length + 3) c) (bs.length + 3) ((Lst.marked bs).map bv) := by
  have hml : (Lst.marked bs).length = bs.length + 3 := by simp [Lst.marked]
  have h1 : w.ownsRow B 5 1 v (bs.length + 3) ((Lst.marked bs).map bv) := by rw [← hml]; exact h
  rcases h1.2 with ⟨_, h0⟩ | ⟨g, c, cur, rfl, hb, hg, hc, hm, _⟩
  · omega
  · exact ⟨g, c, rfl, hb, block_lt hg, hc, by unfold maxLen at hm; omega, World.ownsRow.mono h1 (Nat.zero_le _)⟩
theorem marked_seg {w : World} {g c : Nat} {bs : List UInt8} (h : w.ownsRow 0 5 1 (.slice (some ⟨g, 0, none⟩) (bs.length + 3) c) (bs.length + 3) ((Lst.marked bs).map bv)) : Seg w (.slice (some ⟨g, 0, none⟩) bs.length c) bs [g] := by
  have hml : (Lst.marked bs).length = bs.length + 3 := by simp [Lst.marked]
  rw [← hml] at h
  have h2 := (Seg.of_own h).take (n := bs.length) (by omega)
  have e : (Lst.marked bs).take bs.length = bs := by unfold Lst.marked; simp
  rw [e] at h2
  exact h2
end Go.Proofs.Ytgdaiajjnfnomaa
