/- names' reading: a piece that is one character. -/
import Derived.Test.YtjdhgeikbkjnoaaDoorRpc
import Derived.Laws.OwnMore
namespace Go.Proofs.YtjdhgeikbkjnoaaDoor
set_option linter.unusedVariables false
open Go.RowKit Go.Shelf
attribute [local go_sem] Oper.semAt_some
namespace Nm
open Go.Proofs.YtjdhgeikbkjnoaaDoor.Utf Go.Proofs.YtjdhgeikbkjnoaaDoor.Txt Go.PlainAid

set_option maxHeartbeats 8000000 in
set_option maxRecDepth 100000 in
theorem piece_char (w : World) (R : Nat) (s : ByteArray) (h : Rdg w R s) (c : UInt8) (l : List UInt8) (h0 : dl s = c :: l) (hc : c.toNat < 128) (h9 : c ≠ 92) (h1 : c ≠ 42) (h2 : c ≠ 63) (h3 : c ≠ 91) :
    Calls Tryd.prog 52 #[.pointer (some ⟨R, 0, none⟩)] w (PcOut w R false false 1 (spc c) l) := by
  have HR := Lib.hid h
  have SK := Lib.hid (fun w s h o => skips_any w R s o h)
  have CL := Lib.hid (fun w s h h0 => meant_ascii w R s h c l h0 hc h9)
  have H0 := Lib.hid h0
  clear h h0
  go_enter Tryd.func52, Tryd.ntmps52
  go_wp2_with fail
  obtain ⟨w1, hw1⟩ : ∃ w1, w1 = w.alloc (.cells #[.bool false, .bool false, .slice none 0 0] 83) := ⟨_, rfl⟩
  obtain ⟨R2, hR2⟩ : ∃ R, R = w.heap.size := ⟨_, rfl⟩
  have k1 : Kept [] w w1 := by rw [hw1]; exact (Kept.refl _ _).alloc _
  have b2 : w1.heap[R2]? = some (.cells #[.bool false, .bool false, .slice none 0 0] 83 (0, 0)) := by rw [hw1, hR2]; exact heap_alloc_new w _
  have ne : R2 ≠ R := by have := block_lt HR.out; omega
  have NE := Lib.hid ne
  have H1 := Lib.hid (HR.out.kept k1 (by simp))
  have K1 : Hid (Kept [R] w w1) := k1.mono (fun i hi => by simp at hi)
  have HR2 := Lib.hid hR2
  have B1 := Lib.hid b2
  rw [← hw1, ← hR2]
  clear hw1 hR2 k1 b2 ne
  have S1 := SK.out w1 s H1.out ⟨#[42]⟩
  have e1 : see ⟨#[42]⟩ (dl s) = false := by rw [H0.out]; simp [see, dl, Lib.indexByte, Ne.symm h1]
  rw [e1] at S1
  refine S1.mono ?_
  rintro e w2 ⟨rfl, k2, t2, ht, hr⟩
  have B2 := Lib.hid ((k2.block R2 (block_lt B1.out) (by simpa using NE.out)).trans B1.out)
  have K2 : Hid (Kept [R] w w2) := K1.out.trans k2 (fun i hi => Or.inl hi)
  have H2 := Lib.hid hr
  have T2 : Hid (dl t2 = c :: l) := (by rw [ht]; simpa using H0.out : dl t2 = c :: l)
  clear k2 hr ht S1 e1
  go_wp2_with fail
  have S1 := SK.out w2 t2 H2.out ⟨#[63]⟩
  have e1 : see ⟨#[63]⟩ (dl t2) = false := by rw [T2.out]; simp [see, dl, Lib.indexByte, Ne.symm h2]
  rw [e1] at S1
  refine S1.mono ?_
  rintro e w3 ⟨rfl, k2, t3, ht, hr⟩
  have B3 := Lib.hid ((k2.block R2 (block_lt B2.out) (by simpa using NE.out)).trans B2.out)
  have K3 : Hid (Kept [R] w w3) := K2.out.trans k2 (fun i hi => Or.inl hi)
  have H3 := Lib.hid hr
  have T3 : Hid (dl t3 = c :: l) := (by rw [ht]; simpa using T2.out : dl t3 = c :: l)
  clear k2 hr ht S1 e1
  go_wp2_with fail
  have S1 := SK.out w3 t3 H3.out ⟨#[91]⟩
  have e1 : see ⟨#[91]⟩ (dl t3) = false := by rw [T3.out]; simp [see, dl, Lib.indexByte, Ne.symm h3]
  rw [e1] at S1
  refine S1.mono ?_
  rintro e w4 ⟨rfl, k2, t4, ht, hr⟩
  have B4 := Lib.hid ((k2.block R2 (block_lt B3.out) (by simpa using NE.out)).trans B3.out)
  have K4 : Hid (Kept [R] w w4) := K3.out.trans k2 (fun i hi => Or.inl hi)
  have H4 := Lib.hid hr
  have T4 : Hid (dl t4 = c :: l) := (by rw [ht]; simpa using T3.out : dl t4 = c :: l)
  clear k2 hr ht S1 e1
  go_wp2_with fail
  refine (CL.out w4 t4 H4.out T4.out).mono ?_
  rintro e w5 ⟨rfl, k5, t5, ht5, hr5⟩
  have b5 := (k5.block R2 (block_lt B4.out) (by simpa using NE.out)).trans B4.out
  have K5 : Hid (Kept [R] w w5) := K4.out.trans k5 (fun i hi => Or.inl hi)
  have H5 := Lib.hid hr5
  have T5 := Lib.hid ht5
  have B5 := Lib.hid b5
  have hz5 := K5.out.size
  have h25 := block_lt b5
  obtain ⟨w6, hw6⟩ : ∃ w6, w6 = w5.alloc (.cells #[.int .i32 c.toNat, .int .i32 c.toNat] 102) := ⟨_, rfl⟩
  have k6 : Kept [] w5 w6 := by rw [hw6]; exact (Kept.refl _ _).alloc _
  have b6 := (k6.block R2 h25 (by simp)).trans b5
  have B6 := Lib.hid b6
  have K6 : Hid (Kept [R] w w6) := K5.out.trans k6 (fun i hi => by simp at hi)
  have H6 := Lib.hid (hr5.kept k6 (by simp))
  have n0 : w5.cell? ⟨R2, 0, none⟩ = some (.bool false) := by rw [cell_of_row w5 R2 0 _ _ (0, 0) b5]; rfl
  have n1 : w5.cell? ⟨R2, 1, none⟩ = some (.bool false) := by rw [cell_of_row w5 R2 1 _ _ (0, 0) b5]; rfl
  have n2 : w5.cell? ⟨R2, 2, none⟩ = some (.slice none 0 0) := by rw [cell_of_row w5 R2 2 _ _ (0, 0) b5]; rfl
  have fz : ∀ i, w5.frozen? ⟨R2, i, none⟩ = false := fun i => by simp [World.frozen?, b5]
  have OW : Hid (w6.ownsRow w.heap.size 102 2 (.slice (some ⟨w5.heap.size, 0, none⟩) 1 1) 1 (spc c)) := by
    rw [hw6]
    exact World.ownsRow_lit w5 #[.int .i32 c.toNat, .int .i32 c.toNat] 1 hz5 (by unfold maxLen; omega) rfl
  have FAR : Hid (∀ g, (Value.slice (some ⟨w5.heap.size, 0, none⟩) 1 1).ownBlock = some g → g ≠ R2) := fun g hg => by cases hg; show w5.heap.size ≠ R2; omega
  have HW6 := Lib.hid hw6
  clear b5 k5 ht5 hr5 k6 b6 hw6
  go_wp2_with fail
  rw [← World.setCell_alloc_past _ _ _ _ (by simpa using h25), ← World.setCell_alloc_past _ _ _ _ (by simpa using h25), ← World.setCell_alloc_past _ _ _ _ h25, ← HW6.out]
  obtain ⟨WF, hWF, m0, m1, m2, OUT⟩ := fill (a := false) (b := false) (l := l) B6.out (v := .slice (some ⟨w5.heap.size, 0, none⟩) 1 1) rfl K6.out H6.out T5.out (by have := HR2.out; omega) (block_lt HR.out) OW.out FAR.out
  rw [← hWF]
  refine ⟨rfl, .agg #[.bool false, .bool false, .slice (some ⟨w5.heap.size, 0, none⟩) 1 1], ?_, OUT⟩
  simp [results, Tryd.f52, go_sem, m0, m1, m2]
end Nm
end Go.Proofs.YtjdhgeikbkjnoaaDoor
