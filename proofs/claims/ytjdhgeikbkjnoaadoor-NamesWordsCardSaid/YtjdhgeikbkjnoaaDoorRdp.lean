/- names' reading: spans, classes, pieces. -/
import Derived.Test.YtjdhgeikbkjnoaaDoorRdn
namespace Go.Proofs.YtjdhgeikbkjnoaaDoor
set_option linter.unusedVariables false
open Go.RowKit Go.Shelf
attribute [local go_sem] Oper.semAt_some
namespace Nm
open Go.Proofs.YtjdhgeikbkjnoaaDoor.Utf Go.Proofs.YtjdhgeikbkjnoaaDoor.Txt Go.PlainAid

theorem Rdg.kept {w w' : World} {R : Nat} {s : ByteArray} {S : List Nat} (h : Rdg w R s) (k : Kept S w w') (hS : R ∉ S) : Rdg w' R s := (k.block R (block_lt h) hS).trans h
/-- A span of one character. -/
def spv (c : UInt8) : Value := .agg #[.int .i32 c.toNat, .int .i32 c.toNat]

set_option maxHeartbeats 8000000 in
set_option maxRecDepth 100000 in
theorem span_ascii (w : World) (R : Nat) (s : ByteArray) (h : Rdg w R s) (c : UInt8) (l : List UInt8) (h0 : dl s = c :: l) (hc : c.toNat < 128) (h9 : c ≠ 92) (h8 : c ≠ 93) (h7 : c ≠ 45) (hl : see ⟨#[45]⟩ l = false) :
    Calls Tryd.prog 83 #[.pointer (some ⟨R, 0, none⟩)] w fun e w' => e = .returned (spv c) ∧ Kept [R] w w' ∧ ∃ t, dl t = l ∧ Rdg w' R t := by
  have HR := Lib.hid h
  have ONE := Lib.hid (fun w h => one_ascii w R s h c l h0 hc h9 h8 h7)
  have SKP := Lib.hid (fun w s h => skips_any w R s ⟨#[45]⟩ h)
  have HL := Lib.hid hl
  clear h hl
  go_enter Tryd.func83, Tryd.ntmps83
  go_wp2_with fail
  obtain ⟨w1, hw1⟩ : ∃ w1, w1 = w.alloc (.cells #[.int .i32 0, .int .i32 0] 102) := ⟨_, rfl⟩
  obtain ⟨R2, hR2⟩ : ∃ R, R = w.heap.size := ⟨_, rfl⟩
  have k1 : Kept [] w w1 := by rw [hw1]; exact (Kept.refl _ _).alloc _
  have b2 : w1.heap[R2]? = some (.cells #[.int .i32 0, .int .i32 0] 102 (0, 0)) := by rw [hw1, hR2]; exact heap_alloc_new w _
  have ne : R2 ≠ R := by have := block_lt HR.out; omega
  have NE := Lib.hid ne
  have H1 := Lib.hid (HR.out.kept k1 (by simp))
  have K1 := Lib.hid k1
  have HR2 := Lib.hid hR2
  rw [← hw1, ← hR2]
  clear hw1 hR2 k1
  refine (ONE.out w1 H1.out).mono ?_
  rintro e w2 ⟨rfl, k2, t, ht, hr⟩
  have b22 := (k2.block R2 (block_lt b2) (by simpa using ne)).trans b2
  have K2 : Hid (Kept [R] w w2) := (K1.out.mono (fun i hi => by simp at hi)).trans k2 (fun i hi => Or.inl hi)
  have H2 := Lib.hid hr
  have HT := Lib.hid ht
  clear b2 k2 hr ht
  go_wp2_with fail
  have S1 := SKP.out w2 t H2.out
  rw [HT.out, HL.out] at S1
  refine S1.mono ?_
  rintro e w3 ⟨rfl, k3, t3, ht3, hr3⟩
  have b23 := (k3.block R2 (block_lt b22) (by simpa using ne)).trans b22
  have K3 : Hid (Kept [R] w w3) := K2.out.trans k3 (fun i hi => Or.inl hi)
  have H3 := Lib.hid hr3
  have HT3 : Hid (dl t3 = l) := (by simpa using ht3 : dl t3 = l)
  have c20 : w3.cell? ⟨R2, 0, none⟩ = some (.int .i32 0) := by rw [cell_of_row w3 R2 0 _ _ (0, 0) b23]; rfl
  have c21 : w3.cell? ⟨R2, 1, none⟩ = some (.int .i32 0) := by rw [cell_of_row w3 R2 1 _ _ (0, 0) b23]; rfl
  have f2 : ∀ i, w3.frozen? ⟨R2, i, none⟩ = false := fun i => by simp [World.frozen?, b23]
  have B23 := Lib.hid b23
  clear b22 k3 hr3 ht3 S1 b23 ne
  have hcb : ¬ ((c.toNat : Int) < (c.toNat : Int)) := by omega
  go_wp2_with fail
  clear c20 c21 f2
  obtain ⟨WF, hWF⟩ : ∃ WF, WF = (w3.setCell ⟨R2, 0, none⟩ (.int .i32 c.toNat)).setCell ⟨R2, 1, none⟩ (.int .i32 c.toNat) := ⟨_, rfl⟩
  have e2 : WF.heap[R2]? = some (.cells #[.int .i32 c.toNat, .int .i32 c.toNat] 102 (0, 0)) := by
    rw [hWF]
    simpa using heap_set (i := 1) (Value.int .i32 c.toNat) (heap_set (i := 0) (Value.int .i32 c.toNat) B23.out)
  have kW : Kept [R2] w3 WF := by
    rw [hWF]
    exact ((Kept.refl _ w3).setCell (p := ⟨R2, 0, none⟩) (Or.inl (by simp)) _).setCell (p := ⟨R2, 1, none⟩) (Or.inl (by simp)) _
  have c20 : WF.cell? ⟨R2, 0, none⟩ = some (.int .i32 c.toNat) := by rw [cell_of_row WF R2 0 _ _ (0, 0) e2]; rfl
  have c21 : WF.cell? ⟨R2, 1, none⟩ = some (.int .i32 c.toNat) := by rw [cell_of_row WF R2 1 _ _ (0, 0) e2]; rfl
  rw [← hWF]
  refine ⟨rfl, spv c, ?_, rfl, K3.out.trans kW (fun i hi => by have := HR2.out; simp at hi; right; omega), t3, HT3.out, H3.out.kept kW (by simp; exact fun e => NE.out e.symm)⟩
  simp [results, Tryd.f83, go_sem, c20, c21, spv]
end Nm
end Go.Proofs.YtjdhgeikbkjnoaaDoor
