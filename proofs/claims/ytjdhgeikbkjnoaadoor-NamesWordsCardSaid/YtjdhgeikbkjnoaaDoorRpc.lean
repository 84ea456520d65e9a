/- names' reading: a piece. -/
import Derived.Test.YtjdhgeikbkjnoaaDoorRdc
namespace Go.Proofs.YtjdhgeikbkjnoaaDoor
set_option linter.unusedVariables false
open Go.RowKit Go.Shelf
attribute [local go_sem] Oper.semAt_some
namespace Nm
open Go.Proofs.YtjdhgeikbkjnoaaDoor.Utf Go.Proofs.YtjdhgeikbkjnoaaDoor.Txt Go.PlainAid

/-- What a read piece tells: two marks, and its row of spans. -/
def PcOut (w : World) (R : Nat) (a b : Bool) (n : Nat) (xs : List Value) (l : List UInt8) (e : Ending) (w' : World) : Prop :=
  ∃ v, e = .returned (.agg #[.bool a, .bool b, v]) ∧ Hid (w'.ownsRow w.heap.size 102 2 v n xs) ∧ Hid (Kept [R] w w') ∧ ∃ t, Hid (dl t = l) ∧ Hid (Rdg w' R t)

/-- A piece's box is filled, and is what comes out. -/
theorem fill {w W : World} {R R2 : Nat} {a b : Bool} {v : Value} {n : Nat} {xs : List Value} {t : ByteArray} {l : List UInt8} {x0 x1 x2 : Value}
    (h2 : W.heap[R2]? = some (.cells #[x0, x1, x2] 83 (0, 0))) (hv : v.oneCell' = true) (hk : Kept [R] w W) (hr : Rdg W R t) (hl : dl t = l) (hlo : w.heap.size ≤ R2) (hR : R < w.heap.size)
    (hown : W.ownsRow w.heap.size 102 2 v n xs) (hne : ∀ g, v.ownBlock = some g → g ≠ R2) :
    ∃ WF, WF = ((W.setCell ⟨R2, 0, none⟩ (.bool a)).setCell ⟨R2, 1, none⟩ (.bool b)).setCell ⟨R2, 2, none⟩ v ∧ WF.cell? ⟨R2, 0, none⟩ = some (.bool a) ∧ WF.cell? ⟨R2, 1, none⟩ = some (.bool b) ∧ WF.cell? ⟨R2, 2, none⟩ = some v ∧
      PcOut w R a b n xs l (.returned (.agg #[.bool a, .bool b, v])) WF := by
  obtain ⟨WF, hWF⟩ : ∃ WF, WF = ((W.setCell ⟨R2, 0, none⟩ (.bool a)).setCell ⟨R2, 1, none⟩ (.bool b)).setCell ⟨R2, 2, none⟩ v := ⟨_, rfl⟩
  have e2 : WF.heap[R2]? = some (.cells #[.bool a, .bool b, v] 83 (0, 0)) := by
    rw [hWF]
    simpa using heap_set (i := 2) v (heap_set (i := 1) (Value.bool b) (heap_set (i := 0) (Value.bool a) h2))
  have kW : Kept [R2] W WF := by
    rw [hWF]
    exact (((Kept.refl _ W).setCell (p := ⟨R2, 0, none⟩) (Or.inl (by simp)) _).setCell (p := ⟨R2, 1, none⟩) (Or.inl (by simp)) _).setCell (p := ⟨R2, 2, none⟩) (Or.inl (by simp)) _
  refine ⟨WF, hWF, by rw [cell_of_row WF R2 0 _ _ (0, 0) e2]; rfl, by rw [cell_of_row WF R2 1 _ _ (0, 0) e2]; rfl, by rw [cell_of_row WF R2 2 _ _ (0, 0) e2]; rfl, v, rfl, own_turn2 kW hown hne, ?_, t, hl, hr.kept kW (by simp; omega)⟩
  exact hk.trans kW (fun i hi => by simp at hi; right; omega)

set_option maxHeartbeats 8000000 in
set_option maxRecDepth 100000 in
theorem piece_star (w : World) (R : Nat) (s : ByteArray) (h : Rdg w R s) (l : List UInt8) (h0 : dl s = 42 :: l) :
    Calls Tryd.prog 52 #[.pointer (some ⟨R, 0, none⟩)] w (PcOut w R true true 0 [] l) := by
  have HR := Lib.hid h
  have SK := Lib.hid (fun w s h => skips_any w R s ⟨#[42]⟩ h)
  have H0 := Lib.hid h0
  clear h h0
  go_enter Tryd.func52, Tryd.ntmps52
  go_wp2_with fail
  obtain ⟨w1, hw1⟩ : ∃ w1, w1 = w.alloc (.cells #[.bool false, .bool false, .slice none 0 0] 83) := ⟨_, rfl⟩
  obtain ⟨R2, hR2⟩ : ∃ R, R = w.heap.size := ⟨_, rfl⟩
  have k1 : Kept [] w w1 := by rw [hw1]; exact (Kept.refl _ _).alloc _
  have b2 : w1.heap[R2]? = some (.cells #[.bool false, .bool false, .slice none 0 0] 83 (0, 0)) := by rw [hw1, hR2]; exact heap_alloc_new w _
  have ne : R2 ≠ R := by have := block_lt HR.out; omega
  have H1 := Lib.hid (HR.out.kept k1 (by simp))
  have K1 := Lib.hid k1
  have HR2 := Lib.hid hR2
  rw [← hw1, ← hR2]
  clear hw1 hR2 k1
  have S1 := SK.out w1 s H1.out
  have e1 : see ⟨#[42]⟩ (dl s) = true := by rw [H0.out]; simp [see, dl, Lib.indexByte]
  rw [e1] at S1
  refine S1.mono ?_
  rintro e w2 ⟨rfl, k2, t, ht, hr⟩
  have b22 := (k2.block R2 (block_lt b2) (by simpa using ne)).trans b2
  have K2 : Hid (Kept [R] w w2) := (K1.out.mono (fun i hi => by simp at hi)).trans k2 (fun i hi => Or.inl hi)
  have H2 := Lib.hid hr
  have HT : Hid (dl t = l) := (by rw [ht, H0.out]; rfl : dl t = l)
  have B22 := Lib.hid b22
  have n0 : w2.cell? ⟨R2, 0, none⟩ = some (.bool false) := by rw [cell_of_row w2 R2 0 _ _ (0, 0) b22]; rfl
  have n1 : w2.cell? ⟨R2, 1, none⟩ = some (.bool false) := by rw [cell_of_row w2 R2 1 _ _ (0, 0) b22]; rfl
  have n2 : w2.cell? ⟨R2, 2, none⟩ = some (.slice none 0 0) := by rw [cell_of_row w2 R2 2 _ _ (0, 0) b22]; rfl
  have fz : ∀ i, w2.frozen? ⟨R2, i, none⟩ = false := fun i => by simp [World.frozen?, b22]
  clear b2 k2 hr ht b22 ne S1 e1
  go_wp2_with fail
  obtain ⟨WF, hWF, m0, m1, m2, OUT⟩ := fill (a := true) (b := true) (l := l) B22.out (v := .slice none 0 0) rfl K2.out H2.out HT.out (by have := HR2.out; omega) (block_lt HR.out) (World.ownsRow_nil _ _ _ _) (fun g hg => by cases hg)
  rw [← hWF]
  refine ⟨rfl, .agg #[.bool true, .bool true, .slice none 0 0], ?_, OUT⟩
  simp [results, Tryd.f52, go_sem, m0, m1, m2]

set_option maxHeartbeats 8000000 in
set_option maxRecDepth 100000 in
theorem piece_class (w : World) (R : Nat) (s : ByteArray) (h : Rdg w R s) (c d : UInt8) (l : List UInt8) (h0 : dl s = 91 :: c :: d :: 93 :: l) (hc : c.toNat < 128) (h9 : c ≠ 92) (h8 : c ≠ 93) (h7 : c ≠ 45) (h6 : c ≠ 94)
    (gc : d.toNat < 128) (g9 : d ≠ 92) (g8 : d ≠ 93) (g7 : d ≠ 45) :
    Calls Tryd.prog 52 #[.pointer (some ⟨R, 0, none⟩)] w (PcOut w R false false 2 (spc c ++ spc d) l) := by
  have HR := Lib.hid h
  have SK := Lib.hid (fun w s h o => skips_any w R s o h)
  have CL := Lib.hid (fun w s h h0 => class_two w R s h c d l h0 hc h9 h8 h7 h6 gc g9 g8 g7)
  have H0 := Lib.hid h0
  clear h h0
  go_enter Tryd.func52, Tryd.ntmps52
  go_wp2_with fail
  obtain ⟨w1, hw1⟩ : ∃ w1, w1 = w.alloc (.cells #[.bool false, .bool false, .slice none 0 0] 83) := ⟨_, rfl⟩
  obtain ⟨R2, hR2⟩ : ∃ R, R = w.heap.size := ⟨_, rfl⟩
  have k1 : Kept [] w w1 := by rw [hw1]; exact (Kept.refl _ _).alloc _
  have b2 : w1.heap[R2]? = some (.cells #[.bool false, .bool false, .slice none 0 0] 83 (0, 0)) := by rw [hw1, hR2]; exact heap_alloc_new w _
  have ne : R2 ≠ R := by have := block_lt HR.out; omega
  have NE := Lib.hid ne
  have H1 := Lib.hid (HR.out.kept k1 (by simp))
  have K1 : Hid (Kept [R] w w1) := k1.mono (fun i hi => by simp at hi)
  have HR2 := Lib.hid hR2
  have B1 := Lib.hid b2
  rw [← hw1, ← hR2]
  clear hw1 hR2 k1 b2 ne
  have S1 := SK.out w1 s H1.out ⟨#[42]⟩
  have e1 : see ⟨#[42]⟩ (dl s) = false := by rw [H0.out]; simp [see, dl, Lib.indexByte]
  rw [e1] at S1
  refine S1.mono ?_
  rintro e w2 ⟨rfl, k2, t2, ht, hr⟩
  have B2 := Lib.hid ((k2.block R2 (block_lt B1.out) (by simpa using NE.out)).trans B1.out)
  have K2 : Hid (Kept [R] w w2) := K1.out.trans k2 (fun i hi => Or.inl hi)
  have H2 := Lib.hid hr
  have T2 : Hid (dl t2 = 91 :: c :: d :: 93 :: l) := (by rw [ht]; simpa using H0.out : dl t2 = 91 :: c :: d :: 93 :: l)
  clear k2 hr ht S1 e1
  go_wp2_with fail
  have S1 := SK.out w2 t2 H2.out ⟨#[63]⟩
  have e1 : see ⟨#[63]⟩ (dl t2) = false := by rw [T2.out]; simp [see, dl, Lib.indexByte]
  rw [e1] at S1
  refine S1.mono ?_
  rintro e w3 ⟨rfl, k2, t3, ht, hr⟩
  have B3 := Lib.hid ((k2.block R2 (block_lt B2.out) (by simpa using NE.out)).trans B2.out)
  have K3 : Hid (Kept [R] w w3) := K2.out.trans k2 (fun i hi => Or.inl hi)
  have H3 := Lib.hid hr
  have T3 : Hid (dl t3 = 91 :: c :: d :: 93 :: l) := (by rw [ht]; simpa using T2.out : dl t3 = 91 :: c :: d :: 93 :: l)
  clear k2 hr ht S1 e1
  go_wp2_with fail
  have S1 := SK.out w3 t3 H3.out ⟨#[91]⟩
  have e1 : see ⟨#[91]⟩ (dl t3) = true := by rw [T3.out]; simp [see, dl, Lib.indexByte]
  rw [e1] at S1
  refine S1.mono ?_
  rintro e w4 ⟨rfl, k2, t4, ht, hr⟩
  have B4 := Lib.hid ((k2.block R2 (block_lt B3.out) (by simpa using NE.out)).trans B3.out)
  have K4 : Hid (Kept [R] w w4) := K3.out.trans k2 (fun i hi => Or.inl hi)
  have H4 := Lib.hid hr
  have T4 : Hid (dl t4 = c :: d :: 93 :: l) := (by rw [ht, T3.out]; rfl : dl t4 = c :: d :: 93 :: l)
  clear k2 hr ht S1 e1
  go_wp2_with fail
  refine (CL.out w4 t4 H4.out T4.out).mono ?_
  rintro e w5 ⟨v, rfl, ho5, k5, t5, ht5, hr5⟩
  obtain ⟨va, vc, rfl⟩ := own_slice2 ho5
  have b5 := (k5.block R2 (block_lt B4.out) (by simpa using NE.out)).trans B4.out
  have B5 := Lib.hid b5
  have K5 : Hid (Kept [R] w w5) := K4.out.trans k5 (fun i hi => Or.inl hi)
  have O5 := Lib.hid (World.ownsRow.mono (base' := w.heap.size) ho5 K4.out.size)
  have FAR : Hid (∀ g, (Value.slice va 2 vc).ownBlock = some g → g ≠ R2) := fun g hg => by have := (World.ownsRow.lt ho5 g hg).1; have := block_lt B4.out; omega
  have H5 := Lib.hid hr5
  have T5 := Lib.hid ht5
  have n0 : w5.cell? ⟨R2, 0, none⟩ = some (.bool false) := by rw [cell_of_row w5 R2 0 _ _ (0, 0) b5]; rfl
  have n1 : w5.cell? ⟨R2, 1, none⟩ = some (.bool false) := by rw [cell_of_row w5 R2 1 _ _ (0, 0) b5]; rfl
  have n2 : w5.cell? ⟨R2, 2, none⟩ = some (.slice none 0 0) := by rw [cell_of_row w5 R2 2 _ _ (0, 0) b5]; rfl
  have fz : ∀ i, w5.frozen? ⟨R2, i, none⟩ = false := fun i => by simp [World.frozen?, b5]
  clear b5 k5 ho5 hr5 ht5
  go_wp2_with fail
  obtain ⟨WF, hWF, m0, m1, m2, OUT⟩ := fill (a := false) (b := false) (l := l) B5.out (v := .slice va 2 vc) rfl K5.out H5.out T5.out (by have := HR2.out; omega) (block_lt HR.out) O5.out FAR.out
  rw [← hWF]
  refine ⟨rfl, .agg #[.bool false, .bool false, .slice va 2 vc], ?_, OUT⟩
  simp [results, Tryd.f52, go_sem, m0, m1, m2]
end Nm
end Go.Proofs.YtjdhgeikbkjnoaaDoor
