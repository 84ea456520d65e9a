/- The table of a record's fields, as it lies in memory. -/
import Derived.Test.YteeheapenfklcaaGreatDoorRcd
import Derived.Laws.EntriesVeiled
namespace Go.Proofs.YteeheapenfklcaaGreatDoor
set_option linter.unusedVariables false
open Go.RowKit
namespace Tab
def Rowed (w : World) (bit : Nat) (I S M : Nat) (ft : TypeId) (e : Ending) (w' : World) : Prop :=
  e = .returned (.agg #[.int .u16 bit, .func (.func S) #[] #[.pointer (some ⟨w.heap.size, 0, none⟩)], .func (.func M) #[] #[.pointer (some ⟨w.heap.size, 0, none⟩)]]) ∧ Hid (w'.heap[w.heap.size]? = some (.cells #[.func (.func I) #[] #[]] ft (0, 0))) ∧ Hid (w'.heap.size = w.heap.size + 2) ∧ Hid (Kept [] w w')

theorem at_uint16 (w : World) (bit I : Nat) : Calls Tryz.prog 100 #[.int .u16 bit, .func (.func I) #[] #[]] w (Rowed w bit I 140 141 163) := by
  go_enter Tryz.func100, Tryz.ntmps100
  go_wp2_with fail
  go_returns
  exact ⟨rfl, two_old w _ _, by show _ = _; simp, ((Kept.refl [] _).alloc _).alloc _⟩

theorem at_uint32 (w : World) (bit I : Nat) : Calls Tryz.prog 102 #[.int .u16 bit, .func (.func I) #[] #[]] w (Rowed w bit I 142 143 166) := by
  go_enter Tryz.func102, Tryz.ntmps102
  go_wp2_with fail
  go_returns
  exact ⟨rfl, two_old w _ _, by show _ = _; simp, ((Kept.refl [] _).alloc _).alloc _⟩

theorem at_uint8 (w : World) (bit I : Nat) : Calls Tryz.prog 104 #[.int .u16 bit, .func (.func I) #[] #[]] w (Rowed w bit I 144 145 168) := by
  go_enter Tryz.func104, Tryz.ntmps104
  go_wp2_with fail
  go_returns
  exact ⟨rfl, two_old w _ _, by show _ = _; simp, ((Kept.refl [] _).alloc _).alloc _⟩

theorem at_uint64 (w : World) (bit I : Nat) : Calls Tryz.prog 107 #[.int .u16 bit, .func (.func I) #[] #[]] w (Rowed w bit I 146 147 171) := by
  go_enter Tryz.func107, Tryz.ntmps107
  go_wp2_with fail
  go_returns
  exact ⟨rfl, two_old w _ _, by show _ = _; simp, ((Kept.refl [] _).alloc _).alloc _⟩

theorem at_string (w : World) (bit I : Nat) : Calls Tryz.prog 113 #[.int .u16 bit, .func (.func I) #[] #[]] w (Rowed w bit I 148 149 174) := by
  go_enter Tryz.func113, Tryz.ntmps113
  go_wp2_with fail
  go_returns
  exact ⟨rfl, two_old w _ _, by show _ = _; simp, ((Kept.refl [] _).alloc _).alloc _⟩

def cells (B : Nat) : Array Value := #[.int .u16 1, .func (.func 140) #[] #[.pointer (some ⟨B + 0, 0, none⟩)], .func (.func 141) #[] #[.pointer (some ⟨B + 0, 0, none⟩)], .int .u16 2, .func (.func 142) #[] #[.pointer (some ⟨B + 2, 0, none⟩)], .func (.func 143) #[] #[.pointer (some ⟨B + 2, 0, none⟩)], .int .u16 4, .func (.func 144) #[] #[.pointer (some ⟨B + 4, 0, none⟩)], .func (.func 145) #[] #[.pointer (some ⟨B + 4, 0, none⟩)], .int .u16 8, .func (.func 142) #[] #[.pointer (some ⟨B + 6, 0, none⟩)], .func (.func 143) #[] #[.pointer (some ⟨B + 6, 0, none⟩)], .int .u16 16, .func (.func 146) #[] #[.pointer (some ⟨B + 8, 0, none⟩)], .func (.func 147) #[] #[.pointer (some ⟨B + 8, 0, none⟩)], .int .u16 32, .func (.func 142) #[] #[.pointer (some ⟨B + 10, 0, none⟩)], .func (.func 143) #[] #[.pointer (some ⟨B + 10, 0, none⟩)], .int .u16 64, .func (.func 142) #[] #[.pointer (some ⟨B + 12, 0, none⟩)], .func (.func 143) #[] #[.pointer (some ⟨B + 12, 0, none⟩)], .int .u16 128, .func (.func 142) #[] #[.pointer (some ⟨B + 14, 0, none⟩)], .func (.func 143) #[] #[.pointer (some ⟨B + 14, 0, none⟩)], .int .u16 256, .func (.func 146) #[] #[.pointer (some ⟨B + 16, 0, none⟩)], .func (.func 147) #[] #[.pointer (some ⟨B + 16, 0, none⟩)], .int .u16 512, .func (.func 148) #[] #[.pointer (some ⟨B + 18, 0, none⟩)], .func (.func 149) #[] #[.pointer (some ⟨B + 18, 0, none⟩)], .int .u16 1024, .func (.func 148) #[] #[.pointer (some ⟨B + 20, 0, none⟩)], .func (.func 149) #[] #[.pointer (some ⟨B + 20, 0, none⟩)], .int .u16 2048, .func (.func 148) #[] #[.pointer (some ⟨B + 22, 0, none⟩)], .func (.func 149) #[] #[.pointer (some ⟨B + 22, 0, none⟩)], .int .u16 4096, .func (.func 148) #[] #[.pointer (some ⟨B + 24, 0, none⟩)], .func (.func 149) #[] #[.pointer (some ⟨B + 24, 0, none⟩)]]
structure Lies (w : World) (B : Nat) : Prop where
  tab : w.heap[B + 26]? = some (.cells (cells B) 142 (0, 0))
  box0 : w.heap[B + 0]? = some (.cells #[.func (.func 101) #[] #[]] 163 (0, 0))
  box1 : w.heap[B + 2]? = some (.cells #[.func (.func 103) #[] #[]] 166 (0, 0))
  box2 : w.heap[B + 4]? = some (.cells #[.func (.func 105) #[] #[]] 168 (0, 0))
  box3 : w.heap[B + 6]? = some (.cells #[.func (.func 106) #[] #[]] 166 (0, 0))
  box4 : w.heap[B + 8]? = some (.cells #[.func (.func 108) #[] #[]] 171 (0, 0))
  box5 : w.heap[B + 10]? = some (.cells #[.func (.func 109) #[] #[]] 166 (0, 0))
  box6 : w.heap[B + 12]? = some (.cells #[.func (.func 110) #[] #[]] 166 (0, 0))
  box7 : w.heap[B + 14]? = some (.cells #[.func (.func 111) #[] #[]] 166 (0, 0))
  box8 : w.heap[B + 16]? = some (.cells #[.func (.func 112) #[] #[]] 171 (0, 0))
  box9 : w.heap[B + 18]? = some (.cells #[.func (.func 114) #[] #[]] 174 (0, 0))
  box10 : w.heap[B + 20]? = some (.cells #[.func (.func 115) #[] #[]] 174 (0, 0))
  box11 : w.heap[B + 22]? = some (.cells #[.func (.func 116) #[] #[]] 174 (0, 0))
  box12 : w.heap[B + 24]? = some (.cells #[.func (.func 117) #[] #[]] 174 (0, 0))
theorem Lies.kept {w w' : World} {B : Nat} {T : List Nat} (h : Lies w B) (hk : Kept T w w') (hT : ∀ i, B ≤ i → i < B + 27 → i ∉ T) : Lies w' B :=
  ⟨(hk.block _ (block_lt h.tab) (hT _ (by omega) (by omega))).trans h.tab, (hk.block _ (block_lt h.box0) (hT _ (by omega) (by omega))).trans h.box0, (hk.block _ (block_lt h.box1) (hT _ (by omega) (by omega))).trans h.box1, (hk.block _ (block_lt h.box2) (hT _ (by omega) (by omega))).trans h.box2, (hk.block _ (block_lt h.box3) (hT _ (by omega) (by omega))).trans h.box3, (hk.block _ (block_lt h.box4) (hT _ (by omega) (by omega))).trans h.box4, (hk.block _ (block_lt h.box5) (hT _ (by omega) (by omega))).trans h.box5, (hk.block _ (block_lt h.box6) (hT _ (by omega) (by omega))).trans h.box6, (hk.block _ (block_lt h.box7) (hT _ (by omega) (by omega))).trans h.box7, (hk.block _ (block_lt h.box8) (hT _ (by omega) (by omega))).trans h.box8, (hk.block _ (block_lt h.box9) (hT _ (by omega) (by omega))).trans h.box9, (hk.block _ (block_lt h.box10) (hT _ (by omega) (by omega))).trans h.box10, (hk.block _ (block_lt h.box11) (hT _ (by omega) (by omega))).trans h.box11, (hk.block _ (block_lt h.box12) (hT _ (by omega) (by omega))).trans h.box12⟩
theorem Lies.row0 {w : World} {B : Nat} (h : Lies w B) : w.cell? ⟨B + 26, 0, none⟩ = some (.int .u16 1) ∧ w.cell? ⟨B + 26, 1, none⟩ = some (.func (.func 140) #[] #[.pointer (some ⟨B + 0, 0, none⟩)]) ∧ w.cell? ⟨B + 26, 2, none⟩ = some (.func (.func 141) #[] #[.pointer (some ⟨B + 0, 0, none⟩)]) ∧ w.cell? ⟨B + 0, 0, none⟩ = some (.func (.func 101) #[] #[]) := by
  have g := fun i => cell_of_row w (B + 26) i (cells B) 142 (0, 0) h.tab
  have b := cell_of_row w (B + 0) 0 #[.func (.func 101) #[] #[]] 163 (0, 0) h.box0
  exact ⟨g 0, g 1, g 2, b⟩
theorem Lies.row1 {w : World} {B : Nat} (h : Lies w B) : w.cell? ⟨B + 26, 3, none⟩ = some (.int .u16 2) ∧ w.cell? ⟨B + 26, 4, none⟩ = some (.func (.func 142) #[] #[.pointer (some ⟨B + 2, 0, none⟩)]) ∧ w.cell? ⟨B + 26, 5, none⟩ = some (.func (.func 143) #[] #[.pointer (some ⟨B + 2, 0, none⟩)]) ∧ w.cell? ⟨B + 2, 0, none⟩ = some (.func (.func 103) #[] #[]) := by
  have g := fun i => cell_of_row w (B + 26) i (cells B) 142 (0, 0) h.tab
  have b := cell_of_row w (B + 2) 0 #[.func (.func 103) #[] #[]] 166 (0, 0) h.box1
  exact ⟨g 3, g 4, g 5, b⟩
theorem Lies.row2 {w : World} {B : Nat} (h : Lies w B) : w.cell? ⟨B + 26, 6, none⟩ = some (.int .u16 4) ∧ w.cell? ⟨B + 26, 7, none⟩ = some (.func (.func 144) #[] #[.pointer (some ⟨B + 4, 0, none⟩)]) ∧ w.cell? ⟨B + 26, 8, none⟩ = some (.func (.func 145) #[] #[.pointer (some ⟨B + 4, 0, none⟩)]) ∧ w.cell? ⟨B + 4, 0, none⟩ = some (.func (.func 105) #[] #[]) := by
  have g := fun i => cell_of_row w (B + 26) i (cells B) 142 (0, 0) h.tab
  have b := cell_of_row w (B + 4) 0 #[.func (.func 105) #[] #[]] 168 (0, 0) h.box2
  exact ⟨g 6, g 7, g 8, b⟩
theorem Lies.row3 {w : World} {B : Nat} (h : Lies w B) : w.cell? ⟨B + 26, 9, none⟩ = some (.int .u16 8) ∧ w.cell? ⟨B + 26, 10, none⟩ = some (.func (.func 142) #[] #[.pointer (some ⟨B + 6, 0, none⟩)]) ∧ w.cell? ⟨B + 26, 11, none⟩ = some (.func (.func 143) #[] #[.pointer (some ⟨B + 6, 0, none⟩)]) ∧ w.cell? ⟨B + 6, 0, none⟩ = some (.func (.func 106) #[] #[]) := by
  have g := fun i => cell_of_row w (B + 26) i (cells B) 142 (0, 0) h.tab
  have b := cell_of_row w (B + 6) 0 #[.func (.func 106) #[] #[]] 166 (0, 0) h.box3
  exact ⟨g 9, g 10, g 11, b⟩
theorem Lies.row4 {w : World} {B : Nat} (h : Lies w B) : w.cell? ⟨B + 26, 12, none⟩ = some (.int .u16 16) ∧ w.cell? ⟨B + 26, 13, none⟩ = some (.func (.func 146) #[] #[.pointer (some ⟨B + 8, 0, none⟩)]) ∧ w.cell? ⟨B + 26, 14, none⟩ = some (.func (.func 147) #[] #[.pointer (some ⟨B + 8, 0, none⟩)]) ∧ w.cell? ⟨B + 8, 0, none⟩ = some (.func (.func 108) #[] #[]) := by
  have g := fun i => cell_of_row w (B + 26) i (cells B) 142 (0, 0) h.tab
  have b := cell_of_row w (B + 8) 0 #[.func (.func 108) #[] #[]] 171 (0, 0) h.box4
  exact ⟨g 12, g 13, g 14, b⟩
theorem Lies.row5 {w : World} {B : Nat} (h : Lies w B) : w.cell? ⟨B + 26, 15, none⟩ = some (.int .u16 32) ∧ w.cell? ⟨B + 26, 16, none⟩ = some (.func (.func 142) #[] #[.pointer (some ⟨B + 10, 0, none⟩)]) ∧ w.cell? ⟨B + 26, 17, none⟩ = some (.func (.func 143) #[] #[.pointer (some ⟨B + 10, 0, none⟩)]) ∧ w.cell? ⟨B + 10, 0, none⟩ = some (.func (.func 109) #[] #[]) := by
  have g := fun i => cell_of_row w (B + 26) i (cells B) 142 (0, 0) h.tab
  have b := cell_of_row w (B + 10) 0 #[.func (.func 109) #[] #[]] 166 (0, 0) h.box5
  exact ⟨g 15, g 16, g 17, b⟩
theorem Lies.row6 {w : World} {B : Nat} (h : Lies w B) : w.cell? ⟨B + 26, 18, none⟩ = some (.int .u16 64) ∧ w.cell? ⟨B + 26, 19, none⟩ = some (.func (.func 142) #[] #[.pointer (some ⟨B + 12, 0, none⟩)]) ∧ w.cell? ⟨B + 26, 20, none⟩ = some (.func (.func 143) #[] #[.pointer (some ⟨B + 12, 0, none⟩)]) ∧ w.cell? ⟨B + 12, 0, none⟩ = some (.func (.func 110) #[] #[]) := by
  have g := fun i => cell_of_row w (B + 26) i (cells B) 142 (0, 0) h.tab
  have b := cell_of_row w (B + 12) 0 #[.func (.func 110) #[] #[]] 166 (0, 0) h.box6
  exact ⟨g 18, g 19, g 20, b⟩
theorem Lies.row7 {w : World} {B : Nat} (h : Lies w B) : w.cell? ⟨B + 26, 21, none⟩ = some (.int .u16 128) ∧ w.cell? ⟨B + 26, 22, none⟩ = some (.func (.func 142) #[] #[.pointer (some ⟨B + 14, 0, none⟩)]) ∧ w.cell? ⟨B + 26, 23, none⟩ = some (.func (.func 143) #[] #[.pointer (some ⟨B + 14, 0, none⟩)]) ∧ w.cell? ⟨B + 14, 0, none⟩ = some (.func (.func 111) #[] #[]) := by
  have g := fun i => cell_of_row w (B + 26) i (cells B) 142 (0, 0) h.tab
  have b := cell_of_row w (B + 14) 0 #[.func (.func 111) #[] #[]] 166 (0, 0) h.box7
  exact ⟨g 21, g 22, g 23, b⟩
theorem Lies.row8 {w : World} {B : Nat} (h : Lies w B) : w.cell? ⟨B + 26, 24, none⟩ = some (.int .u16 256) ∧ w.cell? ⟨B + 26, 25, none⟩ = some (.func (.func 146) #[] #[.pointer (some ⟨B + 16, 0, none⟩)]) ∧ w.cell? ⟨B + 26, 26, none⟩ = some (.func (.func 147) #[] #[.pointer (some ⟨B + 16, 0, none⟩)]) ∧ w.cell? ⟨B + 16, 0, none⟩ = some (.func (.func 112) #[] #[]) := by
  have g := fun i => cell_of_row w (B + 26) i (cells B) 142 (0, 0) h.tab
  have b := cell_of_row w (B + 16) 0 #[.func (.func 112) #[] #[]] 171 (0, 0) h.box8
  exact ⟨g 24, g 25, g 26, b⟩
theorem Lies.row9 {w : World} {B : Nat} (h : Lies w B) : w.cell? ⟨B + 26, 27, none⟩ = some (.int .u16 512) ∧ w.cell? ⟨B + 26, 28, none⟩ = some (.func (.func 148) #[] #[.pointer (some ⟨B + 18, 0, none⟩)]) ∧ w.cell? ⟨B + 26, 29, none⟩ = some (.func (.func 149) #[] #[.pointer (some ⟨B + 18, 0, none⟩)]) ∧ w.cell? ⟨B + 18, 0, none⟩ = some (.func (.func 114) #[] #[]) := by
  have g := fun i => cell_of_row w (B + 26) i (cells B) 142 (0, 0) h.tab
  have b := cell_of_row w (B + 18) 0 #[.func (.func 114) #[] #[]] 174 (0, 0) h.box9
  exact ⟨g 27, g 28, g 29, b⟩
theorem Lies.row10 {w : World} {B : Nat} (h : Lies w B) : w.cell? ⟨B + 26, 30, none⟩ = some (.int .u16 1024) ∧ w.cell? ⟨B + 26, 31, none⟩ = some (.func (.func 148) #[] #[.pointer (some ⟨B + 20, 0, none⟩)]) ∧ w.cell? ⟨B + 26, 32, none⟩ = some (.func (.func 149) #[] #[.pointer (some ⟨B + 20, 0, none⟩)]) ∧ w.cell? ⟨B + 20, 0, none⟩ = some (.func (.func 115) #[] #[]) := by
  have g := fun i => cell_of_row w (B + 26) i (cells B) 142 (0, 0) h.tab
  have b := cell_of_row w (B + 20) 0 #[.func (.func 115) #[] #[]] 174 (0, 0) h.box10
  exact ⟨g 30, g 31, g 32, b⟩
theorem Lies.row11 {w : World} {B : Nat} (h : Lies w B) : w.cell? ⟨B + 26, 33, none⟩ = some (.int .u16 2048) ∧ w.cell? ⟨B + 26, 34, none⟩ = some (.func (.func 148) #[] #[.pointer (some ⟨B + 22, 0, none⟩)]) ∧ w.cell? ⟨B + 26, 35, none⟩ = some (.func (.func 149) #[] #[.pointer (some ⟨B + 22, 0, none⟩)]) ∧ w.cell? ⟨B + 22, 0, none⟩ = some (.func (.func 116) #[] #[]) := by
  have g := fun i => cell_of_row w (B + 26) i (cells B) 142 (0, 0) h.tab
  have b := cell_of_row w (B + 22) 0 #[.func (.func 116) #[] #[]] 174 (0, 0) h.box11
  exact ⟨g 33, g 34, g 35, b⟩
theorem Lies.row12 {w : World} {B : Nat} (h : Lies w B) : w.cell? ⟨B + 26, 36, none⟩ = some (.int .u16 4096) ∧ w.cell? ⟨B + 26, 37, none⟩ = some (.func (.func 148) #[] #[.pointer (some ⟨B + 24, 0, none⟩)]) ∧ w.cell? ⟨B + 26, 38, none⟩ = some (.func (.func 149) #[] #[.pointer (some ⟨B + 24, 0, none⟩)]) ∧ w.cell? ⟨B + 24, 0, none⟩ = some (.func (.func 117) #[] #[]) := by
  have g := fun i => cell_of_row w (B + 26) i (cells B) 142 (0, 0) h.tab
  have b := cell_of_row w (B + 24) 0 #[.func (.func 117) #[] #[]] 174 (0, 0) h.box12
  exact ⟨g 36, g 37, g 38, b⟩

set_option maxHeartbeats 2000000 in
set_option maxRecDepth 100000 in
theorem fields_any (w : World) : Calls Tryz.prog 70 #[] w fun e w' => e = .returned (.slice (some ⟨w.heap.size + 26, 0, none⟩) 13 13) ∧ Hid (Lies w' w.heap.size) ∧ Kept [] w w' := by
  go_enter Tryz.func70, Tryz.ntmps70
  have K0 : Hid (Kept [] w w) := Kept.refl _ _
  go_wp2_with fail
  refine (at_uint16 _ 1 101).mono ?_
  rintro e w1 ⟨rfl, hb0, hz, hk⟩
  have Z1 : Hid (w1.heap.size = w.heap.size + 2) := hz
  have K1 : Hid (Kept [] w w1) := hk.out
  have B0 : Hid (w1.heap[w.heap.size + 0]? = some (.cells #[.func (.func 101) #[] #[]] 163 (0, 0))) := hb0
  clear hz hk hb0
  go_wp2_with fail
  refine (at_uint32 w1 2 103).mono ?_
  rintro e w2 ⟨rfl, hb1, hz, hk⟩
  rw [Z1.out]
  have B1 : Hid (w2.heap[w.heap.size + 2]? = some (.cells #[.func (.func 103) #[] #[]] 166 (0, 0))) := by have h := hb1; rw [Z1.out] at h; exact h
  have Z2 : Hid (w2.heap.size = w.heap.size + 4) := by show _ = _; rw [hz.out, Z1.out]
  have K2 : Hid (Kept [] w w2) := K1.out.trans hk.out (fun i hi => by simp at hi)
  have B0' := Lib.hid ((hk.out.block _ (block_lt B0.out) (by simp)).trans B0.out)
  clear B0
  have B0 := B0'
  clear B0'
  clear hz hk hb1 K1 Z1
  go_wp2_with fail
  refine (at_uint8 w2 4 105).mono ?_
  rintro e w3 ⟨rfl, hb2, hz, hk⟩
  rw [Z2.out]
  have B2 : Hid (w3.heap[w.heap.size + 4]? = some (.cells #[.func (.func 105) #[] #[]] 168 (0, 0))) := by have h := hb2; rw [Z2.out] at h; exact h
  have Z3 : Hid (w3.heap.size = w.heap.size + 6) := by show _ = _; rw [hz.out, Z2.out]
  have K3 : Hid (Kept [] w w3) := K2.out.trans hk.out (fun i hi => by simp at hi)
  have B0' := Lib.hid ((hk.out.block _ (block_lt B0.out) (by simp)).trans B0.out)
  clear B0
  have B0 := B0'
  clear B0'
  have B1' := Lib.hid ((hk.out.block _ (block_lt B1.out) (by simp)).trans B1.out)
  clear B1
  have B1 := B1'
  clear B1'
  clear hz hk hb2 K2 Z2
  go_wp2_with fail
  refine (at_uint32 w3 8 106).mono ?_
  rintro e w4 ⟨rfl, hb3, hz, hk⟩
  rw [Z3.out]
  have B3 : Hid (w4.heap[w.heap.size + 6]? = some (.cells #[.func (.func 106) #[] #[]] 166 (0, 0))) := by have h := hb3; rw [Z3.out] at h; exact h
  have Z4 : Hid (w4.heap.size = w.heap.size + 8) := by show _ = _; rw [hz.out, Z3.out]
  have K4 : Hid (Kept [] w w4) := K3.out.trans hk.out (fun i hi => by simp at hi)
  have B0' := Lib.hid ((hk.out.block _ (block_lt B0.out) (by simp)).trans B0.out)
  clear B0
  have B0 := B0'
  clear B0'
  have B1' := Lib.hid ((hk.out.block _ (block_lt B1.out) (by simp)).trans B1.out)
  clear B1
  have B1 := B1'
  clear B1'
  have B2' := Lib.hid ((hk.out.block _ (block_lt B2.out) (by simp)).trans B2.out)
  clear B2
  have B2 := B2'
  clear B2'
  clear hz hk hb3 K3 Z3
  go_wp2_with fail
  refine (at_uint64 w4 16 108).mono ?_
  rintro e w5 ⟨rfl, hb4, hz, hk⟩
  rw [Z4.out]
  have B4 : Hid (w5.heap[w.heap.size + 8]? = some (.cells #[.func (.func 108) #[] #[]] 171 (0, 0))) := by have h := hb4; rw [Z4.out] at h; exact h
  have Z5 : Hid (w5.heap.size = w.heap.size + 10) := by show _ = _; rw [hz.out, Z4.out]
  have K5 : Hid (Kept [] w w5) := K4.out.trans hk.out (fun i hi => by simp at hi)
  have B0' := Lib.hid ((hk.out.block _ (block_lt B0.out) (by simp)).trans B0.out)
  clear B0
  have B0 := B0'
  clear B0'
  have B1' := Lib.hid ((hk.out.block _ (block_lt B1.out) (by simp)).trans B1.out)
  clear B1
  have B1 := B1'
  clear B1'
  have B2' := Lib.hid ((hk.out.block _ (block_lt B2.out) (by simp)).trans B2.out)
  clear B2
  have B2 := B2'
  clear B2'
  have B3' := Lib.hid ((hk.out.block _ (block_lt B3.out) (by simp)).trans B3.out)
  clear B3
  have B3 := B3'
  clear B3'
  clear hz hk hb4 K4 Z4
  go_wp2_with fail
  refine (at_uint32 w5 32 109).mono ?_
  rintro e w6 ⟨rfl, hb5, hz, hk⟩
  rw [Z5.out]
  have B5 : Hid (w6.heap[w.heap.size + 10]? = some (.cells #[.func (.func 109) #[] #[]] 166 (0, 0))) := by have h := hb5; rw [Z5.out] at h; exact h
  have Z6 : Hid (w6.heap.size = w.heap.size + 12) := by show _ = _; rw [hz.out, Z5.out]
  have K6 : Hid (Kept [] w w6) := K5.out.trans hk.out (fun i hi => by simp at hi)
  have B0' := Lib.hid ((hk.out.block _ (block_lt B0.out) (by simp)).trans B0.out)
  clear B0
  have B0 := B0'
  clear B0'
  have B1' := Lib.hid ((hk.out.block _ (block_lt B1.out) (by simp)).trans B1.out)
  clear B1
  have B1 := B1'
  clear B1'
  have B2' := Lib.hid ((hk.out.block _ (block_lt B2.out) (by simp)).trans B2.out)
  clear B2
  have B2 := B2'
  clear B2'
  have B3' := Lib.hid ((hk.out.block _ (block_lt B3.out) (by simp)).trans B3.out)
  clear B3
  have B3 := B3'
  clear B3'
  have B4' := Lib.hid ((hk.out.block _ (block_lt B4.out) (by simp)).trans B4.out)
  clear B4
  have B4 := B4'
  clear B4'
  clear hz hk hb5 K5 Z5
  go_wp2_with fail
  refine (at_uint32 w6 64 110).mono ?_
  rintro e w7 ⟨rfl, hb6, hz, hk⟩
  rw [Z6.out]
  have B6 : Hid (w7.heap[w.heap.size + 12]? = some (.cells #[.func (.func 110) #[] #[]] 166 (0, 0))) := by have h := hb6; rw [Z6.out] at h; exact h
  have Z7 : Hid (w7.heap.size = w.heap.size + 14) := by show _ = _; rw [hz.out, Z6.out]
  have K7 : Hid (Kept [] w w7) := K6.out.trans hk.out (fun i hi => by simp at hi)
  have B0' := Lib.hid ((hk.out.block _ (block_lt B0.out) (by simp)).trans B0.out)
  clear B0
  have B0 := B0'
  clear B0'
  have B1' := Lib.hid ((hk.out.block _ (block_lt B1.out) (by simp)).trans B1.out)
  clear B1
  have B1 := B1'
  clear B1'
  have B2' := Lib.hid ((hk.out.block _ (block_lt B2.out) (by simp)).trans B2.out)
  clear B2
  have B2 := B2'
  clear B2'
  have B3' := Lib.hid ((hk.out.block _ (block_lt B3.out) (by simp)).trans B3.out)
  clear B3
  have B3 := B3'
  clear B3'
  have B4' := Lib.hid ((hk.out.block _ (block_lt B4.out) (by simp)).trans B4.out)
  clear B4
  have B4 := B4'
  clear B4'
  have B5' := Lib.hid ((hk.out.block _ (block_lt B5.out) (by simp)).trans B5.out)
  clear B5
  have B5 := B5'
  clear B5'
  clear hz hk hb6 K6 Z6
  go_wp2_with fail
  refine (at_uint32 w7 128 111).mono ?_
  rintro e w8 ⟨rfl, hb7, hz, hk⟩
  rw [Z7.out]
  have B7 : Hid (w8.heap[w.heap.size + 14]? = some (.cells #[.func (.func 111) #[] #[]] 166 (0, 0))) := by have h := hb7; rw [Z7.out] at h; exact h
  have Z8 : Hid (w8.heap.size = w.heap.size + 16) := by show _ = _; rw [hz.out, Z7.out]
  have K8 : Hid (Kept [] w w8) := K7.out.trans hk.out (fun i hi => by simp at hi)
  have B0' := Lib.hid ((hk.out.block _ (block_lt B0.out) (by simp)).trans B0.out)
  clear B0
  have B0 := B0'
  clear B0'
  have B1' := Lib.hid ((hk.out.block _ (block_lt B1.out) (by simp)).trans B1.out)
  clear B1
  have B1 := B1'
  clear B1'
  have B2' := Lib.hid ((hk.out.block _ (block_lt B2.out) (by simp)).trans B2.out)
  clear B2
  have B2 := B2'
  clear B2'
  have B3' := Lib.hid ((hk.out.block _ (block_lt B3.out) (by simp)).trans B3.out)
  clear B3
  have B3 := B3'
  clear B3'
  have B4' := Lib.hid ((hk.out.block _ (block_lt B4.out) (by simp)).trans B4.out)
  clear B4
  have B4 := B4'
  clear B4'
  have B5' := Lib.hid ((hk.out.block _ (block_lt B5.out) (by simp)).trans B5.out)
  clear B5
  have B5 := B5'
  clear B5'
  have B6' := Lib.hid ((hk.out.block _ (block_lt B6.out) (by simp)).trans B6.out)
  clear B6
  have B6 := B6'
  clear B6'
  clear hz hk hb7 K7 Z7
  go_wp2_with fail
  refine (at_uint64 w8 256 112).mono ?_
  rintro e w9 ⟨rfl, hb8, hz, hk⟩
  rw [Z8.out]
  have B8 : Hid (w9.heap[w.heap.size + 16]? = some (.cells #[.func (.func 112) #[] #[]] 171 (0, 0))) := by have h := hb8; rw [Z8.out] at h; exact h
  have Z9 : Hid (w9.heap.size = w.heap.size + 18) := by show _ = _; rw [hz.out, Z8.out]
  have K9 : Hid (Kept [] w w9) := K8.out.trans hk.out (fun i hi => by simp at hi)
  have B0' := Lib.hid ((hk.out.block _ (block_lt B0.out) (by simp)).trans B0.out)
  clear B0
  have B0 := B0'
  clear B0'
  have B1' := Lib.hid ((hk.out.block _ (block_lt B1.out) (by simp)).trans B1.out)
  clear B1
  have B1 := B1'
  clear B1'
  have B2' := Lib.hid ((hk.out.block _ (block_lt B2.out) (by simp)).trans B2.out)
  clear B2
  have B2 := B2'
  clear B2'
  have B3' := Lib.hid ((hk.out.block _ (block_lt B3.out) (by simp)).trans B3.out)
  clear B3
  have B3 := B3'
  clear B3'
  have B4' := Lib.hid ((hk.out.block _ (block_lt B4.out) (by simp)).trans B4.out)
  clear B4
  have B4 := B4'
  clear B4'
  have B5' := Lib.hid ((hk.out.block _ (block_lt B5.out) (by simp)).trans B5.out)
  clear B5
  have B5 := B5'
  clear B5'
  have B6' := Lib.hid ((hk.out.block _ (block_lt B6.out) (by simp)).trans B6.out)
  clear B6
  have B6 := B6'
  clear B6'
  have B7' := Lib.hid ((hk.out.block _ (block_lt B7.out) (by simp)).trans B7.out)
  clear B7
  have B7 := B7'
  clear B7'
  clear hz hk hb8 K8 Z8
  go_wp2_with fail
  refine (at_string w9 512 114).mono ?_
  rintro e w10 ⟨rfl, hb9, hz, hk⟩
  rw [Z9.out]
  have B9 : Hid (w10.heap[w.heap.size + 18]? = some (.cells #[.func (.func 114) #[] #[]] 174 (0, 0))) := by have h := hb9; rw [Z9.out] at h; exact h
  have Z10 : Hid (w10.heap.size = w.heap.size + 20) := by show _ = _; rw [hz.out, Z9.out]
  have K10 : Hid (Kept [] w w10) := K9.out.trans hk.out (fun i hi => by simp at hi)
  have B0' := Lib.hid ((hk.out.block _ (block_lt B0.out) (by simp)).trans B0.out)
  clear B0
  have B0 := B0'
  clear B0'
  have B1' := Lib.hid ((hk.out.block _ (block_lt B1.out) (by simp)).trans B1.out)
  clear B1
  have B1 := B1'
  clear B1'
  have B2' := Lib.hid ((hk.out.block _ (block_lt B2.out) (by simp)).trans B2.out)
  clear B2
  have B2 := B2'
  clear B2'
  have B3' := Lib.hid ((hk.out.block _ (block_lt B3.out) (by simp)).trans B3.out)
  clear B3
  have B3 := B3'
  clear B3'
  have B4' := Lib.hid ((hk.out.block _ (block_lt B4.out) (by simp)).trans B4.out)
  clear B4
  have B4 := B4'
  clear B4'
  have B5' := Lib.hid ((hk.out.block _ (block_lt B5.out) (by simp)).trans B5.out)
  clear B5
  have B5 := B5'
  clear B5'
  have B6' := Lib.hid ((hk.out.block _ (block_lt B6.out) (by simp)).trans B6.out)
  clear B6
  have B6 := B6'
  clear B6'
  have B7' := Lib.hid ((hk.out.block _ (block_lt B7.out) (by simp)).trans B7.out)
  clear B7
  have B7 := B7'
  clear B7'
  have B8' := Lib.hid ((hk.out.block _ (block_lt B8.out) (by simp)).trans B8.out)
  clear B8
  have B8 := B8'
  clear B8'
  clear hz hk hb9 K9 Z9
  go_wp2_with fail
  refine (at_string w10 1024 115).mono ?_
  rintro e w11 ⟨rfl, hb10, hz, hk⟩
  rw [Z10.out]
  have B10 : Hid (w11.heap[w.heap.size + 20]? = some (.cells #[.func (.func 115) #[] #[]] 174 (0, 0))) := by have h := hb10; rw [Z10.out] at h; exact h
  have Z11 : Hid (w11.heap.size = w.heap.size + 22) := by show _ = _; rw [hz.out, Z10.out]
  have K11 : Hid (Kept [] w w11) := K10.out.trans hk.out (fun i hi => by simp at hi)
  have B0' := Lib.hid ((hk.out.block _ (block_lt B0.out) (by simp)).trans B0.out)
  clear B0
  have B0 := B0'
  clear B0'
  have B1' := Lib.hid ((hk.out.block _ (block_lt B1.out) (by simp)).trans B1.out)
  clear B1
  have B1 := B1'
  clear B1'
  have B2' := Lib.hid ((hk.out.block _ (block_lt B2.out) (by simp)).trans B2.out)
  clear B2
  have B2 := B2'
  clear B2'
  have B3' := Lib.hid ((hk.out.block _ (block_lt B3.out) (by simp)).trans B3.out)
  clear B3
  have B3 := B3'
  clear B3'
  have B4' := Lib.hid ((hk.out.block _ (block_lt B4.out) (by simp)).trans B4.out)
  clear B4
  have B4 := B4'
  clear B4'
  have B5' := Lib.hid ((hk.out.block _ (block_lt B5.out) (by simp)).trans B5.out)
  clear B5
  have B5 := B5'
  clear B5'
  have B6' := Lib.hid ((hk.out.block _ (block_lt B6.out) (by simp)).trans B6.out)
  clear B6
  have B6 := B6'
  clear B6'
  have B7' := Lib.hid ((hk.out.block _ (block_lt B7.out) (by simp)).trans B7.out)
  clear B7
  have B7 := B7'
  clear B7'
  have B8' := Lib.hid ((hk.out.block _ (block_lt B8.out) (by simp)).trans B8.out)
  clear B8
  have B8 := B8'
  clear B8'
  have B9' := Lib.hid ((hk.out.block _ (block_lt B9.out) (by simp)).trans B9.out)
  clear B9
  have B9 := B9'
  clear B9'
  clear hz hk hb10 K10 Z10
  go_wp2_with fail
  refine (at_string w11 2048 116).mono ?_
  rintro e w12 ⟨rfl, hb11, hz, hk⟩
  rw [Z11.out]
  have B11 : Hid (w12.heap[w.heap.size + 22]? = some (.cells #[.func (.func 116) #[] #[]] 174 (0, 0))) := by have h := hb11; rw [Z11.out] at h; exact h
  have Z12 : Hid (w12.heap.size = w.heap.size + 24) := by show _ = _; rw [hz.out, Z11.out]
  have K12 : Hid (Kept [] w w12) := K11.out.trans hk.out (fun i hi => by simp at hi)
  have B0' := Lib.hid ((hk.out.block _ (block_lt B0.out) (by simp)).trans B0.out)
  clear B0
  have B0 := B0'
  clear B0'
  have B1' := Lib.hid ((hk.out.block _ (block_lt B1.out) (by simp)).trans B1.out)
  clear B1
  have B1 := B1'
  clear B1'
  have B2' := Lib.hid ((hk.out.block _ (block_lt B2.out) (by simp)).trans B2.out)
  clear B2
  have B2 := B2'
  clear B2'
  have B3' := Lib.hid ((hk.out.block _ (block_lt B3.out) (by simp)).trans B3.out)
  clear B3
  have B3 := B3'
  clear B3'
  have B4' := Lib.hid ((hk.out.block _ (block_lt B4.out) (by simp)).trans B4.out)
  clear B4
  have B4 := B4'
  clear B4'
  have B5' := Lib.hid ((hk.out.block _ (block_lt B5.out) (by simp)).trans B5.out)
  clear B5
  have B5 := B5'
  clear B5'
  have B6' := Lib.hid ((hk.out.block _ (block_lt B6.out) (by simp)).trans B6.out)
  clear B6
  have B6 := B6'
  clear B6'
  have B7' := Lib.hid ((hk.out.block _ (block_lt B7.out) (by simp)).trans B7.out)
  clear B7
  have B7 := B7'
  clear B7'
  have B8' := Lib.hid ((hk.out.block _ (block_lt B8.out) (by simp)).trans B8.out)
  clear B8
  have B8 := B8'
  clear B8'
  have B9' := Lib.hid ((hk.out.block _ (block_lt B9.out) (by simp)).trans B9.out)
  clear B9
  have B9 := B9'
  clear B9'
  have B10' := Lib.hid ((hk.out.block _ (block_lt B10.out) (by simp)).trans B10.out)
  clear B10
  have B10 := B10'
  clear B10'
  clear hz hk hb11 K11 Z11
  go_wp2_with fail
  refine (at_string w12 4096 117).mono ?_
  rintro e w13 ⟨rfl, hb12, hz, hk⟩
  rw [Z12.out]
  have B12 : Hid (w13.heap[w.heap.size + 24]? = some (.cells #[.func (.func 117) #[] #[]] 174 (0, 0))) := by have h := hb12; rw [Z12.out] at h; exact h
  have Z13 : Hid (w13.heap.size = w.heap.size + 26) := by show _ = _; rw [hz.out, Z12.out]
  have K13 : Hid (Kept [] w w13) := K12.out.trans hk.out (fun i hi => by simp at hi)
  have B0' := Lib.hid ((hk.out.block _ (block_lt B0.out) (by simp)).trans B0.out)
  clear B0
  have B0 := B0'
  clear B0'
  have B1' := Lib.hid ((hk.out.block _ (block_lt B1.out) (by simp)).trans B1.out)
  clear B1
  have B1 := B1'
  clear B1'
  have B2' := Lib.hid ((hk.out.block _ (block_lt B2.out) (by simp)).trans B2.out)
  clear B2
  have B2 := B2'
  clear B2'
  have B3' := Lib.hid ((hk.out.block _ (block_lt B3.out) (by simp)).trans B3.out)
  clear B3
  have B3 := B3'
  clear B3'
  have B4' := Lib.hid ((hk.out.block _ (block_lt B4.out) (by simp)).trans B4.out)
  clear B4
  have B4 := B4'
  clear B4'
  have B5' := Lib.hid ((hk.out.block _ (block_lt B5.out) (by simp)).trans B5.out)
  clear B5
  have B5 := B5'
  clear B5'
  have B6' := Lib.hid ((hk.out.block _ (block_lt B6.out) (by simp)).trans B6.out)
  clear B6
  have B6 := B6'
  clear B6'
  have B7' := Lib.hid ((hk.out.block _ (block_lt B7.out) (by simp)).trans B7.out)
  clear B7
  have B7 := B7'
  clear B7'
  have B8' := Lib.hid ((hk.out.block _ (block_lt B8.out) (by simp)).trans B8.out)
  clear B8
  have B8 := B8'
  clear B8'
  have B9' := Lib.hid ((hk.out.block _ (block_lt B9.out) (by simp)).trans B9.out)
  clear B9
  have B9 := B9'
  clear B9'
  have B10' := Lib.hid ((hk.out.block _ (block_lt B10.out) (by simp)).trans B10.out)
  clear B10
  have B10 := B10'
  clear B10'
  have B11' := Lib.hid ((hk.out.block _ (block_lt B11.out) (by simp)).trans B11.out)
  clear B11
  have B11 := B11'
  clear B11'
  clear hz hk hb12 K12 Z12
  go_wp2_with fail
  go_ret
  have KA : Kept [] w13 (w13.alloc (.cells (cells w.heap.size) 142 (0, 0))) := (Kept.refl [] w13).alloc _
  exact ⟨by rw [Z13.out]; rfl, ⟨by rw [← Z13.out]; exact heap_alloc_new w13 _, (KA.block _ (block_lt B0.out) (by simp)).trans B0.out, (KA.block _ (block_lt B1.out) (by simp)).trans B1.out, (KA.block _ (block_lt B2.out) (by simp)).trans B2.out, (KA.block _ (block_lt B3.out) (by simp)).trans B3.out, (KA.block _ (block_lt B4.out) (by simp)).trans B4.out, (KA.block _ (block_lt B5.out) (by simp)).trans B5.out, (KA.block _ (block_lt B6.out) (by simp)).trans B6.out, (KA.block _ (block_lt B7.out) (by simp)).trans B7.out, (KA.block _ (block_lt B8.out) (by simp)).trans B8.out, (KA.block _ (block_lt B9.out) (by simp)).trans B9.out, (KA.block _ (block_lt B10.out) (by simp)).trans B10.out, (KA.block _ (block_lt B11.out) (by simp)).trans B11.out, (KA.block _ (block_lt B12.out) (by simp)).trans B12.out⟩, K13.out.alloc _⟩
end Tab
end Go.Proofs.YteeheapenfklcaaGreatDoor
