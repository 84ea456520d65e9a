/- What TakeQid, Take and Decode of a record do to a reader, and tell. -/
import Derived.Test.YteebiemfhicgbaaRen
namespace Go.Proofs.Yteebiemfhicgbaa
set_option linter.unusedVariables false
open Go.RowKit

theorem three {w : World} {p : Nat} {a b c : Value} {t : TypeId} (h : w.heap[p]? = some (.cells #[a, b, c] t (0, 0))) :
    w.cell? ⟨p, 0, none⟩ = some a ∧ w.cell? ⟨p, 1, none⟩ = some b ∧ w.cell? ⟨p, 2, none⟩ = some c ∧ (∀ i, w.frozen? ⟨p, i, none⟩ = false) := by
  have g := fun i => cell_of_row w p i #[a, b, c] t (0, 0) h
  exact ⟨g 0, g 1, g 2, fun i => by simp [World.frozen?, h]⟩

theorem set3 {w : World} {p : Nat} {a b c : Value} {t : TypeId} (x y z : Value) (h : w.heap[p]? = some (.cells #[a, b, c] t (0, 0))) :
    (((w.setCell ⟨p, 0, none⟩ x).setCell ⟨p, 1, none⟩ y).setCell ⟨p, 2, none⟩ z).heap[p]? = some (.cells #[x, y, z] t (0, 0)) := by
  rw [heap_set _ (heap_set _ (heap_set _ h))]
  rfl
theorem thirteen {w : World} {p : Nat} {a0 a1 a2 a3 a4 a5 a6 a7 a8 a9 a10 a11 a12 : Value} {t : TypeId} (h : w.heap[p]? = some (.cells #[a0, a1, a2, a3, a4, a5, a6, a7, a8, a9, a10, a11, a12] t (0, 0))) :
    w.cell? ⟨p, 0, none⟩ = some a0 ∧ w.cell? ⟨p, 1, none⟩ = some a1 ∧ w.cell? ⟨p, 2, none⟩ = some a2 ∧ w.cell? ⟨p, 3, none⟩ = some a3 ∧ w.cell? ⟨p, 4, none⟩ = some a4 ∧ w.cell? ⟨p, 5, none⟩ = some a5 ∧ w.cell? ⟨p, 6, none⟩ = some a6 ∧ w.cell? ⟨p, 7, none⟩ = some a7 ∧ w.cell? ⟨p, 8, none⟩ = some a8 ∧ w.cell? ⟨p, 9, none⟩ = some a9 ∧ w.cell? ⟨p, 10, none⟩ = some a10 ∧ w.cell? ⟨p, 11, none⟩ = some a11 ∧ w.cell? ⟨p, 12, none⟩ = some a12 ∧ (∀ i, w.frozen? ⟨p, i, none⟩ = false) := by
  have g := fun i => cell_of_row w p i #[a0, a1, a2, a3, a4, a5, a6, a7, a8, a9, a10, a11, a12] t (0, 0) h
  exact ⟨g 0, g 1, g 2, g 3, g 4, g 5, g 6, g 7, g 8, g 9, g 10, g 11, g 12, fun i => by simp [World.frozen?, h]⟩
theorem set13 {w : World} {p : Nat} {a0 a1 a2 a3 a4 a5 a6 a7 a8 a9 a10 a11 a12 : Value} {t : TypeId} (x0 x1 x2 x3 x4 x5 x6 x7 x8 x9 x10 x11 x12 : Value) (h : w.heap[p]? = some (.cells #[a0, a1, a2, a3, a4, a5, a6, a7, a8, a9, a10, a11, a12] t (0, 0))) :
    (((((((((((((w.setCell ⟨p, 0, none⟩ x0).setCell ⟨p, 1, none⟩ x1).setCell ⟨p, 2, none⟩ x2).setCell ⟨p, 3, none⟩ x3).setCell ⟨p, 4, none⟩ x4).setCell ⟨p, 5, none⟩ x5).setCell ⟨p, 6, none⟩ x6).setCell ⟨p, 7, none⟩ x7).setCell ⟨p, 8, none⟩ x8).setCell ⟨p, 9, none⟩ x9).setCell ⟨p, 10, none⟩ x10).setCell ⟨p, 11, none⟩ x11).setCell ⟨p, 12, none⟩ x12).heap[p]? = some (.cells #[x0, x1, x2, x3, x4, x5, x6, x7, x8, x9, x10, x11, x12] t (0, 0)) := by
  rw [heap_set _ (heap_set _ (heap_set _ (heap_set _ (heap_set _ (heap_set _ (heap_set _ (heap_set _ (heap_set _ (heap_set _ (heap_set _ (heap_set _ (heap_set _ h))))))))))))]
  simp only [List.setIfInBounds_toArray, List.set_cons_zero, List.set_cons_succ]
theorem two_old (w : World) (o o' : Obj) : ((w.alloc o).alloc o').heap[w.heap.size]? = some o := by
  rw [((Kept.refl [] (w.alloc o)).alloc o').block w.heap.size (by simp) (by simp)]
  exact heap_alloc_new w o
theorem two_new (w : World) (o o' : Obj) : ((w.alloc o).alloc o').heap[w.heap.size + 1]? = some o' := by
  have e : w.heap.size + 1 = (w.alloc o).heap.size := by simp
  rw [e]
  exact heap_alloc_new _ o'

namespace Stt
open Go.Proofs.Yteebiemfhicgbaa.Txt

theorem right_any (w : World) (r : Nat) (T : List Nat) (st : RS) (h : Hid (Rd w r T st)) :
    Calls Try.prog 44 #[.pointer (some ⟨r, 0, none⟩)] w fun e w' => e = .returned (.bool (st.err == 0)) ∧ Kept [] w w' := by
  go_enter Try.func44, Try.ntmps44
  go_wp2_with fail
  refine (Rdr.err_any _ r T st h).mono ?_
  rintro e w1 ⟨rfl, k1⟩
  go_wp2_with fail
  go_ret
  exact ⟨rfl, k1⟩

theorem wholeq_yes (w : World) (r : Nat) (T : List Nat) (st : RS) (k v q : Int) (he : (st.err == 0) = true) (h : Hid (Rd w r T st)) :
    Calls Try.prog 124 #[.pointer (some ⟨r, 0, none⟩), .agg #[.int .u8 k, .int .u32 v, .int .u64 q]] w fun e w' => e = .returned (.agg #[.int .u8 k, .int .u32 v, .int .u64 q]) ∧ Kept [] w w' := by
  go_enter Try.func124, Try.ntmps124
  go_wp2_with fail
  have K0 : Hid (Kept [] w ((w.alloc (.cells #[.int .u8 k, .int .u32 v, .int .u64 q] 28 (0, 0))).alloc (.cells #[.int .u8 0, .int .u32 0, .int .u64 0] 28 (0, 0)))) := ((Kept.refl [] _).alloc _).alloc _
  refine (right_any _ r T st (h.out.kept K0.out (by simp) (fun _ _ hm => by simp at hm))).mono ?_
  rintro e w1 ⟨rfl, k1⟩
  have K1 := Lib.hid k1
  clear k1
  have b0 : Hid (w1.heap[w.heap.size]? = some (.cells #[.int .u8 k, .int .u32 v, .int .u64 q] 28 (0, 0))) := by
    exact (K1.out.block _ (by simp; omega) (by simp)).trans (two_old w _ _)
  have b1 : Hid (w1.heap[w.heap.size + 1]? = some (.cells #[.int .u8 0, .int .u32 0, .int .u64 0] 28 (0, 0))) := by
    exact (K1.out.block _ (by simp) (by simp)).trans (two_new w _ _)
  obtain ⟨c0, c1, c2, -⟩ := three b0.out
  obtain ⟨d0, d1, d2, fz⟩ := three b1.out
  have f0 := fz 0
  have f1 := fz 1
  have f2 := fz 2
  clear fz
  go_wp2_with fail
  have e3 := set3 (.int .u8 k) (.int .u32 v) (.int .u64 q) b1.out
  obtain ⟨g0, g1, g2, -⟩ := three e3
  refine bodyPost_ret (v := .agg #[.int .u8 k, .int .u32 v, .int .u64 q]) (by simp [results, Try.results124, go_sem, g0, g1, g2]) rfl ⟨rfl, ?_⟩
  have K := K0.out.trans K1.out (fun i hi => by simp at hi)
  exact ((K.setCell (Or.inr (by simp)) _).setCell (Or.inr (by simp)) _).setCell (Or.inr (by simp)) _
theorem wholeq_no (w : World) (r : Nat) (T : List Nat) (st : RS) (k v q : Int) (he : (st.err == 0) = false) (h : Hid (Rd w r T st)) :
    Calls Try.prog 124 #[.pointer (some ⟨r, 0, none⟩), .agg #[.int .u8 k, .int .u32 v, .int .u64 q]] w fun e w' => e = .returned (.agg #[.int .u8 0, .int .u32 0, .int .u64 0]) ∧ Kept [] w w' := by
  go_enter Try.func124, Try.ntmps124
  go_wp2_with fail
  have K0 : Hid (Kept [] w ((w.alloc (.cells #[.int .u8 k, .int .u32 v, .int .u64 q] 28 (0, 0))).alloc (.cells #[.int .u8 0, .int .u32 0, .int .u64 0] 28 (0, 0)))) := ((Kept.refl [] _).alloc _).alloc _
  refine (right_any _ r T st (h.out.kept K0.out (by simp) (fun _ _ hm => by simp at hm))).mono ?_
  rintro e w1 ⟨rfl, k1⟩
  have K1 := Lib.hid k1
  clear k1
  have b0 : Hid (w1.heap[w.heap.size]? = some (.cells #[.int .u8 k, .int .u32 v, .int .u64 q] 28 (0, 0))) := by
    exact (K1.out.block _ (by simp; omega) (by simp)).trans (two_old w _ _)
  have b1 : Hid (w1.heap[w.heap.size + 1]? = some (.cells #[.int .u8 0, .int .u32 0, .int .u64 0] 28 (0, 0))) := by
    exact (K1.out.block _ (by simp) (by simp)).trans (two_new w _ _)
  have b2 : Hid ((w1.alloc (.cells #[.int .u8 0, .int .u32 0, .int .u64 0] 28 (0, 0))).heap[w.heap.size + 1]? = some (.cells #[.int .u8 0, .int .u32 0, .int .u64 0] 28 (0, 0))) := by
    have hz := K1.out.size
    exact (((Kept.refl [] w1).alloc _).block _ (by simp at hz; omega) (by simp)).trans b1.out
  obtain ⟨d0, d1, d2, fz⟩ := three b2.out
  have f0 := fz 0
  have f1 := fz 1
  have f2 := fz 2
  clear fz
  go_wp2_with fail
  have e3 := set3 (.int .u8 0) (.int .u32 0) (.int .u64 0) b2.out
  obtain ⟨g0, g1, g2, -⟩ := three e3
  refine bodyPost_ret (v := .agg #[.int .u8 0, .int .u32 0, .int .u64 0]) (by simp [results, Try.results124, go_sem, g0, g1, g2]) rfl ⟨rfl, ?_⟩
  have K := (K0.out.trans K1.out (fun i hi => by simp at hi)).alloc (.cells #[.int .u8 0, .int .u32 0, .int .u64 0] 28 (0, 0))
  exact ((K.setCell (Or.inr (by simp)) _).setCell (Or.inr (by simp)) _).setCell (Or.inr (by simp)) _

set_option maxHeartbeats 2000000 in
set_option maxRecDepth 100000 in
theorem whole_yes (w : World) (r : Nat) (T : List Nat) (st : RS) (a0 a1 a2 a3 a4 a5 a6 a7 a8 : Int) (a9 a10 a11 a12 : ByteArray) (he : (st.err == 0) = true) (h : Hid (Rd w r T st)) :
    Calls Try.prog 93 #[.pointer (some ⟨r, 0, none⟩), .agg #[.int .u16 a0, .int .u32 a1, .int .u8 a2, .int .u32 a3, .int .u64 a4, .int .u32 a5, .int .u32 a6, .int .u32 a7, .int .u64 a8, .string a9, .string a10, .string a11, .string a12]] w fun e w' => e = .returned (.agg #[.int .u16 a0, .int .u32 a1, .int .u8 a2, .int .u32 a3, .int .u64 a4, .int .u32 a5, .int .u32 a6, .int .u32 a7, .int .u64 a8, .string a9, .string a10, .string a11, .string a12]) ∧ Kept [] w w' := by
  go_enter Try.func93, Try.ntmps93
  go_wp2_with fail
  have K0 : Hid (Kept [] w ((w.alloc (.cells #[.int .u16 a0, .int .u32 a1, .int .u8 a2, .int .u32 a3, .int .u64 a4, .int .u32 a5, .int .u32 a6, .int .u32 a7, .int .u64 a8, .string a9, .string a10, .string a11, .string a12] 30 (0, 0))).alloc (.cells #[.int .u16 0, .int .u32 0, .int .u8 0, .int .u32 0, .int .u64 0, .int .u32 0, .int .u32 0, .int .u32 0, .int .u64 0, .string ⟨#[]⟩, .string ⟨#[]⟩, .string ⟨#[]⟩, .string ⟨#[]⟩] 30 (0, 0)))) := ((Kept.refl [] _).alloc _).alloc _
  refine (right_any _ r T st (h.out.kept K0.out (by simp) (fun _ _ hm => by simp at hm))).mono ?_
  rintro e w1 ⟨rfl, k1⟩
  have K1 := Lib.hid k1
  clear k1
  have b0 : Hid (w1.heap[w.heap.size]? = some (.cells #[.int .u16 a0, .int .u32 a1, .int .u8 a2, .int .u32 a3, .int .u64 a4, .int .u32 a5, .int .u32 a6, .int .u32 a7, .int .u64 a8, .string a9, .string a10, .string a11, .string a12] 30 (0, 0))) := by
    exact (K1.out.block _ (by simp; omega) (by simp)).trans (two_old w _ _)
  have b1 : Hid (w1.heap[w.heap.size + 1]? = some (.cells #[.int .u16 0, .int .u32 0, .int .u8 0, .int .u32 0, .int .u64 0, .int .u32 0, .int .u32 0, .int .u32 0, .int .u64 0, .string ⟨#[]⟩, .string ⟨#[]⟩, .string ⟨#[]⟩, .string ⟨#[]⟩] 30 (0, 0))) := by
    exact (K1.out.block _ (by simp) (by simp)).trans (two_new w _ _)
  obtain ⟨c0, c1, c2, c3, c4, c5, c6, c7, c8, c9, c10, c11, c12, -⟩ := thirteen b0.out
  obtain ⟨d0, d1, d2, d3, d4, d5, d6, d7, d8, d9, d10, d11, d12, fz⟩ := thirteen b1.out
  have f0 := fz 0
  have f1 := fz 1
  have f2 := fz 2
  have f3 := fz 3
  have f4 := fz 4
  have f5 := fz 5
  have f6 := fz 6
  have f7 := fz 7
  have f8 := fz 8
  have f9 := fz 9
  have f10 := fz 10
  have f11 := fz 11
  have f12 := fz 12
  clear fz
  go_wp2_with fail
  have e3 := set13 (.int .u16 a0) (.int .u32 a1) (.int .u8 a2) (.int .u32 a3) (.int .u64 a4) (.int .u32 a5) (.int .u32 a6) (.int .u32 a7) (.int .u64 a8) (.string a9) (.string a10) (.string a11) (.string a12) b1.out
  obtain ⟨g0, g1, g2, g3, g4, g5, g6, g7, g8, g9, g10, g11, g12, -⟩ := thirteen e3
  refine bodyPost_ret (v := .agg #[.int .u16 a0, .int .u32 a1, .int .u8 a2, .int .u32 a3, .int .u64 a4, .int .u32 a5, .int .u32 a6, .int .u32 a7, .int .u64 a8, .string a9, .string a10, .string a11, .string a12]) (by simp [results, Try.results93, go_sem, g0, g1, g2, g3, g4, g5, g6, g7, g8, g9, g10, g11, g12]) rfl ⟨rfl, ?_⟩
  have K := K0.out.trans K1.out (fun i hi => by simp at hi)
  exact ((((((((((((K.setCell (Or.inr (by simp)) _).setCell (Or.inr (by simp)) _).setCell (Or.inr (by simp)) _).setCell (Or.inr (by simp)) _).setCell (Or.inr (by simp)) _).setCell (Or.inr (by simp)) _).setCell (Or.inr (by simp)) _).setCell (Or.inr (by simp)) _).setCell (Or.inr (by simp)) _).setCell (Or.inr (by simp)) _).setCell (Or.inr (by simp)) _).setCell (Or.inr (by simp)) _).setCell (Or.inr (by simp)) _

set_option maxHeartbeats 2000000 in
set_option maxRecDepth 100000 in
theorem whole_no (w : World) (r : Nat) (T : List Nat) (st : RS) (a0 a1 a2 a3 a4 a5 a6 a7 a8 : Int) (a9 a10 a11 a12 : ByteArray) (he : (st.err == 0) = false) (h : Hid (Rd w r T st)) :
    Calls Try.prog 93 #[.pointer (some ⟨r, 0, none⟩), .agg #[.int .u16 a0, .int .u32 a1, .int .u8 a2, .int .u32 a3, .int .u64 a4, .int .u32 a5, .int .u32 a6, .int .u32 a7, .int .u64 a8, .string a9, .string a10, .string a11, .string a12]] w fun e w' => e = .returned (.agg #[.int .u16 0, .int .u32 0, .int .u8 0, .int .u32 0, .int .u64 0, .int .u32 0, .int .u32 0, .int .u32 0, .int .u64 0, .string ⟨#[]⟩, .string ⟨#[]⟩, .string ⟨#[]⟩, .string ⟨#[]⟩]) ∧ Kept [] w w' := by
  go_enter Try.func93, Try.ntmps93
  go_wp2_with fail
  have K0 : Hid (Kept [] w ((w.alloc (.cells #[.int .u16 a0, .int .u32 a1, .int .u8 a2, .int .u32 a3, .int .u64 a4, .int .u32 a5, .int .u32 a6, .int .u32 a7, .int .u64 a8, .string a9, .string a10, .string a11, .string a12] 30 (0, 0))).alloc (.cells #[.int .u16 0, .int .u32 0, .int .u8 0, .int .u32 0, .int .u64 0, .int .u32 0, .int .u32 0, .int .u32 0, .int .u64 0, .string ⟨#[]⟩, .string ⟨#[]⟩, .string ⟨#[]⟩, .string ⟨#[]⟩] 30 (0, 0)))) := ((Kept.refl [] _).alloc _).alloc _
  refine (right_any _ r T st (h.out.kept K0.out (by simp) (fun _ _ hm => by simp at hm))).mono ?_
  rintro e w1 ⟨rfl, k1⟩
  have K1 := Lib.hid k1
  clear k1
  have b1 : Hid (w1.heap[w.heap.size + 1]? = some (.cells #[.int .u16 0, .int .u32 0, .int .u8 0, .int .u32 0, .int .u64 0, .int .u32 0, .int .u32 0, .int .u32 0, .int .u64 0, .string ⟨#[]⟩, .string ⟨#[]⟩, .string ⟨#[]⟩, .string ⟨#[]⟩] 30 (0, 0))) := by
    exact (K1.out.block _ (by simp) (by simp)).trans (two_new w _ _)
  have b2 : Hid ((w1.alloc (.cells #[.int .u16 0, .int .u32 0, .int .u8 0, .int .u32 0, .int .u64 0, .int .u32 0, .int .u32 0, .int .u32 0, .int .u64 0, .string ⟨#[]⟩, .string ⟨#[]⟩, .string ⟨#[]⟩, .string ⟨#[]⟩] 30 (0, 0))).heap[w.heap.size + 1]? = some (.cells #[.int .u16 0, .int .u32 0, .int .u8 0, .int .u32 0, .int .u64 0, .int .u32 0, .int .u32 0, .int .u32 0, .int .u64 0, .string ⟨#[]⟩, .string ⟨#[]⟩, .string ⟨#[]⟩, .string ⟨#[]⟩] 30 (0, 0))) := by
    have hz := K1.out.size
    exact (((Kept.refl [] w1).alloc _).block _ (by simp at hz; omega) (by simp)).trans b1.out
  obtain ⟨d0, d1, d2, d3, d4, d5, d6, d7, d8, d9, d10, d11, d12, fz⟩ := thirteen b2.out
  have f0 := fz 0
  have f1 := fz 1
  have f2 := fz 2
  have f3 := fz 3
  have f4 := fz 4
  have f5 := fz 5
  have f6 := fz 6
  have f7 := fz 7
  have f8 := fz 8
  have f9 := fz 9
  have f10 := fz 10
  have f11 := fz 11
  have f12 := fz 12
  clear fz
  go_wp2_with fail
  have e3 := set13 (.int .u16 0) (.int .u32 0) (.int .u8 0) (.int .u32 0) (.int .u64 0) (.int .u32 0) (.int .u32 0) (.int .u32 0) (.int .u64 0) (.string ⟨#[]⟩) (.string ⟨#[]⟩) (.string ⟨#[]⟩) (.string ⟨#[]⟩) b2.out
  obtain ⟨g0, g1, g2, g3, g4, g5, g6, g7, g8, g9, g10, g11, g12, -⟩ := thirteen e3
  refine bodyPost_ret (v := .agg #[.int .u16 0, .int .u32 0, .int .u8 0, .int .u32 0, .int .u64 0, .int .u32 0, .int .u32 0, .int .u32 0, .int .u64 0, .string ⟨#[]⟩, .string ⟨#[]⟩, .string ⟨#[]⟩, .string ⟨#[]⟩]) (by simp [results, Try.results93, go_sem, g0, g1, g2, g3, g4, g5, g6, g7, g8, g9, g10, g11, g12]) rfl ⟨rfl, ?_⟩
  have K := (K0.out.trans K1.out (fun i hi => by simp at hi)).alloc (.cells #[.int .u16 0, .int .u32 0, .int .u8 0, .int .u32 0, .int .u64 0, .int .u32 0, .int .u32 0, .int .u32 0, .int .u64 0, .string ⟨#[]⟩, .string ⟨#[]⟩, .string ⟨#[]⟩, .string ⟨#[]⟩] 30 (0, 0))
  exact ((((((((((((K.setCell (Or.inr (by simp)) _).setCell (Or.inr (by simp)) _).setCell (Or.inr (by simp)) _).setCell (Or.inr (by simp)) _).setCell (Or.inr (by simp)) _).setCell (Or.inr (by simp)) _).setCell (Or.inr (by simp)) _).setCell (Or.inr (by simp)) _).setCell (Or.inr (by simp)) _).setCell (Or.inr (by simp)) _).setCell (Or.inr (by simp)) _).setCell (Or.inr (by simp)) _).setCell (Or.inr (by simp)) _

theorem wholeq_any (w : World) (r : Nat) (T : List Nat) (st : RS) (k v q : Nat) (h : Hid (Rd w r T st)) :
    Calls Try.prog 124 #[.pointer (some ⟨r, 0, none⟩), .agg #[.int .u8 k, .int .u32 v, .int .u64 q]] w fun e w' => e = .returned (.agg #[.int .u8 (st.tell k : Nat), .int .u32 (st.tell v : Nat), .int .u64 (st.tell q : Nat)]) ∧ Kept [] w w' := by
  unfold RS.tell
  by_cases he : st.err = 0
  · rw [if_pos he, if_pos he, if_pos he]
    exact wholeq_yes w r T st k v q (by rw [he]; rfl) h
  · rw [if_neg he, if_neg he, if_neg he]
    exact wholeq_no w r T st k v q (by rw [beq_eq_false_iff_ne]; exact he) h

set_option maxHeartbeats 1000000 in
theorem takeqid_any (w : World) (r : Nat) (T : List Nat) (st : RS) (hT : Hid (∀ k ∈ T, k < w.heap.size)) (ok : Hid st.Ok) (h : Hid (Rd w r T st)) :
    Calls Try.prog 91 #[.pointer (some ⟨r, 0, none⟩)] w fun e w' => e = .returned (.agg #[.int .u8 (st.qid.tell (leval (st.got 1)) : Nat), .int .u32 (st.qid.tell (leval ((st.next 1).got 4)) : Nat), .int .u64 (st.qid.tell (leval (((st.next 1).next 4).got 8)) : Nat)]) ∧ Hid (Rd w' r T st.qid) ∧ Kept [r] w w' := by
  have hr := h.out.lt
  have K0 : Hid (Kept [r] w (w.alloc (.cells #[.int .u8 0, .int .u32 0, .int .u64 0] 28 (0, 0)))) := (Kept.refl [r] _).alloc _
  have b0 : Hid ((w.alloc (.cells #[.int .u8 0, .int .u32 0, .int .u64 0] 28 (0, 0))).heap[w.heap.size]? = some (.cells #[.int .u8 0, .int .u32 0, .int .u64 0] 28 (0, 0))) := heap_alloc_new w _
  have h0 : Hid (Rd (w.alloc (.cells #[.int .u8 0, .int .u32 0, .int .u64 0] 28 (0, 0))) r T st) := h.out.kept ((Kept.refl [] _).alloc _) (by simp) (fun _ _ hm => by simp at hm)
  have ok1 : Hid (st.next 1).Ok := RS.Ok.next ok.out 1
  have ok2 : Hid ((st.next 1).next 4).Ok := RS.Ok.next ok1.out 4
  obtain ⟨s1, hs1⟩ : ∃ s, s = st.next 1 := ⟨_, rfl⟩
  obtain ⟨s2, hs2⟩ : ∃ s, s = s1.next 4 := ⟨_, rfl⟩
  obtain ⟨q, hq⟩ : ∃ s, s = s2.next 8 := ⟨_, rfl⟩
  have C1 := fun (w : World) (h : Hid (Rd w r T st)) => Rdr.u8_any w r T st ok h
  have hqq : st.qid = q := by rw [hq, hs2, hs1]; rfl
  rw [← hs1] at C1 ok1 ok2 ⊢
  rw [← hs2] at ok2 ⊢
  have C2 := fun (w : World) (h : Hid (Rd w r T s1)) => Rdr.u32_any w r T s1 ok1 h
  rw [← hs2] at C2
  have C3 := fun (w : World) (h : Hid (Rd w r T s2)) => Rdr.u64_any w r T s2 ok2 h
  rw [← hq] at C3
  rw [hqq]
  obtain ⟨n1, hn1⟩ : ∃ n, n = leval (st.got 1) := ⟨_, rfl⟩
  obtain ⟨n2, hn2⟩ : ∃ n, n = leval (s1.got 4) := ⟨_, rfl⟩
  obtain ⟨n3, hn3⟩ : ∃ n, n = leval (s2.got 8) := ⟨_, rfl⟩
  rw [← hn1] at C1 ⊢
  rw [← hn2] at C2 ⊢
  rw [← hn3] at C3 ⊢
  have C4 := fun (w : World) (h : Hid (Rd w r T q)) => wholeq_any w r T q n1 n2 n3 h
  obtain ⟨m1, hm1⟩ : ∃ n, n = q.tell n1 := ⟨_, rfl⟩
  obtain ⟨m2, hm2⟩ : ∃ n, n = q.tell n2 := ⟨_, rfl⟩
  obtain ⟨m3, hm3⟩ : ∃ n, n = q.tell n3 := ⟨_, rfl⟩
  rw [← hm1, ← hm2, ← hm3] at C4 ⊢
  have C1' := Lib.hid C1
  have C2' := Lib.hid C2
  have C3' := Lib.hid C3
  have C4' := Lib.hid C4
  clear C1 C2 C3 C4 hs1 hs2 hq hqq hn1 hn2 hn3 hm1 hm2 hm3 ok1 ok2
  go_enter Try.func91, Try.ntmps91
  go_wp2_with fail
  refine (C1'.out _ h0).mono ?_
  rintro e w1 ⟨rfl, h1, k1⟩
  have K1 := Lib.hid k1
  clear k1
  go_wp2_with fail
  refine (C2'.out _ h1).mono ?_
  rintro e w2 ⟨rfl, h2, k2⟩
  have K2 := Lib.hid k2
  clear k2
  go_wp2_with fail
  refine (C3'.out _ h2).mono ?_
  rintro e w3 ⟨rfl, h3, k3⟩
  have K3 : Hid (Kept [r] w w3) := ((K0.out.trans K1.out (fun i hi => Or.inl hi)).trans K2.out (fun i hi => Or.inl hi)).trans k3 (fun i hi => Or.inl hi)
  have k03 := (K1.out.trans K2.out (fun i hi => Or.inl hi)).trans k3 (fun i hi => Or.inl hi)
  have b3 : Hid (w3.heap[w.heap.size]? = some (.cells #[.int .u8 0, .int .u32 0, .int .u64 0] 28 (0, 0))) := (k03.block _ (by simp) (by simp; omega)).trans b0.out
  clear k03 k3 h1 h2
  go_wp2_with fail
  refine (C4'.out _ h3).mono ?_
  rintro e w4 ⟨rfl, k4⟩
  have b4 : Hid (w4.heap[w.heap.size]? = some (.cells #[.int .u8 0, .int .u32 0, .int .u64 0] 28 (0, 0))) := (k4.block _ (block_lt b3.out) (by simp)).trans b3.out
  have h4 : Hid (Rd w4 r T q) := h3.out.kept k4 (by simp) (fun _ _ hm => by simp at hm)
  have K4 : Hid (Kept [r] w w4) := K3.out.trans k4 (fun i hi => by simp at hi)
  obtain ⟨d0, d1, d2, fz⟩ := three b4.out
  have f0 := fz 0
  have f1 := fz 1
  have f2 := fz 2
  clear fz k4
  go_wp2_with fail
  have e3 := set3 (.int .u8 m1) (.int .u32 m2) (.int .u64 m3) b4.out
  obtain ⟨g0, g1, g2, -⟩ := three e3
  refine bodyPost_ret (v := .agg #[.int .u8 m1, .int .u32 m2, .int .u64 m3]) (by simp [results, Try.results91, go_sem, g0, g1, g2]) rfl ⟨rfl, ?_, ?_⟩
  · have KS : Kept [w.heap.size] w4 (((w4.setCell ⟨w.heap.size, 0, none⟩ (.int .u8 m1)).setCell ⟨w.heap.size, 1, none⟩ (.int .u32 m2)).setCell ⟨w.heap.size, 2, none⟩ (.int .u64 m3)) :=
      (((Kept.refl _ _).setCell (Or.inl (by simp)) _).setCell (Or.inl (by simp)) _).setCell (Or.inl (by simp)) _
    exact h4.out.kept KS (by simp; omega) (fun k hk hm => by simp at hm; have := hT.out k hk; omega)
  · exact ((K4.out.setCell (Or.inr (by simp)) _).setCell (Or.inr (by simp)) _).setCell (Or.inr (by simp)) _
end Stt
end Go.Proofs.Yteebiemfhicgbaa
