/- What Decode of a list of bytes tells. -/
import Derived.Test.YteebiemfhicgbaaRdc
namespace Go.Proofs.Yteebiemfhicgbaa
set_option linter.unusedVariables false
open Go.RowKit
theorem dec_some {bs : List UInt8} {s : Rec} (h : dec bs = some s) : (Rdr.RS.end (⟨bs, 0, 0, 0⟩ : RS).took).err = 0 ∧ s = (⟨bs, 0, 0, 0⟩ : RS).rec' := by
  unfold dec at h
  split at h
  · rename_i k
    simp only [Option.some.injEq] at h
    exact ⟨k, h.symm⟩
  · cases h
theorem dec_none {bs : List UInt8} (h : dec bs = none) : (Rdr.RS.end (⟨bs, 0, 0, 0⟩ : RS).took).err ≠ 0 := by
  unfold dec at h
  split at h
  · cases h
  · assumption

namespace Stt
open Go.Proofs.Yteebiemfhicgbaa.Txt

set_option maxHeartbeats 4000000 in
set_option maxRecDepth 100000 in
theorem decode_yes (w : World) (v : Value) (bs : List UInt8) (T0 : List Nat) (s : Rec) (hsz : bs.length ≤ 1152921504606) (hd : dec bs = some s) (hb : Hid (Src w v bs T0)) :
    Calls Try.prog 9 #[v] w fun e w' => e = .returned (.tuple #[s.val, .int .i64 0]) ∧ Kept [] w w' := by
  have K0 : Hid (Kept [] w (w.alloc (.cells #[.int .u16 0, .int .u32 0, .int .u8 0, .int .u32 0, .int .u64 0, .int .u32 0, .int .u32 0, .int .u32 0, .int .u64 0, .string ⟨#[]⟩, .string ⟨#[]⟩, .string ⟨#[]⟩, .string ⟨#[]⟩] 30 (0, 0)))) := (Kept.refl [] _).alloc _
  have b0 : Hid ((w.alloc (.cells #[.int .u16 0, .int .u32 0, .int .u8 0, .int .u32 0, .int .u64 0, .int .u32 0, .int .u32 0, .int .u32 0, .int .u64 0, .string ⟨#[]⟩, .string ⟨#[]⟩, .string ⟨#[]⟩, .string ⟨#[]⟩] 30 (0, 0))).heap[w.heap.size]? = some (.cells #[.int .u16 0, .int .u32 0, .int .u8 0, .int .u32 0, .int .u64 0, .int .u32 0, .int .u32 0, .int .u32 0, .int .u64 0, .string ⟨#[]⟩, .string ⟨#[]⟩, .string ⟨#[]⟩, .string ⟨#[]⟩] 30 (0, 0))) := heap_alloc_new w _
  have HW : Hid (w.heap.size < (w.alloc (.cells #[.int .u16 0, .int .u32 0, .int .u8 0, .int .u32 0, .int .u64 0, .int .u32 0, .int .u32 0, .int .u32 0, .int .u64 0, .string ⟨#[]⟩, .string ⟨#[]⟩, .string ⟨#[]⟩, .string ⟨#[]⟩] 30 (0, 0))).heap.size) := by show _ < _; simp
  have S0 : Hid (Src (w.alloc (.cells #[.int .u16 0, .int .u32 0, .int .u8 0, .int .u32 0, .int .u64 0, .int .u32 0, .int .u32 0, .int .u32 0, .int .u64 0, .string ⟨#[]⟩, .string ⟨#[]⟩, .string ⟨#[]⟩, .string ⟨#[]⟩] 30 (0, 0))) v bs T0) := hb.out.kept K0.out (fun _ _ hm => by simp at hm)
  have ok0 : Hid (⟨bs, 0, 0, 0⟩ : RS).Ok := ⟨by show 0 + bs.length ≤ _; omega, by show (-9223372036854775808 : Int) ≤ 0; decide, by show (0 : Int) ≤ 9223372036854775807; decide⟩
  have NW := Lib.hid (Rdr.new_any (w.alloc (.cells #[.int .u16 0, .int .u32 0, .int .u8 0, .int .u32 0, .int .u64 0, .int .u32 0, .int .u32 0, .int .u32 0, .int .u64 0, .string ⟨#[]⟩, .string ⟨#[]⟩, .string ⟨#[]⟩, .string ⟨#[]⟩] 30 (0, 0))) v bs T0 hsz S0)
  have TK := fun (w : World) (r : Nat) (T : List Nat) (hT : Hid (∀ k ∈ T, k < w.heap.size)) (h : Hid (Rd w r T ⟨bs, 0, 0, 0⟩)) => take_any w r T ⟨bs, 0, 0, 0⟩ hT ok0 (by show 0 ≤ _; omega) h
  obtain ⟨hE, hS⟩ := dec_some hd
  clear hd
  obtain ⟨tk, htk⟩ : ∃ s : RS, s = (⟨bs, 0, 0, 0⟩ : RS).took := ⟨_, rfl⟩
  obtain ⟨z, hz⟩ : ∃ z : Rec, z = (⟨bs, 0, 0, 0⟩ : RS).rec' := ⟨_, rfl⟩
  rw [← htk, ← hz] at TK
  rw [← htk] at hE
  rw [← hz] at hS
  subst s
  have TK' := Lib.hid TK
  obtain ⟨re, hre⟩ : ∃ s : RS, s = Rdr.RS.end tk := ⟨_, rfl⟩
  rw [← hre] at hE
  have EN := fun (w : World) (r : Nat) (T : List Nat) (h : Hid (Rd w r T tk)) => Rdr.end_any w r T tk h
  rw [← hre] at EN
  have EN' := Lib.hid EN
  have E : (re.err == 0) = true := by rw [hE]; rfl
  clear TK htk hz hE hre EN hb S0 ok0 hsz
  obtain ⟨z0, z1, z2, z3, z4, z5, z6, z7, z8, z9, z10, z11, z12⟩ := z
  unfold Rec.val Rec.cells at *
  simp only [] at *
  go_enter Try.func9, Try.ntmps9
  go_wp2_with fail
  refine NW.out.mono ?_
  rintro e w1 ⟨r, T, rfl, h1, k1, hr, hT⟩
  have K1 : Hid (Kept [] w w1) := K0.out.trans k1 (fun i hi => by simp at hi)
  have b1 : Hid (w1.heap[w.heap.size]? = some (.cells #[.int .u16 0, .int .u32 0, .int .u8 0, .int .u32 0, .int .u64 0, .int .u32 0, .int .u32 0, .int .u32 0, .int .u64 0, .string ⟨#[]⟩, .string ⟨#[]⟩, .string ⟨#[]⟩, .string ⟨#[]⟩] 30 (0, 0))) := (k1.block _ HW.out (by simp)).trans b0.out
  have hT1 : Hid (∀ k ∈ T, k < w1.heap.size) := fun k hk => (hT.out k hk).2
  have hT2 : Hid (∀ k ∈ T, w.heap.size < k) := fun k hk => Nat.lt_of_lt_of_le HW.out (hT.out k hk).1
  have hr1 : w.heap.size < r := Nat.lt_of_lt_of_le HW.out hr
  clear k1 hr hT b0 NW K0 HW
  go_wp2_with fail
  refine (TK'.out _ r T hT1 h1).mono ?_
  rintro e w2 ⟨rfl, h2, k2⟩
  have hrl := h2.out.lt
  have K2 : Hid (Kept [] w w2) := K1.out.trans k2 (fun i hi => by simp at hi; right; omega)
  have b2 : Hid (w2.heap[w.heap.size]? = some (.cells #[.int .u16 0, .int .u32 0, .int .u8 0, .int .u32 0, .int .u64 0, .int .u32 0, .int .u32 0, .int .u32 0, .int .u64 0, .string ⟨#[]⟩, .string ⟨#[]⟩, .string ⟨#[]⟩, .string ⟨#[]⟩] 30 (0, 0))) := (k2.block _ (block_lt b1.out) (by simp; omega)).trans b1.out
  have L2 : Hid ((w2.alloc (.cells #[.int .u16 z0, .int .u32 z1, .int .u8 z2, .int .u32 z3, .int .u64 z4, .int .u32 z5, .int .u32 z6, .int .u32 z7, .int .u64 z8, .string z9, .string z10, .string z11, .string z12] 30 (0, 0))).heap[w2.heap.size]? = some (.cells #[.int .u16 z0, .int .u32 z1, .int .u8 z2, .int .u32 z3, .int .u64 z4, .int .u32 z5, .int .u32 z6, .int .u32 z7, .int .u64 z8, .string z9, .string z10, .string z11, .string z12] 30 (0, 0))) := heap_alloc_new w2 _
  have h2' : Hid (Rd (w2.alloc (.cells #[.int .u16 z0, .int .u32 z1, .int .u8 z2, .int .u32 z3, .int .u64 z4, .int .u32 z5, .int .u32 z6, .int .u32 z7, .int .u64 z8, .string z9, .string z10, .string z11, .string z12] 30 (0, 0))) r T tk) := h2.out.kept ((Kept.refl [] _).alloc _) (by simp) (fun _ _ hm => by simp at hm)
  have b2' : Hid ((w2.alloc (.cells #[.int .u16 z0, .int .u32 z1, .int .u8 z2, .int .u32 z3, .int .u64 z4, .int .u32 z5, .int .u32 z6, .int .u32 z7, .int .u64 z8, .string z9, .string z10, .string z11, .string z12] 30 (0, 0))).heap[w.heap.size]? = some (.cells #[.int .u16 0, .int .u32 0, .int .u8 0, .int .u32 0, .int .u64 0, .int .u32 0, .int .u32 0, .int .u32 0, .int .u64 0, .string ⟨#[]⟩, .string ⟨#[]⟩, .string ⟨#[]⟩, .string ⟨#[]⟩] 30 (0, 0))) := (((Kept.refl [] w2).alloc _).block _ (block_lt b2.out) (by simp)).trans b2.out
  have K2' : Hid (Kept [] w (w2.alloc (.cells #[.int .u16 z0, .int .u32 z1, .int .u8 z2, .int .u32 z3, .int .u64 z4, .int .u32 z5, .int .u32 z6, .int .u32 z7, .int .u64 z8, .string z9, .string z10, .string z11, .string z12] 30 (0, 0)))) := K2.out.alloc _
  clear k2 h1 K1 b1 h2 b2 K2
  go_wp2_with fail
  refine (EN'.out _ r T h2').mono ?_
  rintro e w3 ⟨rfl, h3, k3⟩
  have K3 : Hid (Kept [] w w3) := K2'.out.trans k3 (fun i hi => by simp at hi; right; omega)
  have b3 : Hid (w3.heap[w.heap.size]? = some (.cells #[.int .u16 0, .int .u32 0, .int .u8 0, .int .u32 0, .int .u64 0, .int .u32 0, .int .u32 0, .int .u32 0, .int .u64 0, .string ⟨#[]⟩, .string ⟨#[]⟩, .string ⟨#[]⟩, .string ⟨#[]⟩] 30 (0, 0))) := (k3.block _ (block_lt b2'.out) (by simp; omega)).trans b2'.out
  have L3 : Hid (w3.heap[w2.heap.size]? = some (.cells #[.int .u16 z0, .int .u32 z1, .int .u8 z2, .int .u32 z3, .int .u64 z4, .int .u32 z5, .int .u32 z6, .int .u32 z7, .int .u64 z8, .string z9, .string z10, .string z11, .string z12] 30 (0, 0))) := (k3.block _ (block_lt L2.out) (by simp; omega)).trans L2.out
  clear k3 h2' K2' b2' L2
  go_wp2_with fail
  refine (right_any _ r T re h3).mono ?_
  rintro e w4 ⟨rfl, k4⟩
  have K4 : Hid (Kept [] w w4) := K3.out.trans k4 (fun i hi => by simp at hi)
  have b4 : Hid (w4.heap[w.heap.size]? = some (.cells #[.int .u16 0, .int .u32 0, .int .u8 0, .int .u32 0, .int .u64 0, .int .u32 0, .int .u32 0, .int .u32 0, .int .u64 0, .string ⟨#[]⟩, .string ⟨#[]⟩, .string ⟨#[]⟩, .string ⟨#[]⟩] 30 (0, 0))) := (k4.block _ (block_lt b3.out) (by simp)).trans b3.out
  have L4 : Hid (w4.heap[w2.heap.size]? = some (.cells #[.int .u16 z0, .int .u32 z1, .int .u8 z2, .int .u32 z3, .int .u64 z4, .int .u32 z5, .int .u32 z6, .int .u32 z7, .int .u64 z8, .string z9, .string z10, .string z11, .string z12] 30 (0, 0))) := (k4.block _ (block_lt L3.out) (by simp)).trans L3.out
  clear k4 K3 b3 L3
  obtain ⟨c0, c1, c2, c3, c4, c5, c6, c7, c8, c9, c10, c11, c12, -⟩ := thirteen L4.out
  obtain ⟨d0, d1, d2, d3, d4, d5, d6, d7, d8, d9, d10, d11, d12, fz⟩ := thirteen b4.out
  have f0 := fz 0
  have f1 := fz 1
  have f2 := fz 2
  have f3 := fz 3
  have f4 := fz 4
  have f5 := fz 5
  have f6 := fz 6
  have f7 := fz 7
  have f8 := fz 8
  have f9 := fz 9
  have f10 := fz 10
  have f11 := fz 11
  have f12 := fz 12
  clear fz
  go_wp2_with fail
  have e3 := set13 (.int .u16 z0) (.int .u32 z1) (.int .u8 z2) (.int .u32 z3) (.int .u64 z4) (.int .u32 z5) (.int .u32 z6) (.int .u32 z7) (.int .u64 z8) (.string z9) (.string z10) (.string z11) (.string z12) b4.out
  obtain ⟨g0, g1, g2, g3, g4, g5, g6, g7, g8, g9, g10, g11, g12, -⟩ := thirteen e3
  refine bodyPost_ret (v := .tuple #[.agg #[.int .u16 z0, .int .u32 z1, .int .u8 z2, .int .u32 z3, .int .u64 z4, .int .u32 z5, .int .u32 z6, .int .u32 z7, .int .u64 z8, .string z9, .string z10, .string z11, .string z12], .int .i64 0]) (by simp [results, Try.results9, go_sem, g0, g1, g2, g3, g4, g5, g6, g7, g8, g9, g10, g11, g12]) rfl ⟨rfl, ?_⟩
  exact ((((((((((((K4.out.setCell (Or.inr (by simp)) _).setCell (Or.inr (by simp)) _).setCell (Or.inr (by simp)) _).setCell (Or.inr (by simp)) _).setCell (Or.inr (by simp)) _).setCell (Or.inr (by simp)) _).setCell (Or.inr (by simp)) _).setCell (Or.inr (by simp)) _).setCell (Or.inr (by simp)) _).setCell (Or.inr (by simp)) _).setCell (Or.inr (by simp)) _).setCell (Or.inr (by simp)) _).setCell (Or.inr (by simp)) _

set_option maxHeartbeats 4000000 in
set_option maxRecDepth 100000 in
theorem decode_no (w : World) (v : Value) (bs : List UInt8) (T0 : List Nat) (hsz : bs.length ≤ 1152921504606) (hd : dec bs = none) (hb : Hid (Src w v bs T0)) :
    Calls Try.prog 9 #[v] w fun e w' => e = .returned (.tuple #[Rec.none.val, .int .i64 20]) ∧ Kept [] w w' := by
  have K0 : Hid (Kept [] w (w.alloc (.cells #[.int .u16 0, .int .u32 0, .int .u8 0, .int .u32 0, .int .u64 0, .int .u32 0, .int .u32 0, .int .u32 0, .int .u64 0, .string ⟨#[]⟩, .string ⟨#[]⟩, .string ⟨#[]⟩, .string ⟨#[]⟩] 30 (0, 0)))) := (Kept.refl [] _).alloc _
  have b0 : Hid ((w.alloc (.cells #[.int .u16 0, .int .u32 0, .int .u8 0, .int .u32 0, .int .u64 0, .int .u32 0, .int .u32 0, .int .u32 0, .int .u64 0, .string ⟨#[]⟩, .string ⟨#[]⟩, .string ⟨#[]⟩, .string ⟨#[]⟩] 30 (0, 0))).heap[w.heap.size]? = some (.cells #[.int .u16 0, .int .u32 0, .int .u8 0, .int .u32 0, .int .u64 0, .int .u32 0, .int .u32 0, .int .u32 0, .int .u64 0, .string ⟨#[]⟩, .string ⟨#[]⟩, .string ⟨#[]⟩, .string ⟨#[]⟩] 30 (0, 0))) := heap_alloc_new w _
  have HW : Hid (w.heap.size < (w.alloc (.cells #[.int .u16 0, .int .u32 0, .int .u8 0, .int .u32 0, .int .u64 0, .int .u32 0, .int .u32 0, .int .u32 0, .int .u64 0, .string ⟨#[]⟩, .string ⟨#[]⟩, .string ⟨#[]⟩, .string ⟨#[]⟩] 30 (0, 0))).heap.size) := by show _ < _; simp
  have S0 : Hid (Src (w.alloc (.cells #[.int .u16 0, .int .u32 0, .int .u8 0, .int .u32 0, .int .u64 0, .int .u32 0, .int .u32 0, .int .u32 0, .int .u64 0, .string ⟨#[]⟩, .string ⟨#[]⟩, .string ⟨#[]⟩, .string ⟨#[]⟩] 30 (0, 0))) v bs T0) := hb.out.kept K0.out (fun _ _ hm => by simp at hm)
  have ok0 : Hid (⟨bs, 0, 0, 0⟩ : RS).Ok := ⟨by show 0 + bs.length ≤ _; omega, by show (-9223372036854775808 : Int) ≤ 0; decide, by show (0 : Int) ≤ 9223372036854775807; decide⟩
  have NW := Lib.hid (Rdr.new_any (w.alloc (.cells #[.int .u16 0, .int .u32 0, .int .u8 0, .int .u32 0, .int .u64 0, .int .u32 0, .int .u32 0, .int .u32 0, .int .u64 0, .string ⟨#[]⟩, .string ⟨#[]⟩, .string ⟨#[]⟩, .string ⟨#[]⟩] 30 (0, 0))) v bs T0 hsz S0)
  have TK := fun (w : World) (r : Nat) (T : List Nat) (hT : Hid (∀ k ∈ T, k < w.heap.size)) (h : Hid (Rd w r T ⟨bs, 0, 0, 0⟩)) => take_any w r T ⟨bs, 0, 0, 0⟩ hT ok0 (by show 0 ≤ _; omega) h
  have hE := dec_none hd
  clear hd
  obtain ⟨tk, htk⟩ : ∃ s : RS, s = (⟨bs, 0, 0, 0⟩ : RS).took := ⟨_, rfl⟩
  obtain ⟨z, hz⟩ : ∃ z : Rec, z = (⟨bs, 0, 0, 0⟩ : RS).rec' := ⟨_, rfl⟩
  rw [← htk, ← hz] at TK
  rw [← htk] at hE
  
  
  have TK' := Lib.hid TK
  obtain ⟨re, hre⟩ : ∃ s : RS, s = Rdr.RS.end tk := ⟨_, rfl⟩
  rw [← hre] at hE
  have EN := fun (w : World) (r : Nat) (T : List Nat) (h : Hid (Rd w r T tk)) => Rdr.end_any w r T tk h
  rw [← hre] at EN
  have EN' := Lib.hid EN
  have E : (re.err == 0) = false := by rw [beq_eq_false_iff_ne]; exact hE
  clear TK htk hz hE hre EN hb S0 ok0 hsz
  obtain ⟨z0, z1, z2, z3, z4, z5, z6, z7, z8, z9, z10, z11, z12⟩ := z
  unfold Rec.val Rec.cells at *
  simp only [] at *
  go_enter Try.func9, Try.ntmps9
  go_wp2_with fail
  refine NW.out.mono ?_
  rintro e w1 ⟨r, T, rfl, h1, k1, hr, hT⟩
  have K1 : Hid (Kept [] w w1) := K0.out.trans k1 (fun i hi => by simp at hi)
  have b1 : Hid (w1.heap[w.heap.size]? = some (.cells #[.int .u16 0, .int .u32 0, .int .u8 0, .int .u32 0, .int .u64 0, .int .u32 0, .int .u32 0, .int .u32 0, .int .u64 0, .string ⟨#[]⟩, .string ⟨#[]⟩, .string ⟨#[]⟩, .string ⟨#[]⟩] 30 (0, 0))) := (k1.block _ HW.out (by simp)).trans b0.out
  have hT1 : Hid (∀ k ∈ T, k < w1.heap.size) := fun k hk => (hT.out k hk).2
  have hT2 : Hid (∀ k ∈ T, w.heap.size < k) := fun k hk => Nat.lt_of_lt_of_le HW.out (hT.out k hk).1
  have hr1 : w.heap.size < r := Nat.lt_of_lt_of_le HW.out hr
  clear k1 hr hT b0 NW K0 HW
  go_wp2_with fail
  refine (TK'.out _ r T hT1 h1).mono ?_
  rintro e w2 ⟨rfl, h2, k2⟩
  have hrl := h2.out.lt
  have K2 : Hid (Kept [] w w2) := K1.out.trans k2 (fun i hi => by simp at hi; right; omega)
  have b2 : Hid (w2.heap[w.heap.size]? = some (.cells #[.int .u16 0, .int .u32 0, .int .u8 0, .int .u32 0, .int .u64 0, .int .u32 0, .int .u32 0, .int .u32 0, .int .u64 0, .string ⟨#[]⟩, .string ⟨#[]⟩, .string ⟨#[]⟩, .string ⟨#[]⟩] 30 (0, 0))) := (k2.block _ (block_lt b1.out) (by simp; omega)).trans b1.out
  have L2 : Hid ((w2.alloc (.cells #[.int .u16 z0, .int .u32 z1, .int .u8 z2, .int .u32 z3, .int .u64 z4, .int .u32 z5, .int .u32 z6, .int .u32 z7, .int .u64 z8, .string z9, .string z10, .string z11, .string z12] 30 (0, 0))).heap[w2.heap.size]? = some (.cells #[.int .u16 z0, .int .u32 z1, .int .u8 z2, .int .u32 z3, .int .u64 z4, .int .u32 z5, .int .u32 z6, .int .u32 z7, .int .u64 z8, .string z9, .string z10, .string z11, .string z12] 30 (0, 0))) := heap_alloc_new w2 _
  have h2' : Hid (Rd (w2.alloc (.cells #[.int .u16 z0, .int .u32 z1, .int .u8 z2, .int .u32 z3, .int .u64 z4, .int .u32 z5, .int .u32 z6, .int .u32 z7, .int .u64 z8, .string z9, .string z10, .string z11, .string z12] 30 (0, 0))) r T tk) := h2.out.kept ((Kept.refl [] _).alloc _) (by simp) (fun _ _ hm => by simp at hm)
  have b2' : Hid ((w2.alloc (.cells #[.int .u16 z0, .int .u32 z1, .int .u8 z2, .int .u32 z3, .int .u64 z4, .int .u32 z5, .int .u32 z6, .int .u32 z7, .int .u64 z8, .string z9, .string z10, .string z11, .string z12] 30 (0, 0))).heap[w.heap.size]? = some (.cells #[.int .u16 0, .int .u32 0, .int .u8 0, .int .u32 0, .int .u64 0, .int .u32 0, .int .u32 0, .int .u32 0, .int .u64 0, .string ⟨#[]⟩, .string ⟨#[]⟩, .string ⟨#[]⟩, .string ⟨#[]⟩] 30 (0, 0))) := (((Kept.refl [] w2).alloc _).block _ (block_lt b2.out) (by simp)).trans b2.out
  have K2' : Hid (Kept [] w (w2.alloc (.cells #[.int .u16 z0, .int .u32 z1, .int .u8 z2, .int .u32 z3, .int .u64 z4, .int .u32 z5, .int .u32 z6, .int .u32 z7, .int .u64 z8, .string z9, .string z10, .string z11, .string z12] 30 (0, 0)))) := K2.out.alloc _
  clear k2 h1 K1 b1 h2 b2 K2
  go_wp2_with fail
  refine (EN'.out _ r T h2').mono ?_
  rintro e w3 ⟨rfl, h3, k3⟩
  have K3 : Hid (Kept [] w w3) := K2'.out.trans k3 (fun i hi => by simp at hi; right; omega)
  have b3 : Hid (w3.heap[w.heap.size]? = some (.cells #[.int .u16 0, .int .u32 0, .int .u8 0, .int .u32 0, .int .u64 0, .int .u32 0, .int .u32 0, .int .u32 0, .int .u64 0, .string ⟨#[]⟩, .string ⟨#[]⟩, .string ⟨#[]⟩, .string ⟨#[]⟩] 30 (0, 0))) := (k3.block _ (block_lt b2'.out) (by simp; omega)).trans b2'.out
  have L3 : Hid (w3.heap[w2.heap.size]? = some (.cells #[.int .u16 z0, .int .u32 z1, .int .u8 z2, .int .u32 z3, .int .u64 z4, .int .u32 z5, .int .u32 z6, .int .u32 z7, .int .u64 z8, .string z9, .string z10, .string z11, .string z12] 30 (0, 0))) := (k3.block _ (block_lt L2.out) (by simp; omega)).trans L2.out
  clear k3 h2' K2' b2' L2
  go_wp2_with fail
  refine (right_any _ r T re h3).mono ?_
  rintro e w4 ⟨rfl, k4⟩
  have K4 : Hid (Kept [] w w4) := K3.out.trans k4 (fun i hi => by simp at hi)
  have b4 : Hid (w4.heap[w.heap.size]? = some (.cells #[.int .u16 0, .int .u32 0, .int .u8 0, .int .u32 0, .int .u64 0, .int .u32 0, .int .u32 0, .int .u32 0, .int .u64 0, .string ⟨#[]⟩, .string ⟨#[]⟩, .string ⟨#[]⟩, .string ⟨#[]⟩] 30 (0, 0))) := (k4.block _ (block_lt b3.out) (by simp)).trans b3.out
  have L4 : Hid (w4.heap[w2.heap.size]? = some (.cells #[.int .u16 z0, .int .u32 z1, .int .u8 z2, .int .u32 z3, .int .u64 z4, .int .u32 z5, .int .u32 z6, .int .u32 z7, .int .u64 z8, .string z9, .string z10, .string z11, .string z12] 30 (0, 0))) := (k4.block _ (block_lt L3.out) (by simp)).trans L3.out
  clear k4 K3 b3 L3
  obtain ⟨c0, c1, c2, c3, c4, c5, c6, c7, c8, c9, c10, c11, c12, -⟩ := thirteen L4.out
  obtain ⟨d0, d1, d2, d3, d4, d5, d6, d7, d8, d9, d10, d11, d12, fz⟩ := thirteen b4.out
  have f0 := fz 0
  have f1 := fz 1
  have f2 := fz 2
  have f3 := fz 3
  have f4 := fz 4
  have f5 := fz 5
  have f6 := fz 6
  have f7 := fz 7
  have f8 := fz 8
  have f9 := fz 9
  have f10 := fz 10
  have f11 := fz 11
  have f12 := fz 12
  clear fz
  go_wp2_with fail
  have e3 := set13 (.int .u16 0) (.int .u32 0) (.int .u8 0) (.int .u32 0) (.int .u64 0) (.int .u32 0) (.int .u32 0) (.int .u32 0) (.int .u64 0) (.string ⟨#[]⟩) (.string ⟨#[]⟩) (.string ⟨#[]⟩) (.string ⟨#[]⟩) b4.out
  obtain ⟨g0, g1, g2, g3, g4, g5, g6, g7, g8, g9, g10, g11, g12, -⟩ := thirteen e3
  refine bodyPost_ret (v := .tuple #[.agg #[.int .u16 0, .int .u32 0, .int .u8 0, .int .u32 0, .int .u64 0, .int .u32 0, .int .u32 0, .int .u32 0, .int .u64 0, .string ⟨#[]⟩, .string ⟨#[]⟩, .string ⟨#[]⟩, .string ⟨#[]⟩], .int .i64 20]) (by simp [results, Try.results9, go_sem, g0, g1, g2, g3, g4, g5, g6, g7, g8, g9, g10, g11, g12]) rfl ⟨rfl, ?_⟩
  exact ((((((((((((K4.out.setCell (Or.inr (by simp)) _).setCell (Or.inr (by simp)) _).setCell (Or.inr (by simp)) _).setCell (Or.inr (by simp)) _).setCell (Or.inr (by simp)) _).setCell (Or.inr (by simp)) _).setCell (Or.inr (by simp)) _).setCell (Or.inr (by simp)) _).setCell (Or.inr (by simp)) _).setCell (Or.inr (by simp)) _).setCell (Or.inr (by simp)) _).setCell (Or.inr (by simp)) _).setCell (Or.inr (by simp)) _
end Stt
end Go.Proofs.Yteebiemfhicgbaa
