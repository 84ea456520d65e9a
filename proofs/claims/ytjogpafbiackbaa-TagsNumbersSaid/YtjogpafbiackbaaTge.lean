/- tags: a message copied. -/
import Derived.Test.YtjogpafbiackbaaTgd
namespace Go.Proofs.Ytjogpafbiackbaa
set_option linter.unusedVariables false
open Go.RowKit
namespace Tg
open Go.Proofs.Ytjogpafbiackbaa.Mpf Go.PlainAid

/-- A message of 36 cells without lists. -/
structure Pl (V : Array Value) : Prop where
  size : V.size = 36
  one : V.all (·.oneCell') = true
  c11 : V[11]? = some (.slice none 0 0)
  c12 : V[12]? = some (.slice none 0 0)
  c22 : V[22]? = some (.slice none 0 0)
theorem set_self (V : Array Value) (i : Nat) (x : Value) (h : V[i]? = some x) : V.setIfInBounds i x = V := by
  apply Array.ext_getElem?
  intro j
  rw [Array.getElem?_setIfInBounds]
  split
  · rename_i e; subst e
    split
    · exact h.symm
    · rename_i hb
      rw [Array.getElem?_eq_none (by omega)] at h
      cases h
  · rfl
theorem Bx.self {w : World} {B : Nat} {t : TypeId} {V : Array Value} (h : Bx w B t V) {i : Nat} {x : Value} (hx : V[i]? = some x) : Bx (w.setCell ⟨B, i, none⟩ x) B t V := by
  have := h.set i x
  rwa [set_self V i x hx] at this
theorem Pl.msg (k t : Int) (e : ByteArray) : Pl (msgC k t e).toArray := ⟨rfl, by simp [msgC, Value.oneCell'], rfl, rfl, rfl⟩
set_option maxHeartbeats 4000000 in
set_option maxRecDepth 100000 in
theorem copied_any (w : World) {V : Array Value} (hV : Pl V) :
    Calls Try.prog 25 #[.agg V] w fun e w' => e = .returned (.agg V) ∧ Kept [] w w' := by
  obtain ⟨Z, hZ⟩ : ∃ Z : Array Value, Z = #[.int .u8 0, .int .u16 0, .int .u32 0, .string ⟨#[]⟩, .int .u32 0, .string ⟨#[]⟩, .string ⟨#[]⟩, .string ⟨#[]⟩, .int .u16 0, .int .u32 0, .int .u32 0, .slice none 0 0, .slice none 0 0, .int .u8 0, .int .u32 0, .int .u64 0, .int .u8 0, .int .u32 0, .string ⟨#[]⟩, .int .u32 0, .int .u64 0, .int .u32 0, .slice none 0 0, .int .u16 0, .int .u32 0, .int .u8 0, .int .u32 0, .int .u64 0, .int .u32 0, .int .u32 0, .int .u32 0, .int .u64 0, .string ⟨#[]⟩, .string ⟨#[]⟩, .string ⟨#[]⟩, .string ⟨#[]⟩] := ⟨_, rfl⟩
  have HZ := Lib.hid hZ
  have HV := Lib.hid hV
  have C1 := Lib.hid clone1
  have C2 := Lib.hid clone2
  have C3 := Lib.hid clone3
  have KA : Hid (Kept [] w (((w.alloc (.cells V 57)).alloc (.cells Z 57)).drew)) := (((Kept.refl _ _).alloc _).alloc _).drew
  have SL : Hid (∀ w', Bx w' w.heap.size 57 V → w'.cell? ⟨w.heap.size, 11, none⟩ = some (.slice none 0 0) ∧ w'.cell? ⟨w.heap.size, 12, none⟩ = some (.slice none 0 0) ∧ w'.cell? ⟨w.heap.size, 22, none⟩ = some (.slice none 0 0) ∧ w'.frozen? ⟨w.heap.size, 11, none⟩ = false ∧ w'.frozen? ⟨w.heap.size, 12, none⟩ = false ∧ w'.frozen? ⟨w.heap.size, 22, none⟩ = false) := fun w' h => ⟨h.cell 11 hV.c11, h.cell 12 hV.c12, h.cell 22 hV.c22, h.frozen _, h.frozen _, h.frozen _⟩
  have B0 : Hid (Bx (((w.alloc (.cells V 57)).alloc (.cells Z 57)).drew) w.heap.size 57 V) := ((Bx.made _ _ _).alloc _).drew
  have G0 : Hid (Bx (((w.alloc (.cells V 57)).alloc (.cells Z 57)).drew) (w.heap.size + 1) 57 Z) := by
    have := Bx.made (w.alloc (.cells V 57)) 57 Z
    rwa [World.size_alloc] at this
  have S0 := SL.out _ B0.out
  rw [hZ] at S0
  have HS0 := Lib.hid S0
  clear hZ hV S0
  go_enter Try.func25, Try.ntmps25
  go_wp2_with fail
  go_region_held3 (fun w' => w'.cell? ⟨w.heap.size, 11, none⟩ = some (.slice none 0 0) ∧ w'.cell? ⟨w.heap.size, 12, none⟩ = some (.slice none 0 0) ∧ w'.cell? ⟨w.heap.size, 22, none⟩ = some (.slice none 0 0) ∧ w'.frozen? ⟨w.heap.size, 11, none⟩ = false ∧ w'.frozen? ⟨w.heap.size, 12, none⟩ = false ∧ w'.frozen? ⟨w.heap.size, 22, none⟩ = false) (first | exact HS0.out | exact SL.out _ (Bx.self (Bx.self (Bx.self b4.out HV.out.c11) HV.out.c12) HV.out.c22) | exact SL.out _ (Bx.self (Bx.self b4.out HV.out.c11) HV.out.c12) | exact SL.out _ (Bx.self b4.out HV.out.c11) | exact SL.out _ b4.out | exact SL.out _ b3.out | exact SL.out _ b2.out) (first | (go_at_call 41; refine (C1.out _).mono ?_; rintro e w2 ⟨rfl, k2⟩; rw [← HZ.out] at k2; have K2 : Hid (Kept [] w w2) := KA.out.trans k2 (fun i hi => by cases hi); have b2 : Hid (Bx w2 w.heap.size 57 V) := Bx.kept B0.out k2 (by simp); have g2 : Hid (Bx w2 (w.heap.size + 1) 57 Z) := Bx.kept G0.out k2 (by simp); clear k2 C1) | (go_at_call 42; refine (C2.out _).mono ?_; rintro e w3 ⟨rfl, k3⟩; have K3 : Hid (Kept [] w w3) := K2.out.trans k3 (fun i hi => by cases hi); have b3 : Hid (Bx w3 w.heap.size 57 V) := Bx.kept b2.out k3 (by simp); have g3 : Hid (Bx w3 (w.heap.size + 1) 57 Z) := Bx.kept g2.out k3 (by simp); clear k3 C2) | (go_at_call 43; refine (C3.out _).mono ?_; rintro e w4 ⟨rfl, k4⟩; have K4 : Hid (Kept [] w w4) := K3.out.trans k4 (fun i hi => by cases hi); have b4 : Hid (Bx w4 w.heap.size 57 V) := Bx.kept b3.out k4 (by simp); have g4 : Hid (Bx w4 (w.heap.size + 1) 57 Z) := Bx.kept g3.out k4 (by simp); clear k4 C3))
  rename_i hh
  clear hh
  obtain ⟨W5, hW5⟩ : ∃ W5, W5 = ((w4.setCell ⟨w.heap.size, 11, none⟩ (.slice none 0 0)).setCell ⟨w.heap.size, 12, none⟩ (.slice none 0 0)).setCell ⟨w.heap.size, 22, none⟩ (.slice none 0 0) := ⟨_, rfl⟩
  have B5 : Hid (Bx W5 w.heap.size 57 V) := by rw [hW5]; exact Bx.self (Bx.self (Bx.self b4.out HV.out.c11) HV.out.c12) HV.out.c22
  have G5 : Hid (Bx W5 (w.heap.size + 1) 57 Z) := by rw [hW5]; exact ((g4.out.other (by simp) _).other (by simp) _).other (by simp) _
  have K5 : Hid (Kept [] w W5) := by rw [hW5]; exact ((K4.out.setCell (Or.inr (by simp)) _).setCell (Or.inr (by simp)) _).setCell (Or.inr (by simp)) _
  have ZS : Hid (Z.size = 36) := by rw [HZ.out]; rfl
  rw [← hW5]
  clear hW5 b2 b3 b4 g2 g3 g4 K2 K3 K4 B0 G0 HS0 KA HZ SL
  go_wp2_with (first | (refine wpList_lmsg rfl (.tmp 1) rfl w.heap.size V HV.out.size B5.out rfl ?_) | (refine wpList_smsg rfl (.tmp 2) (.tmp 15) rfl (w.heap.size + 1) rfl Z V rfl G5.out ZS.out HV.out.size HV.out.one ?_; intro w6 b6 k6))
  have K6 : Kept [] w w6 := K5.out.trans k6 (fun i hi => Or.inr (by simp at hi; omega))
  have hl := run_loadVar_row (P := Try.prog) w6 (w.heap.size + 1) 57 57 _ (0, 0) _ b6 Try.underlying57 rfl (by rw [HV.out.size]; exact size_msg)
  refine bodyPost_ret (v := .agg V) (by simp [results, Try.results25, asAddr, hl, Act.put, Array.setIfInBounds]) rfl ⟨rfl, K6⟩
end Tg
end Go.Proofs.Ytjogpafbiackbaa
