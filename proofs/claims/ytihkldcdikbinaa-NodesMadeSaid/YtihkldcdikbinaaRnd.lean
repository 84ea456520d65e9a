/- The reference's Node of the root; ofConfig. -/
import Derived.Test.YtihkldcdikbinaaRok
import Derived.Deep.MidRow
namespace Go.Proofs.Ytihkldcdikbinaa
set_option linter.unusedVariables false
open Go.RowKit
namespace Nd
open Go.Proofs.Ytihkldcdikbinaa.Utf Go.Proofs.Ytihkldcdikbinaa.Txt Go.PlainAid Go.Proofs.Ytihkldcdikbinaa.Mpf
theorem rat_one (w : World) (r en : Nat) (n : Int) (d : Is) (h : RSt w r en n d) (hd : d.path = 1) :
    Calls Try.prog 40 #[.pointer (some ⟨r, 0, none⟩), .int .u64 1] w fun e w' => e = .returned (.int .i64 0) ∧ Kept [] w w' := by
  have c2 := h.st.cell 2 (v := .slice (some ⟨en, 0, none⟩) 1 1) rfl
  have e0 : w.cell? ⟨en, 0, none⟩ = some (.int .u64 1) := by
    have h := h.en.cell 0 (v := .int .u64 d.path) rfl
    rw [hd] at h
    exact h
  have R0 := Lib.hid h
  clear h
  go_enter Try.func40, Try.ntmps40
  go_wp2_with fail
  go_loopw [5] (fun iv wr => iv = .int .i64 0 ∧ Hid (RSt wr r en n d ∧ Kept [] w wr)) (fun iv _ => 0)
  case atStart => exact ⟨rfl, R0.out, Kept.refl _ _⟩
  case round =>
    obtain ⟨rfl, hL⟩ := hrel
    have c2 := hL.out.1.st.cell 2 (v := .slice (some ⟨en, 0, none⟩) 1 1) rfl
    have e0 : wr.cell? ⟨en, 0, none⟩ = some (.int .u64 1) := by
      have h := hL.out.1.en.cell 0 (v := .int .u64 d.path) rfl
      rw [hd] at h
      exact h
    go_wp2_with fail
    go_ret
    exact ⟨rfl, hL.out.2⟩
theorem rNode_one (w : World) (r en : Nat) (n : Int) (d : Is) (h : RSt w r en n d) (hd : d.path = 1) :
    Calls Try.prog 16 #[.pointer (some ⟨r, 0, none⟩), .int .u64 1] w fun e w' => e = .returned (.tuple #[.agg (isL d 0).toArray, .bool true]) ∧ Kept [] w w' := by
  have B0 : Hid (Bx (w.alloc (.cells (isL zeroIs 0).toArray 41)) w.heap.size 41 (isL zeroIs 0).toArray) := Bx.made _ _ _
  have R0 : Hid (RSt (w.alloc (.cells (isL zeroIs 0).toArray 41)) r en n d) := ⟨Bx.alloc h.st _, Bx.alloc h.en _⟩
  have AT := Lib.hid (rat_one _ r en n d R0.out hd)
  simp only [isL, zeroIs] at AT
  obtain ⟨V, hV⟩ : ∃ V, V = isL d 0 := ⟨_, rfl⟩
  have V1 : Hid (V.length = 13 ∧ V.toArray.all (·.oneCell') = true) := by rw [hV]; exact ⟨rfl, isL_one d 0⟩
  have RV : Hid (∀ W, RSt W r en n d → W.rangeAt en 0 V) := fun W h j v hv => by
    rw [hV] at hv
    rw [Nat.zero_add]
    refine h.en.cell j ?_
    have hj : j < (isL d 0).length := (List.getElem?_eq_some_iff.1 hv).1
    rw [List.getElem?_toArray, List.getElem?_append_left hj]
    exact hv
  rw [← hV]
  clear hV h
  go_enter Try.func16, Try.ntmps16
  go_wp2_with (first | (go_at_call 40; refine AT.out.mono ?_; rintro e w1 ⟨rfl, k1⟩; have B1 : Hid (Bx w1 w.heap.size 41 (isL zeroIs 0).toArray) := B0.out.kept k1 (by simp); have R1 := Lib.hid (R0.out.kept k1); have c2 := R1.out.st.cell 2 (v := .slice (some ⟨en, 0, none⟩) 1 1) rfl; have K1 := Lib.hid (((Kept.refl [] w).alloc _).trans k1 (fun i hi => by cases hi))) | (refine wpList_load_mid rfl 41 _ rfl en 0 rfl V _ (RV.out _ R1.out) Try.underlying41 rfl (by rw [V1.out.1]; exact size_node) ?_) | (refine wpList_store_row rfl 41 _ _ rfl w.heap.size rfl 41 _ V.toArray rfl B1.out (by rw [show V.toArray.size = 13 from V1.out.1]; exact size_node) (by rw [show V.toArray.size = 13 from V1.out.1]; rfl) V1.out.2 ?_; intro w3 hB3 k3))
  have hl := run_loadVar_row (P := Try.prog) _ w.heap.size 41 41 V.toArray (0, 0) _ hB3 Try.underlying41 rfl (by rw [show V.toArray.size = 13 from V1.out.1]; exact size_node)
  refine ⟨rfl, .tuple #[.agg V.toArray, .bool true], by simp [results, Try.results16, asAddr, hl], rfl, ?_⟩
  exact K1.out.trans k3 (fun i hi => by rw [List.mem_singleton] at hi; subst hi; exact Or.inr (Nat.le_refl _))
theorem ofConfig_any (w : World) (V : Array Value) (us ow gr : ByteArray) (v0 : V[0]? = some (.string us)) (v1 : V[1]? = some (.string ow)) (v2 : V[2]? = some (.string gr)) (hs0 : us.size ≤ 140737488355328) (hs1 : ow.size ≤ 140737488355328) (hs2 : gr.size ≤ 140737488355328) (z : Int) (hz : z = 100 + us.size + ow.size + gr.size) :
    Calls Try.prog 12 #[.agg V] w fun e w' => e = .returned (.int .i64 z) ∧ Kept [] w w' := by
  have B0 : Hid (Bx (w.alloc (.cells V 32)) w.heap.size 32 V) := Bx.made _ _ _
  have c0 := B0.out.cell 0 v0
  have c1 := B0.out.cell 1 v1
  have c2 := B0.out.cell 2 v2
  have hz' := Lib.hid hz
  clear hz v0 v1 v2
  go_enter Try.func12, Try.ntmps12
  go_wp2_with fail
  go_ret
  refine ⟨?_, (Kept.refl [] w).alloc _⟩
  rw [hz'.out]
  rfl
end Nd
end Go.Proofs.Ytihkldcdikbinaa
