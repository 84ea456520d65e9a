/- A list of texts that came in, opened. -/
import Derived.Test.YtjdhgeikbkjnoaaDoorUmt
import Derived.Test.YtjdhgeikbkjnoaaDoorLdn
import Derived.WalkKit
import Derived.ProofKit
import Derived.OpenShut
import Derived.Deep.Strs
import Derived.SizedLaws
import Derived.ShutString
namespace Go.Proofs.YtjdhgeikbkjnoaaDoor.Nm
open Go.ChangeShapes Go.WideShapes Go.ChangeAt Go.RowKit Go.Deep
open Go.ChangeMaps (open_string shut_string)
open Go.Proofs.YtjdhgeikbkjnoaaDoor.Utf Go.Proofs.YtjdhgeikbkjnoaaDoor.Txt Go.PlainAid
set_option linter.unusedVariables false

theorem laidOut : laidOutB Tryd.prog = true := by kernel_rfl
theorem kS : Tryd.prog.cellsOf 9 = 1 := by kernel_rfl
theorem bS : Tryd.prog.bytesOf 9 = 16 := by kernel_rfl
theorem weights_all {H : Type} {e : TypeId} : ∀ {elems : List (DataW H)} {d : DataW H}, d ∈ elems → ∀ x ∈ d.weights Tryd.prog e, x ∈ DataW.weightsAll Tryd.prog e elems
  | [], d, h, x, hx => by cases h
  | a :: r, d, h, x, hx => by
    rcases List.mem_cons.1 h with rfl | h
    · simp only [DataW.weightsAll, List.mem_append]; exact Or.inl hx
    · simp only [DataW.weightsAll, List.mem_append]; exact Or.inr (weights_all h x hx)
theorem strs {H : Type} {enc : TypeId × Value → H} {w : World} {spare : Nat → Bool} {held : Bool} {a1 : Option Addr} {len1 cap1 : Nat} {d : DataW H} {p : List MemPlace} (h : DataW.Trod enc Tryd.prog w 0 spare held 26 (.slice a1 len1 cap1) d p)
    (hw : ∀ x ∈ d.weights Tryd.prog 26, x ≤ 140737488355328) : ∃ xs : List ByteArray, xs.length = len1 ∧ len1 ≤ 140737488355328 ∧ (∀ x ∈ xs, x.size ≤ 140737488355328) ∧ Lst w (.slice a1 len1 cap1) xs := by
  obtain ⟨fuel, hf⟩ := h
  rcases open_strs Tryd.underlying26 Tryd.underlying9 kS hf with ⟨hv, -⟩ | ⟨a, len, cap, m, Sx, hcs, hb, hl, hm, hmm, hx, hi⟩
  · have hv' : [Value.slice a1 len1 cap1] = [.slice none 0 0] := hv
    simp only [List.cons.injEq, Value.slice.injEq, and_true] at hv'
    obtain ⟨rfl, rfl, rfl⟩ := hv'
    exact ⟨[], rfl, by omega, (fun x hx => by cases hx), none, 0, rfl, Nat.le_refl _, Or.inl rfl⟩
  · have hcs' : [Value.slice a1 len1 cap1] = [.slice (some a) len cap] := hcs
    simp only [List.cons.injEq, Value.slice.injEq, and_true] at hcs'
    obtain ⟨rfl, rfl, rfl⟩ := hcs'
    have hlm : len1 ≤ m := by rw [hmm]; split <;> omega
    simp only [Prod.mk.injEq] at hx
    obtain ⟨hd, -⟩ := hx
    have hweigh : ∃ (L : Nat) (T : List Nat), len1 ≤ L ∧ d.weights Tryd.prog 26 = L * Tryd.prog.bytesOf 9 :: (DataW.weightsAll Tryd.prog 9 ((List.range len1).map fun i => (.lit (.string (Sx i).data.toList) : DataW H)) ++ T) := by
      refine ⟨((List.range len1).map fun i => (.lit (.string (Sx i).data.toList) : DataW H)).length + ((List.range (m - len1)).map fun j => (.lit (.string (Sx (len1 + j)).data.toList) : DataW H)).length, DataW.weightsAll Tryd.prog 9 ((List.range (m - len1)).map fun j => (.lit (.string (Sx (len1 + j)).data.toList) : DataW H)), by simp, ?_⟩
      rw [hd]
      simp only [DataW.weights, Tryd.underlying26]
    obtain ⟨L, T, hLl, hweigh⟩ := hweigh
    have hlen : len1 ≤ 140737488355328 := by
      have h1 := hw (L * Tryd.prog.bytesOf 9) (by rw [hweigh]; exact List.mem_cons_self)
      rw [bS] at h1
      omega
    have hS : ∀ i, i < len1 → (Sx i).size ≤ 140737488355328 := fun i hil => by
      have e : (Sx i).size = (Sx i).data.toList.length := (Array.length_toList).symm
      rw [e]
      refine hw _ ?_
      rw [hweigh]
      refine List.mem_cons_of_mem _ (List.mem_append_left _ (weights_all (d := (.lit (.string (Sx i).data.toList) : DataW H)) (List.mem_map.2 ⟨i, List.mem_range.2 hil, rfl⟩) _ ?_))
      simp [DataW.weights]
    refine ⟨(List.range len1).map Sx, by simp, hlen, fun x hx => ?_, some a, cap1, by simp, by simpa using hl, ?_⟩
    · obtain ⟨i, hi2, rfl⟩ := List.mem_map.1 hx
      exact hS i (List.mem_range.1 hi2)
    · by_cases h0 : len1 = 0
      · left; rw [h0]; rfl
      · right
        have c0 := (hi 0 (by omega)).1
        obtain ⟨b, o, rfl⟩ : ∃ b o, a = ⟨b, o, none⟩ := by
          obtain ⟨b, o, q⟩ := a
          have hsq : q = none := by simpa [Addr.add] using World.cell?_spot c0
          subst hsq
          exact ⟨b, o, rfl⟩
        refine ⟨b, o, rfl, World.block_lt_of_cell? w _ c0, fun j x hx => ?_⟩
        rw [List.getElem?_map] at hx
        by_cases hjl : j < len1
        · rw [List.getElem?_range hjl] at hx
          simp only [Option.map_some, Option.some.injEq] at hx
          subst hx
          have := (hi j (by omega)).1
          rwa [Addr.add_lit] at this
        · rw [List.getElem?_eq_none (by simp; omega)] at hx
          cases hx
end Go.Proofs.YtjdhgeikbkjnoaaDoor.Nm
