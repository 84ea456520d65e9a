/- A list of whole numbers that came in, opened. -/
import Derived.Test.YtjdhgeikbkjnoaaDoorLdt
import Derived.Test.YtjdhgeikbkjnoaaDoorLdn
import Derived.WalkKit
import Derived.ProofKit
import Derived.OpenShut
import Derived.Deep.Slices
import Derived.SizedLaws
namespace Go.Proofs.YtjdhgeikbkjnoaaDoor.Nm
open Go.ChangeShapes Go.WideShapes Go.ChangeAt Go.RowKit Go.Deep
set_option linter.unusedVariables false

theorem laidOutI : laidOutB Tryd.prog = true := by kernel_rfl
theorem kI : Tryd.prog.cellsOf 3 = 1 := by kernel_rfl
theorem bI : Tryd.prog.bytesOf 3 = 8 := by kernel_rfl
def numIn : Value → Int
  | .int _ x => x
  | _ => 0
theorem intsZ {H : Type} {enc : TypeId × Value → H} {w : World} {spare : Nat → Bool} {held : Bool} {a1 : Option Addr} {len1 cap1 : Nat} {d : DataW H} {p : List MemPlace} (h : DataW.Trod enc Tryd.prog w 0 spare held 35 (.slice a1 len1 cap1) d p)
    (hw : ∀ x ∈ d.weights Tryd.prog 35, x ≤ 140737488355328) : ∃ xs : List Int, xs.length = len1 ∧ len1 ≤ 140737488355328 ∧ (∀ x ∈ xs, -9223372036854775808 ≤ x ∧ x ≤ 9223372036854775807) ∧ LsZ w (.slice a1 len1 cap1) xs := by
  obtain ⟨fuel, hf⟩ := h
  rcases open_slice1 Tryd.underlying35 kI hf with ⟨hv, -⟩ | ⟨a, len, cap, m, n, V, D, Pl, hcs, hb, hl, hm, hmm, hx, hi⟩
  · have hv' : [Value.slice a1 len1 cap1] = [.slice none 0 0] := hv
    simp only [List.cons.injEq, Value.slice.injEq, and_true] at hv'
    obtain ⟨rfl, rfl, rfl⟩ := hv'
    exact ⟨[], rfl, by omega, (fun x hx => by cases hx), none, 0, rfl, Nat.le_refl _, Or.inl rfl⟩
  · have hcs' : [Value.slice a1 len1 cap1] = [.slice (some a) len cap] := hcs
    simp only [List.cons.injEq, Value.slice.injEq, and_true] at hcs'
    obtain ⟨rfl, rfl, rfl⟩ := hcs'
    have hlm : len1 ≤ m := by rw [hmm]; split <;> omega
    simp only [Prod.mk.injEq] at hx
    obtain ⟨hd, -⟩ := hx
    have hlen : len1 ≤ 140737488355328 := by
      have h1 := hw ((((List.range len1).map D).length + ((List.range (m - len1)).map fun j => D (len1 + j)).length) * Tryd.prog.bytesOf 3) (by
        rw [hd]
        simp only [DataW.weights, Tryd.underlying35]
        exact List.mem_cons_self)
      rw [List.length_map, List.length_range, bI] at h1
      omega
    have hV : ∀ i, i < len1 → V i = .int .i64 (numIn (V i)) ∧ -9223372036854775808 ≤ numIn (V i) ∧ numIn (V i) ≤ 9223372036854775807 := fun i hl => by
      obtain ⟨n0, e0, -, w0⟩ := DataW.trod_int Tryd.underlying3 (hi i (by omega)).2
      simp only [List.cons.injEq, and_true] at e0
      rw [e0]
      have h2 : -9223372036854775808 ≤ n0 ∧ n0 ≤ 9223372036854775807 := by simpa [Lit.wf, IntKind.min, IntKind.max, IntKind.signed, IntKind.bits] using w0
      exact ⟨rfl, h2.1, h2.2⟩
    refine ⟨(List.range len1).map (fun i => numIn (V i)), by simp, hlen, fun x hx => ?_, some a, cap1, by simp, by simpa using hl, ?_⟩
    · obtain ⟨i, hi2, rfl⟩ := List.mem_map.1 hx
      exact (hV i (List.mem_range.1 hi2)).2
    · by_cases h0 : len1 = 0
      · left; rw [h0]; rfl
      · right
        have c0 := (hi 0 (by omega)).1
        obtain ⟨b, o, rfl⟩ : ∃ b o, a = ⟨b, o, none⟩ := by
          obtain ⟨b, o, q⟩ := a
          have hsq : q = none := by simpa [Addr.add] using World.cell?_spot c0
          subst hsq
          exact ⟨b, o, rfl⟩
        refine ⟨b, o, rfl, World.block_lt_of_cell? w _ c0, fun j x hx => ?_⟩
        rw [List.getElem?_map] at hx
        by_cases hjl : j < len1
        · rw [List.getElem?_range hjl] at hx
          simp only [Option.map_some, Option.some.injEq] at hx
          subst hx
          have := (hi j (by omega)).1
          rw [Addr.add_lit, (hV j hjl).1] at this
          exact this
        · rw [List.getElem?_eq_none (by simp; omega)] at hx
          cases hx
end Go.Proofs.YtjdhgeikbkjnoaaDoor.Nm
