/- StatOneForm returns true, whatever bytes come in; they stay as they are. It has no condition. -/
import Derived.Test.YteebiemfhicgbaaRows
import Derived.Test.YteebiemfhicgbaaOfm
import Derived.Deep.Slices
import Derived.WalkKit
import Derived.ProofKit
import Derived.OpenShut
import Derived.ShutString
namespace Go.Proofs.Yteebiemfhicgbaa.statOneForm
open Go.ChangeShapes Go.WideShapes Go.ChangeAt Go.RowKit Go.Deep
open Go.ChangeMaps (open_string shut_string)
set_option linter.unusedVariables false

theorem own : ownKnob Try.prog.godebug = none := by kernel_rfl
theorem laidOut : laidOutB Try.prog = true := by kernel_rfl
theorem k5 : Try.prog.cellsOf 5 = 1 := by kernel_rfl
/-- The number in a cell. -/
def numIn : Value → Nat
  | .int _ x => x.toNat
  | _ => 0
/-- A list of bytes that came in, opened. -/
theorem bytes {H : Type} {enc : TypeId × Value → H} {w : World} {spare : Nat → Bool} {held : Bool} {a1 : Option Addr} {len1 cap1 : Nat} {d : DataW H} {p : List MemPlace} (h : DataW.Trod enc Try.prog w 0 spare held 22 (.slice a1 len1 cap1) d p) :
    ∃ bs T, Src w (.slice a1 len1 cap1) bs T ∧ ∀ k ∈ T, k < w.heap.size := by
  obtain ⟨fuel, hf⟩ := h
  rcases open_slice1 Try.underlying22 k5 hf with ⟨hv, -⟩ | ⟨a, len, cap, m, n, V, D, Pl, hcs, hb, hl, hm, hmm, hx, hi⟩
  · have hv' : [Value.slice a1 len1 cap1] = [.slice none 0 0] := hv
    simp only [List.cons.injEq, Value.slice.injEq, and_true] at hv'
    obtain ⟨rfl, rfl, rfl⟩ := hv'
    exact ⟨[], [], ⟨none, 0, rfl, fun _ => ⟨rfl, rfl⟩, fun ad e => (by cases e)⟩, fun k hk => (by cases hk)⟩
  · have hcs' : [Value.slice a1 len1 cap1] = [.slice (some a) len cap] := hcs
    simp only [List.cons.injEq, Value.slice.injEq, and_true] at hcs'
    obtain ⟨rfl, rfl, rfl⟩ := hcs'
    have hlm : len1 ≤ m := by rw [hmm]; split <;> omega
    have hV : ∀ i, i < len1 → ∃ b : UInt8, V i = bv b ∧ UInt8.ofNat (numIn (V i)) = b := fun i hl => by
      obtain ⟨n0, e0, -, w0⟩ := DataW.trod_int Try.underlying5 (hi i (by omega)).2
      simp only [List.cons.injEq, and_true] at e0
      have hb := bounds_u8 w0
      obtain ⟨k, rfl⟩ : ∃ k : Nat, n0 = k := ⟨n0.toNat, by omega⟩
      refine ⟨UInt8.ofNat k, ?_, by rw [e0]; simp [numIn]⟩
      rw [e0]
      have e1 : (UInt8.ofNat k).toNat = k := by
        rw [UInt8.toNat_ofNat']
        exact Nat.mod_eq_of_lt (by omega)
      unfold bv
      rw [e1]
    refine ⟨(List.range len1).map (fun i => UInt8.ofNat (numIn (V i))), if 0 < len1 then [a.block] else [], ⟨some a, cap1, by simp, (fun e => by cases e), fun ad e => ?_⟩, fun k hk => ?_⟩
    · cases e
      refine ⟨fun hp => ?_, fun j u hu => ?_⟩
      · simp at hp
        rw [if_pos hp]
        simp
      · rw [List.map_map, List.getElem?_map] at hu
        by_cases hj : j < len1
        · rw [List.getElem?_range hj] at hu
          obtain ⟨b, e1, e2⟩ := hV j hj
          simp only [Option.map_some, Function.comp_apply, Option.some.injEq] at hu
          rw [← hu, e2, ← e1]
          exact (hi j (by omega)).1
        · rw [List.getElem?_eq_none (by simp; omega)] at hu
          cases hu
    · by_cases hp : 0 < len1
      · rw [if_pos hp] at hk
        simp at hk
        subst hk
        have hc := (hi 0 (by omega)).1
        have := World.block_lt_of_cell? w _ hc
        rwa [add_block] at this
      · rw [if_neg hp] at hk
        cases hk

set_option maxRecDepth 100000 in
theorem lifted (os : Os) (started : os.Started) (H : Type) (enc : TypeId × Value → H) :
    ReturnsInHanded {} Try.checked os 3 .any (Rows.statOneFormSpec.pre6 enc Try.prog Try.f3 Rows.statOneFormRow.domain false) (Rows.statOneFormSpec.post enc Try.prog Try.f3 false true false false) := by
  refine returnsInHanded_of_change (C := Try.checked) own started (by kernel_rfl) Try.func3
    (ChangeSpec.witness6 (enc := enc) (C := Try.checked) false ⟨#[], #[.slice none 0 0], []⟩ 8 (by kernel_rfl) (by kernel_rfl) (by kernel_rfl) (by kernel_rfl)) ?_
  intro W base args ds gs before hval0 hW hcnd _
  have hval : ∀ (j : Nat) t v, Try.f3.params[j]? = some t → args[j]? = some v → Value.okWide Try.prog W .any base t v := hval0
  have hW' := hW
  obtain ⟨p, q, hA0, hV, rfl, hfz, hnd⟩ := hW
  have hA : DataW.TrodAll enc Try.prog W 0 (fun _ => true) true Try.f3.params.toList args.toList ds p := hA0
  rw [Try.params3] at hA hval
  obtain ⟨v0, vs0, d0, ds0, p0, q0, hargs, rfl, rfl, h0, r0⟩ := trodAll_cons hA
  obtain ⟨rfl, rfl, rfl⟩ := trodAll_nil r0
  obtain rfl : args = #[v0] := by cases args; simp_all
  obtain ⟨rfl, rfl⟩ := trodVars_none hV
  have k0 := h0
  have lt0 : ∀ x ∈ p0, x.block < W.heap.size := by obtain ⟨m, hm⟩ := k0; exact DataW.trod_lt m _ _ _ hm
  obtain ⟨a1, len1, cap1, rfl⟩ := okWide_slice Try.underlying22 (hval 0 22 v0 rfl rfl)
  obtain ⟨bs, T, hs, hT⟩ := bytes h0
  clear hA0 hval0
  simp only [List.append_nil] at hW'
  refine (Stt.form_any W _ bs T hs hT).mono fun e W' ⟨he, hkept⟩ => ?_
  have bel : Below W.heap.size W W' := hkept.below (fun i hi => by simp at hi) (Nat.le_refl _)
  subst he
  exact ⟨_, rfl, _, _, _, [], _, [], hW', trodAll_mk1 (shut_bool Try.underlying4 _), (trodAll_cons_mk (Below.trod laidOut (by kernel_rfl) (of_decide_eq_true (by kernel_rfl)) k0 bel lt0) trodAll_mk0), rfl, bel.frame _, fun h => by cases h⟩

theorem over : Rows.statOneFormRow.holds Try.pinned (OpenSpec.ofChange Rows.statOneFormSpec) :=
  OpenClaim.holds_of_wide 3 Try.f3 rfl rfl rfl rfl rfl rfl rfl ⟨rfl, rfl, rfl, rfl, rfl⟩ rfl rfl rfl rfl rfl (by kernel_rfl) Try.func3 (by kernel_rfl)
    (of_decide_eq_true (by kernel_rfl)) (by unfold Func.isWrapper; first | (rw [if_pos (by decide +kernel)]; kernel_rfl) | (rw [if_neg (by decide +kernel)]; exact ⟨rfl, rfl⟩))
    (fun os started H enc _ => lifted os started H enc)

/-- ████ THE STATEMENT ████ -/
theorem proved : Rows.StatOneFormSaid :=
  over
#print axioms proved
end Go.Proofs.Yteebiemfhicgbaa.statOneForm
