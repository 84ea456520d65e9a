/- WireWrites returns true for every list of limits and every script, where what comes in is of bulk at most 1,048,576; the arguments read behind the call as before. Condition: that bound alone. -/
import Derived.Test.YtfdbpbhihccgbaaRows
import Derived.Test.YtfdbpbhihccgbaaOpn
import Derived.Test.YtfdbpbhihccgbaaWww
import Derived.JoinedCond
import Derived.WalkKit
import Derived.ProofKit
import Derived.OpenShut
import Derived.ShutString
import Derived.ChangeOld
import Derived.Below
import Derived.Lib.SmallJoins
namespace Go.Proofs.Ytfdbpbhihccgbaa.wireWrites
open Go.Joins Go.ChangeShapes Go.WideShapes Go.ChangeAt Go.RowKit
open Go.ChangeMaps (open_string shut_string)
set_option linter.unusedVariables false

theorem own : ownKnob Try.prog.godebug = none := by kernel_rfl
theorem laidOut : laidOutB Try.prog = true := by kernel_rfl

section
variable {H : Type} {enc : TypeId × Value → H} {w : World}
theorem nums_of {n : Nat} {v : Value} {y : DataW H × List MemPlace} (h : DataW.trod enc Try.prog w 0 (fun _ => true) true n 22 [v] = some y) (hk : Rows.uptoBulk y.1 ≤ 1048576) : ∃ (a : Option Addr) (cap b off : Nat) (ls : List Int), v = .slice a ls.length cap ∧ Lms w a cap b off ls (List.range w.heap.size) := by
  rcases open_ints Try.underlying22 Try.underlying3 (by kernel_rfl) h with ⟨hc4, _⟩ | ⟨ad, l4, cp, zs, hc4, _, hl4, hm4, hz4, hx4, hcell4, hwf4⟩
  · simp only [List.cons.injEq, and_true] at hc4
    subst hc4
    exact ⟨none, 0, 0, 0, [], rfl, by simp, fun h => (by simp at h), fun i hi => List.mem_range.1 hi, fun i hi => (by simp at hi)⟩
  · simp only [List.cons.injEq, and_true] at hc4
    subst hc4
    have hz : zs.length = cp := by simpa using hz4
    have hbl : (zs.take l4).length = l4 := by simp; omega
    have hl5 : l4 ≤ 1048576 := by
      rw [hx4] at hk
      simp only [Rows.uptoBulk] at hk
      have h2 := Opn.length_le (H := H) (lits .i64 (zs.take l4))
      have h3 : (lits (H := H) .i64 (zs.take l4)).length = l4 := by
        unfold lits
        simp
        omega
      omega
    by_cases hp : 0 < l4
    · obtain ⟨b, o, rfl⟩ := Opn.plain_at (hcell4 0 (by omega))
      refine ⟨_, cp, b, o, zs.take l4, by rw [hbl], by rw [hbl]; exact hl5, fun _ => ⟨rfl, by rw [hbl]; exact hl4⟩, fun i hi => List.mem_range.1 hi, fun i hi => ?_⟩
      rw [hbl] at hi
      have hjz : i < zs.length := by omega
      have hc := hcell4 i hjz
      have hget : zs.getD i 0 = zs[i] := by rw [List.getD_eq_getElem?_getD, List.getElem?_eq_getElem hjz]; rfl
      have hb := bounds_i64 (hwf4 _ (List.getElem_mem hjz))
      rw [Addr.add_lit, hget] at hc
      have e : (zs.take l4)[i]'(by rw [hbl]; exact hi) = zs[i] := by simp
      rw [e]
      refine ⟨List.mem_range.2 (by have := World.block_lt_of_cell? w _ hc; exact this), hc, hb⟩
    · refine ⟨some ad, cp, 0, 0, [], by simp; omega, by simp, fun h => (by simp at h), fun i hi => List.mem_range.1 hi, fun i hi => (by simp at hi)⟩
end

/-! ### The row -/
set_option maxRecDepth 100000 in
theorem contract (H : Type) (enc : TypeId × Value → H) (W : World) (base : Nat) (args : Array Value) (ds gs : List (DataW H)) (before : List MemPlace)
    (hval0 : ∀ (j : Nat) t v, Try.f3.params[j]? = some t → args[j]? = some v → Value.okWide Try.prog W .any base t v)
    (hW : DataW.Whole enc Try.prog Try.f3.params.toList Rows.wireWritesSpec.vars false W args.toList ds gs before) (hk : Rows.uptoSmall H (ds ++ gs) = true) :
    Calls Try.prog 3 args W fun e W' => ∃ v, e = .returned v ∧ Rows.wireWritesSpec.post enc Try.prog Try.f3 false true false false W args v W' := by
  have hval := hval0
  have hW' := hW
  have hbulk : Rows.uptoBulkAll (ds ++ gs) ≤ 1048576 := of_decide_eq_true hk
  obtain ⟨p, q, hA0, hV, rfl, hfz, hnd⟩ := hW
  have hA : DataW.TrodAll enc Try.prog W 0 (fun _ => true) true Try.f3.params.toList args.toList ds p := hA0
  rw [Try.params3] at hA hval
  obtain ⟨v0, vs0, d0, ds0, p0, q0, hargs, rfl, rfl, h0, r0⟩ := trodAll_cons hA
  obtain ⟨v1, vs1, d1, ds1, p1, q1, rfl, rfl, rfl, h1, r1⟩ := trodAll_cons r0
  obtain ⟨rfl, rfl, rfl⟩ := trodAll_nil r1
  obtain rfl : args = #[v0, v1] := by cases args; simp_all
  obtain ⟨rfl, rfl⟩ := trodVars_none hV
  simp only [List.append_nil, Rows.uptoBulkAll] at hbulk
  have k0 := h0
  have k1 := h1
  have lt0 : ∀ x ∈ p0, x.block < W.heap.size := by obtain ⟨m, hm⟩ := k0; exact DataW.trod_lt m _ _ _ hm
  have lt1 : ∀ x ∈ p1, x.block < W.heap.size := by obtain ⟨m, hm⟩ := k1; exact DataW.trod_lt m _ _ _ hm
  obtain ⟨a0, len0, cap0, rfl⟩ := okWide_slice Try.underlying22 (hval 0 22 v0 rfl rfl)
  obtain ⟨a1, len1, cap1, rfl⟩ := okWide_slice Try.underlying23 (hval 1 23 v1 rfl rfl)
  obtain ⟨f0, t0⟩ := h0
  obtain ⟨f1, t1⟩ := h1
  have t0' : DataW.trod enc Try.prog W 0 (fun _ => true) true f0 22 [.slice a0 len0 cap0] = some (d0, p0) := t0
  have t1' : DataW.trod enc Try.prog W 0 (fun _ => true) true f1 23 [.slice a1 len1 cap1] = some (d1, p1) := t1
  obtain ⟨A0, C0, B0, O0, l0, e0, i0⟩ := nums_of t0' (by show Rows.uptoBulk d0 ≤ _; omega)
  obtain ⟨A1, C1, B1, O1, l1, s1, e1, i1⟩ := Opn.shape t1' (by show Rows.uptoBulk d1 ≤ _; omega)
  simp only [List.cons.injEq, and_true, Value.slice.injEq] at e1
  simp only [Value.slice.injEq] at e0
  obtain ⟨rfl, rfl, rfl⟩ := e0
  obtain ⟨rfl, rfl, rfl⟩ := e1
  clear hA0 hval0
  refine (Wws.walk W a0 a1 cap0 cap1 B0 O0 B1 O1 l0 l1 s1 _ _ i0 i1).mono fun e W' ⟨he, hkept⟩ => ?_
  have bel : Below W.heap.size W W' := hkept.below (fun i hi => by simp at hi) (Nat.le_refl _)
  subst he
  exact ⟨_, rfl, _, _, _, [], _, [], hW', trodAll_mk1 (shut_bool Try.underlying4 _), (trodAll_cons_mk (Below.trod laidOut (by kernel_rfl) (of_decide_eq_true (by kernel_rfl)) k0 bel lt0) (trodAll_cons_mk (Below.trod laidOut (by kernel_rfl) (of_decide_eq_true (by kernel_rfl)) k1 bel lt1) trodAll_mk0)), rfl, bel.frame _, fun h => by cases h⟩

set_option maxRecDepth 100000 in
theorem lifted (os : Os) (started : os.Started) (H : Type) (enc : TypeId × Value → H) (F : Stop.Interp) :
    ReturnsInHanded {} Try.checked os 3 .any ((Rows.OpenSpec.upto Rows.wireWritesSpec).pre6 enc Try.prog Try.f3 Rows.wireWritesUptoRow.domain false) (((Rows.OpenSpec.upto Rows.wireWritesSpec).at F).post enc Try.prog Try.f3 false true false false) := by
  refine returnsInHanded_of_cond (C := Try.checked) (s := Rows.OpenSpec.upto Rows.wireWritesSpec) (k := Rows.uptoSmall) rfl own started (by kernel_rfl) Try.func3
    (OpenSpec.witness (enc := enc) (C := Try.checked) (s := Rows.OpenSpec.upto Rows.wireWritesSpec) (k := Rows.uptoSmall) rfl false ⟨#[], #[.slice none 0 0, .slice none 0 0], []⟩ 8 (by kernel_rfl) (by kernel_rfl) (by kernel_rfl) (by kernel_rfl)
      (x := ([.nil, .nil], [], [])) (by kernel_rfl) rfl (by kernel_rfl)) ?_
  intro W base args ds gs before hval hW _ hk _
  exact contract H enc W base args ds gs before hval hW hk

theorem proved : Rows.WireWritesUptoSaid :=
  OpenClaim.holds_of_cond 3 Try.f3 rfl rfl rfl rfl rfl rfl rfl ⟨rfl, rfl, rfl, rfl, rfl⟩ rfl rfl rfl rfl rfl (by kernel_rfl) Try.func3 (by kernel_rfl)
    (of_decide_eq_true (by kernel_rfl)) (by unfold Func.isWrapper; first | (rw [if_pos (by decide +kernel)]; kernel_rfl) | (rw [if_neg (by decide +kernel)]; exact ⟨rfl, rfl⟩))
    (fun os started H enc _ F => lifted os started H enc F)
#print axioms proved
end Go.Proofs.Ytfdbpbhihccgbaa.wireWrites
