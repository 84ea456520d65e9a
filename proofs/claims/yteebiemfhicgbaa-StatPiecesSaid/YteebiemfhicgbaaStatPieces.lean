/- StatPieces returns true, whatever records and sizes come in; they stay as they are. It has no condition. -/
import Derived.Test.YteebiemfhicgbaaRows
import Derived.Test.YteebiemfhicgbaaPie
import Derived.Test.YteebiemfhicgbaaOpl
import Derived.WalkKit
import Derived.ProofKit
import Derived.OpenShut
import Derived.ShutString
import Derived.SizedLaws
namespace Go.Proofs.Yteebiemfhicgbaa.statPieces
open Go.ChangeShapes Go.WideShapes Go.ChangeAt Go.RowKit Go.Deep
open Go.ChangeMaps (open_string shut_string)
set_option linter.unusedVariables false

theorem own : ownKnob Try.prog.godebug = none := by kernel_rfl
theorem k3 : Try.prog.cellsOf 3 = 1 := by kernel_rfl
theorem b3 : Try.prog.bytesOf 3 = 8 := by kernel_rfl
def numIn : Value → Int
  | .int _ x => x
  | _ => 0
/-- A list of numbers that came in, opened. -/
theorem ints {H : Type} {enc : TypeId × Value → H} {w : World} {spare : Nat → Bool} {held : Bool} {a1 : Option Addr} {len1 cap1 : Nat} {d : DataW H} {p : List MemPlace} (h : DataW.Trod enc Try.prog w 0 spare held 40 (.slice a1 len1 cap1) d p)
    (hw : ∀ x ∈ d.weights Try.prog 40, x ≤ 140737488355328) : ∃ (xs : List Int) (T : List Nat), xs.length ≤ 140737488355328 ∧ InInts w (.slice a1 len1 cap1) xs T := by
  obtain ⟨fuel, hf⟩ := h
  rcases open_slice1 Try.underlying40 k3 hf with ⟨hv, -⟩ | ⟨a, len, cap, m, n, V, D, Pl, hcs, hb, hl, hm, hmm, hx, hi⟩
  · have hv' : [Value.slice a1 len1 cap1] = [.slice none 0 0] := hv
    simp only [List.cons.injEq, Value.slice.injEq, and_true] at hv'
    obtain ⟨rfl, rfl, rfl⟩ := hv'
    exact ⟨[], [], by simp, none, 0, rfl, fun h => by cases h⟩
  · have hcs' : [Value.slice a1 len1 cap1] = [.slice (some a) len cap] := hcs
    simp only [List.cons.injEq, Value.slice.injEq, and_true] at hcs'
    obtain ⟨rfl, rfl, rfl⟩ := hcs'
    have hlm : len1 ≤ m := by rw [hmm]; split <;> omega
    simp only [Prod.mk.injEq] at hx
    obtain ⟨hd, -⟩ := hx
    have hlen : len1 ≤ 140737488355328 := by
      have h1 := hw ((((List.range len1).map D).length + ((List.range (m - len1)).map fun j => D (len1 + j)).length) * Try.prog.bytesOf 3) (by
        rw [hd]
        simp only [DataW.weights, Try.underlying40]
        exact List.mem_cons_self)
      rw [List.length_map, List.length_range, b3] at h1
      omega
    have hV : ∀ i, i < len1 → V i = .int .i64 (numIn (V i)) := fun i hl => by
      obtain ⟨n0, e0, -, w0⟩ := DataW.trod_int Try.underlying3 (hi i (by omega)).2
      simp only [List.cons.injEq, and_true] at e0
      rw [e0]
      rfl
    refine ⟨(List.range len1).map (fun i => numIn (V i)), [a.block], by simpa using hlen, some a, cap1, by simp, fun hp => ?_⟩
    simp at hp
    have h0 := (hi 0 (by omega)).1
    obtain ⟨b, o, rfl⟩ : ∃ b o, a = ⟨b, o, none⟩ := by
      obtain ⟨b, o, q⟩ := a
      have hsq : q = none := by simpa [Addr.add] using World.cell?_spot h0
      subst hsq
      exact ⟨b, o, rfl⟩
    refine ⟨b, o, rfl, by simp, fun i x hx => ?_⟩
    rw [List.getElem?_map] at hx
    by_cases hil : i < len1
    · rw [List.getElem?_range hil] at hx
      simp only [Option.map_some, Option.some.injEq] at hx
      subst hx
      have := (hi i (by omega)).1
      rw [Addr.add_lit, hV i hil] at this
      exact this
    · rw [List.getElem?_eq_none (by simp; omega)] at hx
      cases hx

set_option maxRecDepth 100000 in
theorem lifted (os : Os) (started : os.Started) (H : Type) (enc : TypeId × Value → H) :
    ReturnsInHanded {} Try.checked os 4 .any (Rows.statPiecesSpec.pre6 enc Try.prog Try.f4 Rows.statPiecesRow.domain false) (Rows.statPiecesSpec.post enc Try.prog Try.f4 false true false false) := by
  refine returnsInHanded_of_change_sized (C := Try.checked) own started (by kernel_rfl) Try.func4
    (ChangeSpec.witness6 (enc := enc) (C := Try.checked) false ⟨#[], #[.slice none 0 0, .slice none 0 0], []⟩ 8 (by kernel_rfl) (by kernel_rfl) (by kernel_rfl) (by kernel_rfl)) ?_
  intro W base args ds gs before hval0 hW hcnd hsz0 _
  have hval : ∀ (j : Nat) t v, Try.f4.params[j]? = some t → args[j]? = some v → Value.okWide Try.prog W .any base t v := hval0
  have hW' := hW
  have hsz : (DataW.weightsEach Try.prog (Try.f4.params.toList ++ Rows.statPiecesSpec.plain.varTypes Try.prog) (ds ++ gs)).all (· ≤ reachBytes) = true := hsz0
  obtain ⟨p, q, hA0, hV, rfl, hfz, hnd⟩ := hW
  have hA : DataW.TrodAll enc Try.prog W 0 (fun _ => true) true Try.f4.params.toList args.toList ds p := hA0
  rw [Try.params4] at hA hval hsz
  obtain ⟨v0, vs0, d0, ds0, p0, q0, hargs, rfl, rfl, h0, r0⟩ := trodAll_cons hA
  obtain ⟨v1, vs1, d1, ds1, p1, q1, rfl, rfl, rfl, h1, r1⟩ := trodAll_cons r0
  obtain ⟨rfl, rfl, rfl⟩ := trodAll_nil r1
  obtain rfl : args = #[v0, v1] := by cases args; simp_all
  obtain ⟨rfl, rfl⟩ := trodVars_none hV
  have k0 := h0
  have k1 := h1
  have lt0 : ∀ x ∈ p0, x.block < W.heap.size := by obtain ⟨m, hm⟩ := k0; exact DataW.trod_lt m _ _ _ hm
  have lt1 : ∀ x ∈ p1, x.block < W.heap.size := by obtain ⟨m, hm⟩ := k1; exact DataW.trod_lt m _ _ _ hm
  obtain ⟨a0, len0, cap0, rfl⟩ := okWide_slice Try.underlying36 (hval 0 36 v0 rfl rfl)
  obtain ⟨a1, len1, cap1, rfl⟩ := okWide_slice Try.underlying40 (hval 1 40 v1 rfl rfl)
  have hw0 : ∀ x ∈ d0.weights Try.prog 36, x ≤ 140737488355328 := fun x hx => by
    have h := List.all_eq_true.1 hsz x (DataW.weights_mem_each (j := 0) (t := 36) (d := d0) rfl rfl x hx)
    have h2 : x ≤ reachBytes := by simpa using h
    have h3 := reachBytes_lt
    omega
  have hw1 : ∀ x ∈ d1.weights Try.prog 40, x ≤ 140737488355328 := fun x hx => by
    have h := List.all_eq_true.1 hsz x (DataW.weights_mem_each (j := 1) (t := 40) (d := d1) rfl rfl x hx)
    have h2 : x ≤ reachBytes := by simpa using h
    have h3 := reachBytes_lt
    omega
  obtain ⟨l, T1, hl, ho, hr⟩ := Ope.rows h0 hw0
  obtain ⟨xs, T2, hx, hi⟩ := ints h1 hw1
  clear hA0 hval0
  simp only [List.append_nil] at hW'
  refine (Stt.pieces_any W _ _ l xs T1 T2 hl hx ho hr hi).mono fun e W' ⟨he, hkept⟩ => ?_
  have bel : Below W.heap.size W W' := hkept.below (fun i hi => by simp at hi) (Nat.le_refl _)
  subst he
  exact ⟨_, rfl, _, _, _, [], _, [], hW', trodAll_mk1 (shut_bool Try.underlying4 _), (trodAll_cons_mk (Below.trod Ope.laidOut (by kernel_rfl) (of_decide_eq_true (by kernel_rfl)) k0 bel lt0) (trodAll_cons_mk (Below.trod Ope.laidOut (by kernel_rfl) (of_decide_eq_true (by kernel_rfl)) k1 bel lt1) trodAll_mk0)), rfl, bel.frame _, fun h => by cases h⟩

theorem over : Rows.statPiecesRow.holds Try.pinned (OpenSpec.ofChange Rows.statPiecesSpec) :=
  OpenClaim.holds_of_wide 4 Try.f4 rfl rfl rfl rfl rfl rfl rfl ⟨rfl, rfl, rfl, rfl, rfl⟩ rfl rfl rfl rfl rfl (by kernel_rfl) Try.func4 (by kernel_rfl)
    (of_decide_eq_true (by kernel_rfl)) (by unfold Func.isWrapper; first | (rw [if_pos (by decide +kernel)]; kernel_rfl) | (rw [if_neg (by decide +kernel)]; exact ⟨rfl, rfl⟩))
    (fun os started H enc _ => lifted os started H enc)

/-- ████ THE STATEMENT ████ -/
theorem proved : Rows.StatPiecesSaid :=
  over
#print axioms proved
end Go.Proofs.Yteebiemfhicgbaa.statPieces
