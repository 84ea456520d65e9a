/- FrameChunks returns true, whatever bytes, limit and cuts come in; they stay as they are. It has no condition. -/
import Derived.Test.YtndhbegekicfaaaRows
import Derived.Test.YtndhbegekicfaaaChk
import Derived.Deep.Slices
import Derived.WalkKit
import Derived.ProofKit
import Derived.OpenShut
import Derived.ShutString
import Derived.SizedLaws
namespace Go.Proofs.Ytndhbegekicfaaa.frameChunks
open Go.ChangeShapes Go.WideShapes Go.ChangeAt Go.RowKit Go.Deep
open Go.ChangeMaps (open_string shut_string)
set_option linter.unusedVariables false

theorem own : ownKnob Try.prog.godebug = none := by kernel_rfl
theorem laidOut : laidOutB Try.prog = true := by kernel_rfl
theorem ku : Try.prog.cellsOf 5 = 1 := by kernel_rfl
theorem bu : Try.prog.bytesOf 5 = 1 := by kernel_rfl
theorem ki : Try.prog.cellsOf 3 = 1 := by kernel_rfl
theorem bi : Try.prog.bytesOf 3 = 8 := by kernel_rfl
/-- The number in a cell. -/
def numIn : Value → Int
  | .int _ x => x
  | _ => 0
/-- A list of bytes that came in, opened. -/
theorem bytes {H : Type} {enc : TypeId × Value → H} {w : World} {spare : Nat → Bool} {held : Bool} {a1 : Option Addr} {len1 cap1 : Nat} {d : DataW H} {p : List MemPlace} (h : DataW.Trod enc Try.prog w 0 spare held 23 (.slice a1 len1 cap1) d p)
    (hw : ∀ x ∈ d.weights Try.prog 23, x ≤ 140737488355328) :
    ∃ (bs : List UInt8) (T : List Nat), bs.length = len1 ∧ len1 ≤ cap1 ∧ cap1 ≤ 9223372036854775807 ∧ len1 ≤ 140737488355328 ∧ Src w (.slice a1 len1 cap1) bs T ∧ ∀ k ∈ T, k < w.heap.size := by
  obtain ⟨fuel, hf⟩ := h
  rcases open_slice1 Try.underlying23 ku hf with ⟨hv, -⟩ | ⟨a, len, cap, m, n, V, D, Pl, hcs, hb, hl, hm, hmm, hx, hi⟩
  · have hv' : [Value.slice a1 len1 cap1] = [.slice none 0 0] := hv
    simp only [List.cons.injEq, Value.slice.injEq, and_true] at hv'
    obtain ⟨rfl, rfl, rfl⟩ := hv'
    exact ⟨[], [], rfl, Nat.le_refl _, by decide, by decide, ⟨none, 0, rfl, fun _ => ⟨rfl, rfl⟩, fun ad e => (by cases e)⟩, fun k hk => (by cases hk)⟩
  · have hcs' : [Value.slice a1 len1 cap1] = [.slice (some a) len cap] := hcs
    simp only [List.cons.injEq, Value.slice.injEq, and_true] at hcs'
    obtain ⟨rfl, rfl, rfl⟩ := hcs'
    have hlm : len1 ≤ m := by rw [hmm]; split <;> omega
    simp only [Prod.mk.injEq] at hx
    obtain ⟨hd, -⟩ := hx
    have hlen : len1 ≤ 140737488355328 := by
      have h1 := hw ((((List.range len1).map D).length + ((List.range (m - len1)).map fun j => D (len1 + j)).length) * Try.prog.bytesOf 5) (by
        rw [hd]
        simp only [DataW.weights, Try.underlying23]
        exact List.mem_cons_self)
      rw [List.length_map, List.length_range, bu] at h1
      omega
    have hV : ∀ i, i < len1 → ∃ b : UInt8, V i = bv b ∧ UInt8.ofNat (numIn (V i)).toNat = b := fun i hl => by
      obtain ⟨n0, e0, -, w0⟩ := DataW.trod_int Try.underlying5 (hi i (by omega)).2
      simp only [List.cons.injEq, and_true] at e0
      have hb := bounds_u8 w0
      obtain ⟨k, rfl⟩ : ∃ k : Nat, n0 = k := ⟨n0.toNat, by omega⟩
      refine ⟨UInt8.ofNat k, ?_, by rw [e0]; simp [numIn]⟩
      rw [e0]
      have e1 : (UInt8.ofNat k).toNat = k := by
        rw [UInt8.toNat_ofNat']
        exact Nat.mod_eq_of_lt (by omega)
      unfold bv
      rw [e1]
    refine ⟨(List.range len1).map (fun i => UInt8.ofNat (numIn (V i)).toNat), if 0 < len1 then [a.block] else [], by simp, hl, by unfold maxLen at hm; omega, hlen, ⟨some a, cap1, by simp, (fun e => by cases e), fun ad e => ?_⟩, fun k hk => ?_⟩
    · cases e
      refine ⟨fun hp => ?_, fun j u hu => ?_⟩
      · simp at hp
        rw [if_pos hp]
        simp
      · rw [List.map_map, List.getElem?_map] at hu
        by_cases hj : j < len1
        · rw [List.getElem?_range hj] at hu
          obtain ⟨b, e1, e2⟩ := hV j hj
          simp only [Option.map_some, Function.comp_apply, Option.some.injEq] at hu
          rw [← hu, e2, ← e1]
          exact (hi j (by omega)).1
        · rw [List.getElem?_eq_none (by simp; omega)] at hu
          cases hu
    · by_cases hp : 0 < len1
      · rw [if_pos hp] at hk
        simp at hk
        subst hk
        have hc := (hi 0 (by omega)).1
        have := World.block_lt_of_cell? w _ hc
        rwa [add_block] at this
      · rw [if_neg hp] at hk
        cases hk
/-- A list of numbers that came in, opened. -/
theorem ints {H : Type} {enc : TypeId × Value → H} {w : World} {spare : Nat → Bool} {held : Bool} {a1 : Option Addr} {len1 cap1 : Nat} {d : DataW H} {p : List MemPlace} (h : DataW.Trod enc Try.prog w 0 spare held 49 (.slice a1 len1 cap1) d p)
    (hw : ∀ x ∈ d.weights Try.prog 49, x ≤ 140737488355328) : ∃ (zs : List Int) (T : List Nat) (b o : Nat), zs.length = len1 ∧ len1 ≤ 140737488355328 ∧ Nms w a1 cap1 b o zs T := by
  obtain ⟨fuel, hf⟩ := h
  rcases open_slice1 Try.underlying49 ki hf with ⟨hv, -⟩ | ⟨a, len, cap, m, n, V, D, Pl, hcs, hb, hl, hm, hmm, hx, hi⟩
  · have hv' : [Value.slice a1 len1 cap1] = [.slice none 0 0] := hv
    simp only [List.cons.injEq, Value.slice.injEq, and_true] at hv'
    obtain ⟨rfl, rfl, rfl⟩ := hv'
    exact ⟨[], [], 0, 0, rfl, by decide, fun h => (by simp at h), fun i hi => (by simp at hi), fun i hi => (by simp at hi)⟩
  · have hcs' : [Value.slice a1 len1 cap1] = [.slice (some a) len cap] := hcs
    simp only [List.cons.injEq, Value.slice.injEq, and_true] at hcs'
    obtain ⟨rfl, rfl, rfl⟩ := hcs'
    have hlm : len1 ≤ m := by rw [hmm]; split <;> omega
    simp only [Prod.mk.injEq] at hx
    obtain ⟨hd, -⟩ := hx
    have hlen : len1 ≤ 140737488355328 := by
      have h1 := hw ((((List.range len1).map D).length + ((List.range (m - len1)).map fun j => D (len1 + j)).length) * Try.prog.bytesOf 3) (by
        rw [hd]
        simp only [DataW.weights, Try.underlying49]
        exact List.mem_cons_self)
      rw [List.length_map, List.length_range, bi] at h1
      omega
    have hV : ∀ i, i < len1 → V i = .int .i64 (numIn (V i)) ∧ -9223372036854775808 ≤ numIn (V i) ∧ numIn (V i) ≤ 9223372036854775807 := fun i hl => by
      obtain ⟨n0, e0, -, w0⟩ := DataW.trod_int Try.underlying3 (hi i (by omega)).2
      simp only [List.cons.injEq, and_true] at e0
      have hb := bounds_i64 w0
      rw [e0]
      exact ⟨rfl, hb⟩
    by_cases hp : 0 < len1
    · have h0 := (hi 0 (by omega)).1
      obtain ⟨b, o, rfl⟩ : ∃ b o, a = ⟨b, o, none⟩ := by
        obtain ⟨b, o, q⟩ := a
        have hsq : q = none := by simpa [Addr.add] using World.cell?_spot h0
        subst hsq
        exact ⟨b, o, rfl⟩
      refine ⟨(List.range len1).map (fun i => numIn (V i)), [b], b, o, by simp, hlen, fun _ => ⟨rfl, by simpa using hl⟩, fun i hi' => ?_, fun i hi' => ?_⟩
      · simp at hi'
        subst hi'
        have := World.block_lt_of_cell? w _ h0
        rwa [add_block] at this
      · have hil : i < len1 := by simpa using hi'
        have hc := (hi i (by omega)).1
        obtain ⟨e1, e2, e3⟩ := hV i hil
        rw [Addr.add_lit, e1] at hc
        simp only [List.getElem_map, List.getElem_range]
        exact ⟨by simp, hc, e2, e3⟩
    · have h00 : len1 = 0 := by omega
      subst h00
      exact ⟨[], [], 0, 0, rfl, by decide, fun h => (by simp at h), fun i hi => (by simp at hi), fun i hi => (by simp at hi)⟩

set_option maxRecDepth 100000 in
theorem lifted (os : Os) (started : os.Started) (H : Type) (enc : TypeId × Value → H) :
    ReturnsInHanded {} Try.checked os 6 .any (Rows.frameChunksSpec.pre6 enc Try.prog Try.f6 Rows.frameChunksRow.domain false) (Rows.frameChunksSpec.post enc Try.prog Try.f6 false true false false) := by
  refine returnsInHanded_of_change_sized (C := Try.checked) own started (by kernel_rfl) Try.func6
    (ChangeSpec.witness6 (enc := enc) (C := Try.checked) false ⟨#[], #[.slice none 0 0, .int .u32 0, .slice none 0 0], []⟩ 8 (by kernel_rfl) (by kernel_rfl) (by kernel_rfl) (by kernel_rfl)) ?_
  intro W base args ds gs before hval0 hW hcnd hsz0 _
  have hval : ∀ (j : Nat) t v, Try.f6.params[j]? = some t → args[j]? = some v → Value.okWide Try.prog W .any base t v := hval0
  have hW' := hW
  have hsz : (DataW.weightsEach Try.prog (Try.f6.params.toList ++ Rows.frameChunksSpec.plain.varTypes Try.prog) (ds ++ gs)).all (· ≤ reachBytes) = true := hsz0
  obtain ⟨p, q, hA0, hV, rfl, hfz, hnd⟩ := hW
  have hA : DataW.TrodAll enc Try.prog W 0 (fun _ => true) true Try.f6.params.toList args.toList ds p := hA0
  rw [Try.params6] at hA hval hsz
  obtain ⟨v0, vs0, d0, ds0, p0, q0, hargs, rfl, rfl, h0, r0⟩ := trodAll_cons hA
  obtain ⟨v1, vs1, d1, ds1, p1, q1, rfl, rfl, rfl, h1, r1⟩ := trodAll_cons r0
  obtain ⟨v2, vs2, d2, ds2, p2, q2, rfl, rfl, rfl, h2, r2⟩ := trodAll_cons r1
  obtain ⟨rfl, rfl, rfl⟩ := trodAll_nil r2
  obtain rfl : args = #[v0, v1, v2] := by cases args; simp_all
  obtain ⟨rfl, rfl⟩ := trodVars_none hV
  have k0 := h0
  have k1 := h1
  have k2 := h2
  have lt0 : ∀ x ∈ p0, x.block < W.heap.size := by obtain ⟨m, hm⟩ := k0; exact DataW.trod_lt m _ _ _ hm
  have lt1 : ∀ x ∈ p1, x.block < W.heap.size := by obtain ⟨m, hm⟩ := k1; exact DataW.trod_lt m _ _ _ hm
  have lt2 : ∀ x ∈ p2, x.block < W.heap.size := by obtain ⟨m, hm⟩ := k2; exact DataW.trod_lt m _ _ _ hm
  obtain ⟨a0, len0, cap0, rfl⟩ := okWide_slice Try.underlying23 (hval 0 23 v0 rfl rfl)
  obtain ⟨a2, len2, cap2, rfl⟩ := okWide_slice Try.underlying49 (hval 2 49 v2 rfl rfl)
  obtain ⟨n1, rfl⟩ := okWide_int Try.underlying24 (hval 1 24 v1 rfl rfl)
  have b1 : 0 ≤ n1 ∧ n1 ≤ 4294967295 := by
    obtain ⟨m, hm⟩ := h1
    have hm' : DataW.trod enc Try.prog W 0 (fun _ => true) true m 24 [.int .u32 n1] = some (d1, p1) := hm
    obtain ⟨n0, e0, -, w0⟩ := DataW.trod_int Try.underlying24 hm'
    simp only [List.cons.injEq, Value.int.injEq, true_and, and_true] at e0
    subst e0
    exact bounds_u32 w0
  obtain ⟨m1, rfl⟩ : ∃ m : Nat, n1 = m := ⟨n1.toNat, by omega⟩
  have hw0 : ∀ x ∈ d0.weights Try.prog 23, x ≤ 140737488355328 := fun x hx => by
    have h := List.all_eq_true.1 hsz x (DataW.weights_mem_each (j := 0) (t := 23) (d := d0) rfl rfl x hx)
    have h2 : x ≤ reachBytes := by simpa using h
    have h3 := reachBytes_lt
    omega
  have hw2 : ∀ x ∈ d2.weights Try.prog 49, x ≤ 140737488355328 := fun x hx => by
    have h := List.all_eq_true.1 hsz x (DataW.weights_mem_each (j := 2) (t := 49) (d := d2) rfl rfl x hx)
    have h2 : x ≤ reachBytes := by simpa using h
    have h3 := reachBytes_lt
    omega
  obtain ⟨bs, T1, rfl, hl1, hc1, hb1, hs1, hT1⟩ := bytes h0 hw0
  obtain ⟨zs, T2, bb, oo, rfl, hb2, hn2⟩ := ints h2 hw2
  clear hA0 hval0
  simp only [List.append_nil] at hW'
  refine (Law.chunks_walk W m1 a0 a2 cap0 cap2 bb oo bs zs T1 T2 (by omega) hb1 hb2 hl1 hc1 hs1 hT1 hn2).mono fun e W' ⟨he, hkept⟩ => ?_
  have bel : Below W.heap.size W W' := hkept.below (fun i hi => by simp at hi) (Nat.le_refl _)
  subst he
  exact ⟨_, rfl, _, _, _, [], _, [], hW', trodAll_mk1 (shut_bool Try.underlying4 _), (trodAll_cons_mk (Below.trod laidOut (by kernel_rfl) (of_decide_eq_true (by kernel_rfl)) k0 bel lt0) (trodAll_cons_mk (Below.trod laidOut (by kernel_rfl) (of_decide_eq_true (by kernel_rfl)) k1 bel lt1) (trodAll_cons_mk (Below.trod laidOut (by kernel_rfl) (of_decide_eq_true (by kernel_rfl)) k2 bel lt2) trodAll_mk0))), rfl, bel.frame _, fun h => by cases h⟩

theorem over : Rows.frameChunksRow.holds Try.pinned (OpenSpec.ofChange Rows.frameChunksSpec) :=
  OpenClaim.holds_of_wide 6 Try.f6 rfl rfl rfl rfl rfl rfl rfl ⟨rfl, rfl, rfl, rfl, rfl⟩ rfl rfl rfl rfl rfl (by kernel_rfl) Try.func6 (by kernel_rfl)
    (of_decide_eq_true (by kernel_rfl)) (by unfold Func.isWrapper; first | (rw [if_pos (by decide +kernel)]; kernel_rfl) | (rw [if_neg (by decide +kernel)]; exact ⟨rfl, rfl⟩))
    (fun os started H enc _ => lifted os started H enc)

/-- ████ THE STATEMENT ████ -/
theorem proved : Rows.FrameChunksSaid :=
  over
#print axioms proved
end Go.Proofs.Ytndhbegekicfaaa.frameChunks
