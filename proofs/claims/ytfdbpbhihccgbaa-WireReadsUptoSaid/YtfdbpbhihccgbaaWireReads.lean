/- WireReads returns true for every list of texts and every script, where what comes in is of bulk at most 1,048,576; the arguments read behind the call as before. Condition: that bound alone. -/
import Derived.Test.YtfdbpbhihccgbaaRows
import Derived.Test.YtfdbpbhihccgbaaOpn
import Derived.Test.YtfdbpbhihccgbaaRrw
import Derived.Deep.Slices
import Derived.Deep.Fields
import Derived.ChangeSame
import Derived.OpenShut
import Derived.JoinedCond
import Derived.WalkKit
import Derived.ProofKit
import Derived.ShutString
import Derived.ChangeOld
import Derived.Below
import Derived.Lib.SmallJoins

section
namespace Go.Proofs.Ytfdbpbhihccgbaa.Opr
open Go.ChangeShapes Go.WideShapes Go.Deep Go.RowKit
open Go.Proofs.Ytfdbpbhihccgbaa.Opn
set_option linter.unusedVariables false
section
variable {H : Type} {enc : TypeId × Value → H} {w : World}
theorem bytes_of {n : Nat} {v : Value} {y : DataW H × List MemPlace} (h : DataW.trod enc Try.prog w 0 (fun _ => true) true n 37 [v] = some y) (hk : Rows.uptoBulk y.1 ≤ 1048576) : ∃ bs, Byt w v bs (List.range w.heap.size) := by
  rcases open_ints Try.underlying37 Try.underlying5 (by kernel_rfl) h with ⟨hc4, _⟩ | ⟨ad, l4, cp, zs, hc4, _, hl4, hm4, hz4, hx4, hcell4, hwf4⟩
  · simp only [List.cons.injEq, and_true] at hc4
    subst hc4
    exact ⟨[], none, 0, rfl, by simp, by decide, by simp, none, 0, rfl, fun _ => ⟨rfl, rfl⟩, fun ad e => by cases e⟩
  · simp only [List.cons.injEq, and_true] at hc4
    subst hc4
    have hz : zs.length = cp := by simpa using hz4
    have hbl : ((zs.take l4).map fun z => UInt8.ofNat z.toNat).length = l4 := by simp; omega
    have hcl : ∀ (j : Nat) (u : Value), (((zs.take l4).map fun z => UInt8.ofNat z.toNat).map bv)[j]? = some u → w.cell? (ad.add j) = some u := fun j u hu => by
      have hj : j < l4 := by
        have := (List.getElem?_eq_some_iff.1 hu).1
        simp at this
        omega
      have hjz : j < zs.length := by omega
      have hget : zs.getD j 0 = zs[j] := by rw [List.getD_eq_getElem?_getD, List.getElem?_eq_getElem hjz]; rfl
      have hb := bounds_u8 (hwf4 _ (List.getElem_mem hjz))
      rw [hcell4 j hjz, hget, ← hu]
      simp [hj, List.getElem?_eq_getElem hjz, bv]
      omega
    have hl5 : l4 ≤ 1048576 := by
      rw [hx4] at hk
      simp only [Rows.uptoBulk] at hk
      have h2 := length_le (H := H) (lits .u8 (zs.take l4))
      have h3 : (lits (H := H) .u8 (zs.take l4)).length = l4 := by
        unfold lits
        simp
        omega
      omega
    refine ⟨_, some ad, cp, by rw [hbl], by rw [hbl]; exact hl4, by unfold maxLen at hm4; omega, by rw [hbl]; exact hl5, some ad, cp, by rw [hbl], fun e => (by cases e), fun ad' e => ?_⟩
    cases e
    refine ⟨fun hp => List.mem_range.2 ?_, hcl⟩
    have h1 := World.block_lt_of_cell? w _ (hcl 0 _ (List.getElem?_eq_getElem (by simpa using hp)))
    rwa [add_block] at h1

theorem rows_of {n : Nat} {cs : List Value} {x : DataW H × List MemPlace} (h : DataW.trod enc Try.prog w 0 (fun _ => true) true n 36 cs = some x) (hk : Rows.uptoBulk x.1 ≤ 1048576) :
    ∃ (a : Option Addr) (cap b off : Nat) (ls : List (Value × List UInt8)), cs = [.slice a ls.length cap] ∧ Rws w a cap b off ls (List.range w.heap.size) := by
  have hT : ∀ i ∈ List.range w.heap.size, i < w.heap.size := fun i hi => List.mem_range.1 hi
  rcases open_slice1 Try.underlying36 (by kernel_rfl) h with ⟨h0, -⟩ | ⟨a, len, cap, m, k, V, D, Pl, hcs, hb, hl, hm, hmm, hx, hI⟩
  · exact ⟨none, 0, 0, 0, [], h0, by simp, by simp, hT, fun i hi => by simp at hi⟩
  · have hbulk : Rows.uptoBulkAll ((List.range len).map D) ≤ 1048576 := by
      rw [hx] at hk
      simp only [Rows.uptoBulk] at hk
      omega
    have hlen : len ≤ 1048576 := by
      have := length_le ((List.range len).map D)
      simp at this
      omega
    have hlm : len ≤ m := by rw [hmm]; split <;> omega
    have hex : ∀ i, ∃ y : Value × List UInt8, i < len → w.cell? (a.add i) = some y.1 ∧ Byt w y.1 y.2 (List.range w.heap.size) := by
      intro i
      by_cases hi2 : i < len
      · obtain ⟨h1, h2⟩ := hI i (by omega)
        have hbi := part_le (d := D i) (l := (List.range len).map D) (List.mem_map.2 ⟨i, List.mem_range.2 hi2, rfl⟩)
        obtain ⟨bs, hbs⟩ := bytes_of h2 (by show Rows.uptoBulk (D i) ≤ _; omega)
        exact ⟨(V i, bs), fun _ => ⟨h1, hbs⟩⟩
      · exact ⟨(.slice none 0 0, []), fun h => absurd h hi2⟩
    obtain ⟨f, hf⟩ := Classical.axiomOfChoice hex
    refine ⟨some a, cap, a.block, a.off, (List.range len).map f, by simpa using hcs, by simpa using hlen, fun h0 => ?_, hT, fun i hi => ?_⟩
    · have h1 : 0 < len := by simpa using h0
      obtain ⟨b, o, rfl⟩ := plain_at ((hf 0 h1).1)
      exact ⟨rfl, by simpa using hl⟩
    · have h1 : i < len := by simpa using hi
      obtain ⟨b, o, rfl⟩ := plain_at ((hf 0 (by omega)).1)
      obtain ⟨g1, g2⟩ := hf i h1
      have e : ((List.range len).map f)[i]'hi = f i := by simp
      rw [e]
      rw [Addr.add_lit] at g1
      exact ⟨List.mem_range.2 (by have := World.block_lt_of_cell? w _ g1; exact this), g1, g2⟩
end
end Go.Proofs.Ytfdbpbhihccgbaa.Opr
end

namespace Go.Proofs.Ytfdbpbhihccgbaa.wireReads
open Go.Joins Go.ChangeShapes Go.WideShapes Go.ChangeAt Go.RowKit
open Go.ChangeMaps (open_string shut_string)
set_option linter.unusedVariables false

theorem own : ownKnob Try.prog.godebug = none := by kernel_rfl
theorem laidOut : laidOutB Try.prog = true := by kernel_rfl

/-! ### The row -/
set_option maxRecDepth 100000 in
theorem contract (H : Type) (enc : TypeId × Value → H) (W : World) (base : Nat) (args : Array Value) (ds gs : List (DataW H)) (before : List MemPlace)
    (hval0 : ∀ (j : Nat) t v, Try.f4.params[j]? = some t → args[j]? = some v → Value.okWide Try.prog W .any base t v)
    (hW : DataW.Whole enc Try.prog Try.f4.params.toList Rows.wireReadsSpec.vars false W args.toList ds gs before) (hk : Rows.uptoSmall H (ds ++ gs) = true) :
    Calls Try.prog 4 args W fun e W' => ∃ v, e = .returned v ∧ Rows.wireReadsSpec.post enc Try.prog Try.f4 false true false false W args v W' := by
  have hval := hval0
  have hW' := hW
  have hbulk : Rows.uptoBulkAll (ds ++ gs) ≤ 1048576 := of_decide_eq_true hk
  obtain ⟨p, q, hA0, hV, rfl, hfz, hnd⟩ := hW
  have hA : DataW.TrodAll enc Try.prog W 0 (fun _ => true) true Try.f4.params.toList args.toList ds p := hA0
  rw [Try.params4] at hA hval
  obtain ⟨v0, vs0, d0, ds0, p0, q0, hargs, rfl, rfl, h0, r0⟩ := trodAll_cons hA
  obtain ⟨v1, vs1, d1, ds1, p1, q1, rfl, rfl, rfl, h1, r1⟩ := trodAll_cons r0
  obtain ⟨rfl, rfl, rfl⟩ := trodAll_nil r1
  obtain rfl : args = #[v0, v1] := by cases args; simp_all
  obtain ⟨rfl, rfl⟩ := trodVars_none hV
  simp only [List.append_nil, Rows.uptoBulkAll] at hbulk
  have k0 := h0
  have k1 := h1
  have lt0 : ∀ x ∈ p0, x.block < W.heap.size := by obtain ⟨m, hm⟩ := k0; exact DataW.trod_lt m _ _ _ hm
  have lt1 : ∀ x ∈ p1, x.block < W.heap.size := by obtain ⟨m, hm⟩ := k1; exact DataW.trod_lt m _ _ _ hm
  obtain ⟨a0, len0, cap0, rfl⟩ := okWide_slice Try.underlying36 (hval 0 36 v0 rfl rfl)
  obtain ⟨a1, len1, cap1, rfl⟩ := okWide_slice Try.underlying23 (hval 1 23 v1 rfl rfl)
  obtain ⟨f0, t0⟩ := h0
  obtain ⟨f1, t1⟩ := h1
  have t0' : DataW.trod enc Try.prog W 0 (fun _ => true) true f0 36 [.slice a0 len0 cap0] = some (d0, p0) := t0
  have t1' : DataW.trod enc Try.prog W 0 (fun _ => true) true f1 23 [.slice a1 len1 cap1] = some (d1, p1) := t1
  obtain ⟨A0, C0, B0, O0, l0, e0, i0⟩ := Opr.rows_of t0' (by show Rows.uptoBulk d0 ≤ _; omega)
  obtain ⟨A1, C1, B1, O1, l1, s1, e1, i1⟩ := Opn.shape t1' (by show Rows.uptoBulk d1 ≤ _; omega)
  simp only [List.cons.injEq, and_true, Value.slice.injEq] at e1
  simp only [List.cons.injEq, and_true, Value.slice.injEq] at e0
  obtain ⟨rfl, rfl, rfl⟩ := e0
  obtain ⟨rfl, rfl, rfl⟩ := e1
  clear hA0 hval0
  refine (Wrd.walk W a0 a1 cap0 cap1 B0 O0 B1 O1 l0 l1 s1 _ _ i0 i1).mono fun e W' ⟨he, hkept⟩ => ?_
  have bel : Below W.heap.size W W' := hkept.below (fun i hi => by simp at hi) (Nat.le_refl _)
  subst he
  exact ⟨_, rfl, _, _, _, [], _, [], hW', trodAll_mk1 (shut_bool Try.underlying4 _), (trodAll_cons_mk (Below.trod laidOut (by kernel_rfl) (of_decide_eq_true (by kernel_rfl)) k0 bel lt0) (trodAll_cons_mk (Below.trod laidOut (by kernel_rfl) (of_decide_eq_true (by kernel_rfl)) k1 bel lt1) trodAll_mk0)), rfl, bel.frame _, fun h => by cases h⟩

set_option maxRecDepth 100000 in
theorem lifted (os : Os) (started : os.Started) (H : Type) (enc : TypeId × Value → H) (F : Stop.Interp) :
    ReturnsInHanded {} Try.checked os 4 .any ((Rows.OpenSpec.upto Rows.wireReadsSpec).pre6 enc Try.prog Try.f4 Rows.wireReadsUptoRow.domain false) (((Rows.OpenSpec.upto Rows.wireReadsSpec).at F).post enc Try.prog Try.f4 false true false false) := by
  refine returnsInHanded_of_cond (C := Try.checked) (s := Rows.OpenSpec.upto Rows.wireReadsSpec) (k := Rows.uptoSmall) rfl own started (by kernel_rfl) Try.func4
    (OpenSpec.witness (enc := enc) (C := Try.checked) (s := Rows.OpenSpec.upto Rows.wireReadsSpec) (k := Rows.uptoSmall) rfl false ⟨#[], #[.slice none 0 0, .slice none 0 0], []⟩ 8 (by kernel_rfl) (by kernel_rfl) (by kernel_rfl) (by kernel_rfl)
      (x := ([.nil, .nil], [], [])) (by kernel_rfl) rfl (by kernel_rfl)) ?_
  intro W base args ds gs before hval hW _ hk _
  exact contract H enc W base args ds gs before hval hW hk

theorem proved : Rows.WireReadsUptoSaid :=
  OpenClaim.holds_of_cond 4 Try.f4 rfl rfl rfl rfl rfl rfl rfl ⟨rfl, rfl, rfl, rfl, rfl⟩ rfl rfl rfl rfl rfl (by kernel_rfl) Try.func4 (by kernel_rfl)
    (of_decide_eq_true (by kernel_rfl)) (by unfold Func.isWrapper; first | (rw [if_pos (by decide +kernel)]; kernel_rfl) | (rw [if_neg (by decide +kernel)]; exact ⟨rfl, rfl⟩))
    (fun os started H enc _ F => lifted os started H enc F)
#print axioms proved
end Go.Proofs.Ytfdbpbhihccgbaa.wireReads
