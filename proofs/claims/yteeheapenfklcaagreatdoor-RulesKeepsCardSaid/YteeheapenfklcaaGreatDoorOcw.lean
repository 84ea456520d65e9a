/- A case and a record that come in, opened, with their numbers' bounds. -/
import Derived.Test.YteeheapenfklcaaGreatDoorRows
import Derived.WalkKit
import Derived.ProofKit
import Derived.OpenShut
import Derived.LaidMore
import Derived.Lay
import Derived.Test.YteeheapenfklcaaGreatDoorKept
import Derived.Test.YteeheapenfklcaaGreatDoorUac
import Derived.Deep.Slices
import Derived.SizedLaws
import Derived.Shelf.Vars
import Derived.Test.YteeheapenfklcaaGreatDoorRcs
import Derived.ShutString
import Derived.Test.YteeheapenfklcaaGreatDoorRu2
import Derived.Test.YteeheapenfklcaaGreatDoorRwv
import Derived.Test.YteeheapenfklcaaGreatDoorRwh

section
namespace Go.Proofs.YteeheapenfklcaaGreatDoor
open Go.ChangeShapes Go.WideShapes Go.ChangeAt Go.RowKit
namespace Nm
theorem own : ownKnob Tryz.prog.godebug = none := by kernel_rfl
def laid2 : List (String × DataW Unit) := [("unicode/utf8.acceptRanges", Rows.laid_unicode_utf8_acceptRanges), ("unicode/utf8.first", Rows.laid_unicode_utf8_first)]
theorem wit_shaped (os : Os) : (World.laidAll Tryz.prog os laid2).Shaped Tryz.prog := World.shaped_of_ZipB (by as_aux_lemma => kernel_rfl) (by as_aux_lemma => kernel_rfl)
theorem wit_met (os : Os) (args : Array Value) : laidMetH Tryz.prog laid2 ((World.laidAll Tryz.prog os laid2).forCall (fun _ _ => 0) ⟨#[], args, []⟩).memory := by
  rw [MakeChecks.laidMetH_plain _ _ _ (by as_aux_lemma => kernel_rfl)]
  exact laidMet_laidAll _ (by as_aux_lemma => kernel_rfl) (by as_aux_lemma => kernel_rfl)
end Nm
end Go.Proofs.YteeheapenfklcaaGreatDoor
end

section
namespace Go.Proofs.YteeheapenfklcaaGreatDoor.Nm
open Go.ChangeShapes Go.WideShapes Go.ChangeAt Go.RowKit Go.Deep
set_option linter.unusedVariables false

/-- Whole numbers that can be read. -/
def LsZ (w : World) (v : Value) (xs : List Int) : Prop :=
  ∃ a c, v = .slice a xs.length c ∧ xs.length ≤ c ∧ (xs = [] ∨ ∃ b o, a = some ⟨b, o, none⟩ ∧ b < w.heap.size ∧ ∀ j (x : Int), xs[j]? = some x → w.cell? ⟨b, o + j, none⟩ = some (.int .i64 x))
theorem LsZ.kept {w w' : World} {v : Value} {xs : List Int} {S : List Nat} (h : LsZ w v xs) (k : Kept S w w') (hd : ∀ a n c, v = .slice (some a) n c → a.block ∉ S) : LsZ w' v xs := by
  obtain ⟨a, c, rfl, hc, h⟩ := h
  refine ⟨a, c, rfl, hc, ?_⟩
  rcases h with h | ⟨b, o, rfl, hb, h⟩
  · exact Or.inl h
  · refine Or.inr ⟨b, o, rfl, by have := k.size; omega, fun j x hx => ?_⟩
    have := h j x hx
    have e := k.block b hb (hd _ _ _ rfl)
    unfold World.cell? at this ⊢
    rw [e]
    exact this
theorem laidOutI : laidOutB Tryz.prog = true := by kernel_rfl
theorem kI : Tryz.prog.cellsOf 3 = 1 := by kernel_rfl
theorem bI : Tryz.prog.bytesOf 3 = 8 := by kernel_rfl
def numIn : Value → Int
  | .int _ x => x
  | _ => 0
theorem intsZ {H : Type} {enc : TypeId × Value → H} {w : World} {spare : Nat → Bool} {held : Bool} {a1 : Option Addr} {len1 cap1 : Nat} {d : DataW H} {p : List MemPlace} (h : DataW.Trod enc Tryz.prog w 0 spare held 23 (.slice a1 len1 cap1) d p)
    (hw : ∀ x ∈ d.weights Tryz.prog 23, x ≤ 140737488355328) : ∃ xs : List Int, xs.length = len1 ∧ len1 ≤ 140737488355328 ∧ (∀ x ∈ xs, -9223372036854775808 ≤ x ∧ x ≤ 9223372036854775807) ∧ LsZ w (.slice a1 len1 cap1) xs := by
  obtain ⟨fuel, hf⟩ := h
  rcases open_slice1 Tryz.underlying23 kI hf with ⟨hv, -⟩ | ⟨a, len, cap, m, n, V, D, Pl, hcs, hb, hl, hm, hmm, hx, hi⟩
  · have hv' : [Value.slice a1 len1 cap1] = [.slice none 0 0] := hv
    simp only [List.cons.injEq, Value.slice.injEq, and_true] at hv'
    obtain ⟨rfl, rfl, rfl⟩ := hv'
    exact ⟨[], rfl, by omega, (fun x hx => by cases hx), none, 0, rfl, Nat.le_refl _, Or.inl rfl⟩
  · have hcs' : [Value.slice a1 len1 cap1] = [.slice (some a) len cap] := hcs
    simp only [List.cons.injEq, Value.slice.injEq, and_true] at hcs'
    obtain ⟨rfl, rfl, rfl⟩ := hcs'
    have hlm : len1 ≤ m := by rw [hmm]; split <;> omega
    simp only [Prod.mk.injEq] at hx
    obtain ⟨hd, -⟩ := hx
    have hlen : len1 ≤ 140737488355328 := by
      have h1 := hw ((((List.range len1).map D).length + ((List.range (m - len1)).map fun j => D (len1 + j)).length) * Tryz.prog.bytesOf 3) (by
        rw [hd]
        simp only [DataW.weights, Tryz.underlying23]
        exact List.mem_cons_self)
      rw [List.length_map, List.length_range, bI] at h1
      omega
    have hV : ∀ i, i < len1 → V i = .int .i64 (numIn (V i)) ∧ -9223372036854775808 ≤ numIn (V i) ∧ numIn (V i) ≤ 9223372036854775807 := fun i hl => by
      obtain ⟨n0, e0, -, w0⟩ := DataW.trod_int Tryz.underlying3 (hi i (by omega)).2
      simp only [List.cons.injEq, and_true] at e0
      rw [e0]
      have h2 : -9223372036854775808 ≤ n0 ∧ n0 ≤ 9223372036854775807 := by simpa [Lit.wf, IntKind.min, IntKind.max, IntKind.signed, IntKind.bits] using w0
      exact ⟨rfl, h2.1, h2.2⟩
    refine ⟨(List.range len1).map (fun i => numIn (V i)), by simp, hlen, fun x hx => ?_, some a, cap1, by simp, by simpa using hl, ?_⟩
    · obtain ⟨i, hi2, rfl⟩ := List.mem_map.1 hx
      exact (hV i (List.mem_range.1 hi2)).2
    · by_cases h0 : len1 = 0
      · left; rw [h0]; rfl
      · right
        have c0 := (hi 0 (by omega)).1
        obtain ⟨b, o, rfl⟩ : ∃ b o, a = ⟨b, o, none⟩ := by
          obtain ⟨b, o, q⟩ := a
          have hsq : q = none := by simpa [Addr.add] using World.cell?_spot c0
          subst hsq
          exact ⟨b, o, rfl⟩
        refine ⟨b, o, rfl, World.block_lt_of_cell? w _ c0, fun j x hx => ?_⟩
        rw [List.getElem?_map] at hx
        by_cases hjl : j < len1
        · rw [List.getElem?_range hjl] at hx
          simp only [Option.map_some, Option.some.injEq] at hx
          subst hx
          have := (hi j (by omega)).1
          rw [Addr.add_lit, (hV j hjl).1] at this
          exact this
        · rw [List.getElem?_eq_none (by simp; omega)] at hx
          cases hx
set_option maxRecDepth 100000 in
theorem ml_of {W : World} (hs : W.ShapedOpen Tryz.prog) : Us.Ml W :=
  Go.Proofs.cell_of_shapedOpen_int (P := Tryz.prog) (g := 0) (zero := #[.int .i64 0]) (t := 3) hs (of_decide_eq_true (by kernel_rfl)) (by kernel_rfl) rfl (by kernel_rfl) (by kernel_rfl) Tryz.underlying3
section
variable {H : Type} {enc : TypeId × Value → H}
set_option maxRecDepth 100000 in
theorem lift8 {os : Os} {f : FuncId} {fn : Func} {s : ChangeSpec} (started : os.Started) (noInit : Tryz.checked.prog.inits.idxOf? f = none) (hfn : Tryz.prog.funcs[f]? = some fn) (args0 : Array Value)
    (witness : ∃ (w : World) (tape : Tape) (i : Input), w.os = os ∧ (w.forCall tape i).Shaped Tryz.checked.prog ∧ i.vars = [] ∧ Input.okWide Tryz.checked.prog (w.forCall tape i) .any w.heap.size f i ∧
      (fun w args => (s.pre enc Tryz.prog fn [] false w args ∧ laidMetH Tryz.prog laid2 w) ∧ sizedMet enc Tryz.prog fn (OpenSpec.ofChange s) false w args) (w.forCall tape i).memory i.args ∧ Assume.holds {} Tryz.checked.prog (lone (Frame.enter Tryz.checked.prog f i.args .normal) [] (w.forCall tape i)))
    (contract : ∀ (W : World) (base : Nat) (args : Array Value) (ds gs : List (DataW H)) (before : List MemPlace),
      (∀ (j : Nat) t v, fn.params[j]? = some t → args[j]? = some v → Value.okWide Tryz.prog W .any base t v) →
      DataW.Whole enc Tryz.prog fn.params.toList s.vars false W args.toList ds gs before →
      (DataW.weightsEach Tryz.prog (fn.params.toList ++ s.plain.varTypes Tryz.prog) (ds ++ gs)).all (· ≤ reachBytes) = true →
      Us.Ml W → laidMetH Tryz.prog laid2 W →
      Calls Tryz.prog f args W fun e W' => ∃ v, e = .returned v ∧ s.post enc Tryz.prog fn false true false false W args v W') :
    ReturnsInHanded {} Tryz.checked os f .any (fun w args => (s.pre enc Tryz.prog fn [] false w args ∧ laidMetH Tryz.prog laid2 w) ∧ sizedMet enc Tryz.prog fn (OpenSpec.ofChange s) false w args) (s.post enc Tryz.prog fn false true false false) := by
  refine returnsInHanded_of_calls own started noInit witness ?_
  intro w tape i _ hsh hiv hok hpre _
  obtain ⟨_, _, _, fn', hfn', _, _, _, _, hval1⟩ := hok
  have e : fn' = fn := Option.some.inj (hfn'.symm.trans hfn)
  subst e
  obtain ⟨⟨⟨ds, gs, before, hw, _⟩, hx⟩, hz⟩ := hpre
  have hh : (w.forCall tape i).heap = (w.forCall tape i).memory.heap := rfl
  have hW := DataW.Whole.of_heap (w' := w.forCall tape i) hh.symm hw
  refine (contract (w.forCall tape i) w.heap.size i.args ds gs before hval1 hW (hz.weights hw) (ml_of hsh) (hx.of_heap hh.symm)).mono fun e W' ⟨v, he, hp⟩ => ?_
  subst he
  exact ChangeSpec.post_blind hp
end
end Go.Proofs.YteeheapenfklcaaGreatDoor.Nm
end

section
namespace Go.Proofs.YteeheapenfklcaaGreatDoor.Ocs
open Go.ChangeShapes Go.WideShapes Go.ChangeAt Go.RowKit
open Go.ChangeMaps (open_string shut_string)
open Go.Proofs.YteeheapenfklcaaGreatDoor.Ru
set_option linter.unusedVariables false
theorem laidOut : laidOutB Tryz.prog = true := by kernel_rfl
theorem k_u64 : Tryz.prog.cellsOf 43 = 1 := by kernel_rfl
theorem k_u32 : Tryz.prog.cellsOf 44 = 1 := by kernel_rfl
theorem k_u8 : Tryz.prog.cellsOf 5 = 1 := by kernel_rfl
theorem k_i64 : Tryz.prog.cellsOf 3 = 1 := by kernel_rfl
theorem k_s : Tryz.prog.cellsOf 9 = 1 := by kernel_rfl
theorem k_b : Tryz.prog.cellsOf 4 = 1 := by kernel_rfl
theorem k_n : Tryz.prog.cellsOf 46 = 13 := by kernel_rfl
theorem k_f : Tryz.prog.cellsOf 48 = 28 := by kernel_rfl
theorem k_c : Tryz.prog.cellsOf 50 = 33 := by kernel_rfl
section
variable {H : Type} {enc : TypeId × Value → H} {w : World} {base : Nat} {spare : Nat → Bool} {held : Bool}
theorem nat_of {x : Int} {m : Nat} (h : 0 ≤ x ∧ x ≤ m) : ∃ n : Nat, x = n ∧ n ≤ m := ⟨x.toNat, by omega, by omega⟩
/-- A node's texts are short enough, its mode is one of 32 bits. -/
structure Short (d : Nd) : Prop where
  name : d.name.size ≤ 140737488355328
  uid : d.uid.size ≤ 140737488355328
  gid : d.gid.size ≤ 140737488355328
  muid : d.muid.size ≤ 140737488355328
  mode : d.mode < 4294967296
set_option maxRecDepth 100000 in
set_option maxHeartbeats 1000000 in
theorem node {fuel : Nat} {cs : List Value} {x : DataW H × List MemPlace} (hc : cs.length = 13) (h : DataW.trod enc Tryz.prog w base spare held fuel 46 cs = some x) (hw : ∀ z ∈ x.1.weights Tryz.prog 46, z ≤ 140737488355328) : ∃ d : Nd, cs = d.L ∧ Short d := by
  match cs, hc with
  | [c0, c1, c2, c3, c4, c5, c6, c7, c8, c9, c10, c11, c12], _ =>
    obtain ⟨xs, n, _, hx, _, hlen, hg⟩ := DataW.trod_struct Tryz.underlying46 h
    match xs, hlen with
    | [y0, y1, y2, y3, y4, y5, y6, y7, y8, y9, y10, y11, y12], _ =>
      have g0 : DataW.trod enc Tryz.prog w base spare held n 43 [c0] = some y0 := by simpa [Value.cells, k_u64] using hg 0 _ rfl
      have g1 : DataW.trod enc Tryz.prog w base spare held n 43 [c1] = some y1 := by simpa [Value.cells, k_u64] using hg 1 _ rfl
      have g2 : DataW.trod enc Tryz.prog w base spare held n 9 [c2] = some y2 := by simpa [Value.cells, k_s] using hg 2 _ rfl
      have g3 : DataW.trod enc Tryz.prog w base spare held n 44 [c3] = some y3 := by simpa [Value.cells, k_u32] using hg 3 _ rfl
      have g4 : DataW.trod enc Tryz.prog w base spare held n 9 [c4] = some y4 := by simpa [Value.cells, k_s] using hg 4 _ rfl
      have g5 : DataW.trod enc Tryz.prog w base spare held n 9 [c5] = some y5 := by simpa [Value.cells, k_s] using hg 5 _ rfl
      have g6 : DataW.trod enc Tryz.prog w base spare held n 9 [c6] = some y6 := by simpa [Value.cells, k_s] using hg 6 _ rfl
      have g7 : DataW.trod enc Tryz.prog w base spare held n 44 [c7] = some y7 := by simpa [Value.cells, k_u32] using hg 7 _ rfl
      have g8 : DataW.trod enc Tryz.prog w base spare held n 44 [c8] = some y8 := by simpa [Value.cells, k_u32] using hg 8 _ rfl
      have g9 : DataW.trod enc Tryz.prog w base spare held n 44 [c9] = some y9 := by simpa [Value.cells, k_u32] using hg 9 _ rfl
      have g10 : DataW.trod enc Tryz.prog w base spare held n 43 [c10] = some y10 := by simpa [Value.cells, k_u64] using hg 10 _ rfl
      have g11 : DataW.trod enc Tryz.prog w base spare held n 3 [c11] = some y11 := by simpa [Value.cells, k_i64] using hg 11 _ rfl
      have g12 : DataW.trod enc Tryz.prog w base spare held n 3 [c12] = some y12 := by simpa [Value.cells, k_i64] using hg 12 _ rfl
      obtain ⟨n0, e0, -, w0⟩ := DataW.trod_int Tryz.underlying43 g0
      simp only [List.cons.injEq, and_true] at e0
      subst e0
      obtain ⟨m0, rfl, b0⟩ := nat_of (m := 18446744073709551615) (bounds_u64 w0)
      obtain ⟨n1, e1, -, w1⟩ := DataW.trod_int Tryz.underlying43 g1
      simp only [List.cons.injEq, and_true] at e1
      subst e1
      obtain ⟨m1, rfl, b1⟩ := nat_of (m := 18446744073709551615) (bounds_u64 w1)
      obtain ⟨s2, e2, x2, z2⟩ := DataW.trod_string Tryz.underlying9 g2
      simp only [List.cons.injEq, and_true] at e2
      subst e2
      obtain ⟨n3, e3, -, w3⟩ := DataW.trod_int Tryz.underlying44 g3
      simp only [List.cons.injEq, and_true] at e3
      subst e3
      obtain ⟨m3, rfl, b3⟩ := nat_of (m := 4294967295) (bounds_u32 w3)
      obtain ⟨s4, e4, x4, z4⟩ := DataW.trod_string Tryz.underlying9 g4
      simp only [List.cons.injEq, and_true] at e4
      subst e4
      obtain ⟨s5, e5, x5, z5⟩ := DataW.trod_string Tryz.underlying9 g5
      simp only [List.cons.injEq, and_true] at e5
      subst e5
      obtain ⟨s6, e6, x6, z6⟩ := DataW.trod_string Tryz.underlying9 g6
      simp only [List.cons.injEq, and_true] at e6
      subst e6
      obtain ⟨n7, e7, -, w7⟩ := DataW.trod_int Tryz.underlying44 g7
      simp only [List.cons.injEq, and_true] at e7
      subst e7
      obtain ⟨m7, rfl, b7⟩ := nat_of (m := 4294967295) (bounds_u32 w7)
      obtain ⟨n8, e8, -, w8⟩ := DataW.trod_int Tryz.underlying44 g8
      simp only [List.cons.injEq, and_true] at e8
      subst e8
      obtain ⟨m8, rfl, b8⟩ := nat_of (m := 4294967295) (bounds_u32 w8)
      obtain ⟨n9, e9, -, w9⟩ := DataW.trod_int Tryz.underlying44 g9
      simp only [List.cons.injEq, and_true] at e9
      subst e9
      obtain ⟨m9, rfl, b9⟩ := nat_of (m := 4294967295) (bounds_u32 w9)
      obtain ⟨n10, e10, -, w10⟩ := DataW.trod_int Tryz.underlying43 g10
      simp only [List.cons.injEq, and_true] at e10
      subst e10
      obtain ⟨m10, rfl, b10⟩ := nat_of (m := 18446744073709551615) (bounds_u64 w10)
      obtain ⟨n11, e11, -, w11⟩ := DataW.trod_int Tryz.underlying3 g11
      simp only [List.cons.injEq, and_true] at e11
      subst e11
      obtain ⟨n12, e12, -, w12⟩ := DataW.trod_int Tryz.underlying3 g12
      simp only [List.cons.injEq, and_true] at e12
      subst e12
      rw [hx] at hw
      have q2 : s2.size ≤ 140737488355328 := by
        have e : s2.size = s2.data.toList.length := (Array.length_toList).symm
        rw [e]
        refine hw _ ?_
        unfold DataW.weights
        rw [Tryz.underlying46]
        exact DataW.weights_mem_each (j := 2) (t := 9) (d := y2.1) rfl rfl _ (by rw [x2]; simp [DataW.weights])
      have q4 : s4.size ≤ 140737488355328 := by
        have e : s4.size = s4.data.toList.length := (Array.length_toList).symm
        rw [e]
        refine hw _ ?_
        unfold DataW.weights
        rw [Tryz.underlying46]
        exact DataW.weights_mem_each (j := 4) (t := 9) (d := y4.1) rfl rfl _ (by rw [x4]; simp [DataW.weights])
      have q5 : s5.size ≤ 140737488355328 := by
        have e : s5.size = s5.data.toList.length := (Array.length_toList).symm
        rw [e]
        refine hw _ ?_
        unfold DataW.weights
        rw [Tryz.underlying46]
        exact DataW.weights_mem_each (j := 5) (t := 9) (d := y5.1) rfl rfl _ (by rw [x5]; simp [DataW.weights])
      have q6 : s6.size ≤ 140737488355328 := by
        have e : s6.size = s6.data.toList.length := (Array.length_toList).symm
        rw [e]
        refine hw _ ?_
        unfold DataW.weights
        rw [Tryz.underlying46]
        exact DataW.weights_mem_each (j := 6) (t := 9) (d := y6.1) rfl rfl _ (by rw [x6]; simp [DataW.weights])
      exact ⟨⟨m0, m1, s2, m3, s4, s5, s6, m7, m8, m9, m10, n11, n12⟩, rfl, q2, q4, q5, q6, by show m3 < _; omega⟩
set_option maxRecDepth 100000 in
set_option maxHeartbeats 1000000 in
theorem facts {fuel : Nat} {cs : List Value} {x : DataW H × List MemPlace} (hc : cs.length = 28) (h : DataW.trod enc Tryz.prog w base spare held fuel 48 cs = some x) (hw : ∀ z ∈ x.1.weights Tryz.prog 48, z ≤ 140737488355328) : ∃ (n p : Nd) (tk fl : Bool), cs = n.L ++ p.L ++ [.bool tk, .bool fl] ∧ Short n ∧ Short p := by
  match cs, hc with
  | [c0, c1, c2, c3, c4, c5, c6, c7, c8, c9, c10, c11, c12, c13, c14, c15, c16, c17, c18, c19, c20, c21, c22, c23, c24, c25, c26, c27], _ =>
    obtain ⟨xs, n, _, hx, _, hlen, hg⟩ := DataW.trod_struct Tryz.underlying48 h
    match xs, hlen with
    | [y0, y1, y2, y3], _ =>
      rw [hx] at hw
      have g0 : DataW.trod enc Tryz.prog w base spare held n 46 [c0, c1, c2, c3, c4, c5, c6, c7, c8, c9, c10, c11, c12] = some y0 := by simpa [Value.cells, k_n] using hg 0 _ rfl
      have g1 : DataW.trod enc Tryz.prog w base spare held n 46 [c13, c14, c15, c16, c17, c18, c19, c20, c21, c22, c23, c24, c25] = some y1 := by simpa [Value.cells, k_n] using hg 1 _ rfl
      have g2 : DataW.trod enc Tryz.prog w base spare held n 4 [c26] = some y2 := by simpa [Value.cells, k_n, k_b] using hg 2 _ rfl
      have g3 : DataW.trod enc Tryz.prog w base spare held n 4 [c27] = some y3 := by simpa [Value.cells, k_n, k_b] using hg 3 _ rfl
      have hw0 : ∀ z ∈ y0.1.weights Tryz.prog 46, z ≤ 140737488355328 := fun z hz => hw z (by
        unfold DataW.weights
        rw [Tryz.underlying48]
        exact DataW.weights_mem_each (j := 0) (t := 46) (d := y0.1) rfl rfl _ hz)
      have hw1 : ∀ z ∈ y1.1.weights Tryz.prog 46, z ≤ 140737488355328 := fun z hz => hw z (by
        unfold DataW.weights
        rw [Tryz.underlying48]
        exact DataW.weights_mem_each (j := 1) (t := 46) (d := y1.1) rfl rfl _ hz)
      obtain ⟨d0, e0, q0⟩ := node rfl g0 hw0
      obtain ⟨d1, e1, q1⟩ := node rfl g1 hw1
      obtain ⟨s2, e2, x2⟩ := DataW.trod_bool Tryz.underlying4 g2
      simp only [List.cons.injEq, and_true] at e2
      subst e2
      obtain ⟨s3, e3, x3⟩ := DataW.trod_bool Tryz.underlying4 g3
      simp only [List.cons.injEq, and_true] at e3
      subst e3
      simp only [Nd.L, List.cons.injEq, and_true] at e0 e1
      obtain ⟨rfl, rfl, rfl, rfl, rfl, rfl, rfl, rfl, rfl, rfl, rfl, rfl, rfl⟩ := e0
      obtain ⟨rfl, rfl, rfl, rfl, rfl, rfl, rfl, rfl, rfl, rfl, rfl, rfl, rfl⟩ := e1
      exact ⟨d0, d1, _, _, rfl, q0, q1⟩
set_option maxRecDepth 100000 in
set_option maxHeartbeats 1000000 in
theorem case_ {r : Reach} {b0 : Nat} {v : Value} {d : DataW H} {pl : List MemPlace} (hv : Value.okWide Tryz.prog w r b0 50 v) (h : DataW.Trod enc Tryz.prog w base spare held 50 v d pl) (hw : ∀ z ∈ d.weights Tryz.prog 50, z ≤ 140737488355328) :
    ∃ (text u : ByteArray) (n p : Nd) (tk fl : Bool) (name : ByteArray) (pm mode : Nat), v = .agg (caseA text u n p tk fl name pm mode) ∧ text.size ≤ 140737488355328 ∧ u.size ≤ 140737488355328 ∧ name.size ≤ 140737488355328 ∧ Short n ∧ Short p ∧ pm < 4294967296 ∧ mode < 256 := by
  obtain ⟨cs, rfl, hsz⟩ := okWide_struct Tryz.underlying50 hv
  obtain ⟨l⟩ := cs
  match l, hsz.trans k_c with
  | c0 :: c1 :: c2 :: c3 :: c4 :: c5 :: c6 :: c7 :: c8 :: c9 :: c10 :: c11 :: c12 :: c13 :: c14 :: c15 :: c16 :: c17 :: c18 :: c19 :: c20 :: c21 :: c22 :: c23 :: c24 :: c25 :: c26 :: c27 :: c28 :: c29 :: c30 :: c31 :: c32 :: [], _ =>
    obtain ⟨fuel, hf⟩ := h
    obtain ⟨xs, n, _, hx, _, hlen, hg⟩ := DataW.trod_struct Tryz.underlying50 hf
    match xs, hlen with
    | [y0, y1, y2, y3, y4, y5], _ =>
      simp only [Prod.mk.injEq] at hx
      obtain ⟨hd, -⟩ := hx
      rw [hd] at hw
      have g0 : DataW.trod enc Tryz.prog w base spare held n 9 [c0] = some y0 := by simpa [Value.cells, k_s] using hg 0 _ rfl
      have g1 : DataW.trod enc Tryz.prog w base spare held n 9 [c1] = some y1 := by simpa [Value.cells, k_s] using hg 1 _ rfl
      have g2 : DataW.trod enc Tryz.prog w base spare held n 48 [c2, c3, c4, c5, c6, c7, c8, c9, c10, c11, c12, c13, c14, c15, c16, c17, c18, c19, c20, c21, c22, c23, c24, c25, c26, c27, c28, c29] = some y2 := by simpa [Value.cells, k_s, k_f] using hg 2 _ rfl
      have g3 : DataW.trod enc Tryz.prog w base spare held n 9 [c30] = some y3 := by simpa [Value.cells, k_s, k_f] using hg 3 _ rfl
      have g4 : DataW.trod enc Tryz.prog w base spare held n 44 [c31] = some y4 := by simpa [Value.cells, k_s, k_f, k_u32] using hg 4 _ rfl
      have g5 : DataW.trod enc Tryz.prog w base spare held n 5 [c32] = some y5 := by simpa [Value.cells, k_s, k_f, k_u32, k_u8] using hg 5 _ rfl
      have hw2 : ∀ z ∈ y2.1.weights Tryz.prog 48, z ≤ 140737488355328 := fun z hz => hw z (by
        unfold DataW.weights
        rw [Tryz.underlying50]
        exact DataW.weights_mem_each (j := 2) (t := 48) (d := y2.1) rfl rfl _ hz)
      obtain ⟨nn, pp, tk, fl, e2, q2, q2'⟩ := facts rfl g2 hw2
      obtain ⟨s0, e0, x0, z0⟩ := DataW.trod_string Tryz.underlying9 g0
      simp only [List.cons.injEq, and_true] at e0
      subst e0
      obtain ⟨s1, e1, x1, z1⟩ := DataW.trod_string Tryz.underlying9 g1
      simp only [List.cons.injEq, and_true] at e1
      subst e1
      obtain ⟨s3, e3, x3, z3⟩ := DataW.trod_string Tryz.underlying9 g3
      simp only [List.cons.injEq, and_true] at e3
      subst e3
      obtain ⟨n4, e4, -, w4⟩ := DataW.trod_int Tryz.underlying44 g4
      simp only [List.cons.injEq, and_true] at e4
      subst e4
      obtain ⟨m4, rfl, b4⟩ := nat_of (m := 4294967295) (bounds_u32 w4)
      obtain ⟨n5, e5, -, w5⟩ := DataW.trod_int Tryz.underlying5 g5
      simp only [List.cons.injEq, and_true] at e5
      subst e5
      obtain ⟨m5, rfl, b5⟩ := nat_of (m := 255) (bounds_u8 w5)
      have q0 : s0.size ≤ 140737488355328 := by
        have e : s0.size = s0.data.toList.length := (Array.length_toList).symm
        rw [e]
        refine hw _ ?_
        unfold DataW.weights
        rw [Tryz.underlying50]
        exact DataW.weights_mem_each (j := 0) (t := 9) (d := y0.1) rfl rfl _ (by rw [x0]; simp [DataW.weights])
      have q1 : s1.size ≤ 140737488355328 := by
        have e : s1.size = s1.data.toList.length := (Array.length_toList).symm
        rw [e]
        refine hw _ ?_
        unfold DataW.weights
        rw [Tryz.underlying50]
        exact DataW.weights_mem_each (j := 1) (t := 9) (d := y1.1) rfl rfl _ (by rw [x1]; simp [DataW.weights])
      have q3 : s3.size ≤ 140737488355328 := by
        have e : s3.size = s3.data.toList.length := (Array.length_toList).symm
        rw [e]
        refine hw _ ?_
        unfold DataW.weights
        rw [Tryz.underlying50]
        exact DataW.weights_mem_each (j := 3) (t := 9) (d := y3.1) rfl rfl _ (by rw [x3]; simp [DataW.weights])
      simp only [Nd.L, List.cons_append, List.nil_append, List.cons.injEq, and_true] at e2
      obtain ⟨rfl, rfl, rfl, rfl, rfl, rfl, rfl, rfl, rfl, rfl, rfl, rfl, rfl, rfl, rfl, rfl, rfl, rfl, rfl, rfl, rfl, rfl, rfl, rfl, rfl, rfl, rfl, rfl⟩ := e2
      exact ⟨s0, s1, nn, pp, tk, fl, s3, m4, m5, rfl, q0, q1, q3, q2, q2', by omega, by omega⟩
end
end Go.Proofs.YteeheapenfklcaaGreatDoor.Ocs
end

section
namespace Go.Proofs.YteeheapenfklcaaGreatDoor
open Go.RowKit
namespace Ru
def B32 (x : Int) : BitVec 32 := BitVec.ofInt 32 x
def B8 (x : Int) : BitVec 8 := BitVec.ofInt 8 x
theorem wrap32_toNat (v : BitVec 32) : IntKind.u32.wrap (v.toNat : Int) = (v.toNat : Int) := by
  have := v.isLt
  simp [IntKind.wrap, IntKind.signed, IntKind.bits]
  try omega
theorem wrap8_toNat (v : BitVec 8) : IntKind.u8.wrap (v.toNat : Int) = (v.toNat : Int) := by
  have := v.isLt
  simp [IntKind.wrap, IntKind.signed, IntKind.bits]
  try omega
theorem and32 (a b : Int) : bits .and .u32 a b = ((B32 a &&& B32 b).toNat : Int) := (show bits .and .u32 a b = IntKind.u32.wrap ((B32 a &&& B32 b).toNat : Int) from rfl).trans (wrap32_toNat _)
theorem or32 (a b : Int) : bits .or .u32 a b = ((B32 a ||| B32 b).toNat : Int) := (show bits .or .u32 a b = IntKind.u32.wrap ((B32 a ||| B32 b).toNat : Int) from rfl).trans (wrap32_toNat _)
theorem xor32 (a b : Int) : bits .xor .u32 a b = ((B32 a ^^^ B32 b).toNat : Int) := (show bits .xor .u32 a b = IntKind.u32.wrap ((B32 a ^^^ B32 b).toNat : Int) from rfl).trans (wrap32_toNat _)
theorem andNot32 (a b : Int) : bits .andNot .u32 a b = ((B32 a &&& ~~~(B32 b)).toNat : Int) := (show bits .andNot .u32 a b = IntKind.u32.wrap ((B32 a &&& ~~~(B32 b)).toNat : Int) from rfl).trans (wrap32_toNat _)
theorem and8 (a b : Int) : bits .and .u8 a b = ((B8 a &&& B8 b).toNat : Int) := (show bits .and .u8 a b = IntKind.u8.wrap ((B8 a &&& B8 b).toNat : Int) from rfl).trans (wrap8_toNat _)
theorem or8 (a b : Int) : bits .or .u8 a b = ((B8 a ||| B8 b).toNat : Int) := (show bits .or .u8 a b = IntKind.u8.wrap ((B8 a ||| B8 b).toNat : Int) from rfl).trans (wrap8_toNat _)
theorem andNot8 (a b : Int) : bits .andNot .u8 a b = ((B8 a &&& ~~~(B8 b)).toNat : Int) := (show bits .andNot .u8 a b = IntKind.u8.wrap ((B8 a &&& ~~~(B8 b)).toNat : Int) from rfl).trans (wrap8_toNat _)
theorem B32_toNat (v : BitVec 32) : B32 (v.toNat : Int) = v := by unfold B32; simp
theorem B8_toNat (v : BitVec 8) : B8 (v.toNat : Int) = v := by unfold B8; simp
theorem B32_nat (n : Nat) (i : Nat) : (B32 (n : Int)).getLsbD i = (decide (i < 32) && n.testBit i) := by unfold B32; simp [BitVec.getLsbD_ofNat]
theorem B8_nat (n : Nat) (i : Nat) : (B8 (n : Int)).getLsbD i = (decide (i < 8) && n.testBit i) := by unfold B8; simp [BitVec.getLsbD_ofNat]
theorem cast_zero {k : Nat} (v : BitVec k) : ((v.toNat : Int) = 0) ↔ v = 0#k := by
  constructor
  · intro h
    apply BitVec.eq_of_toNat_eq
    simpa using h
  · intro h
    rw [h]; rfl
theorem zero_iff {k : Nat} (v : BitVec k) : v = 0#k ↔ ∀ i, v.getLsbD i = false := by
  constructor
  · intro h i
    rw [h]; simp
  · intro h
    exact BitVec.eq_of_getLsbD_eq (fun i _ => by rw [h i]; simp)
theorem or8_bit (a b : Int) (i : Nat) : (B8 (bits .or .u8 a b)).getLsbD i = ((B8 a).getLsbD i || (B8 b).getLsbD i) := by rw [or8, B8_toNat, BitVec.getLsbD_or]
theorem or32_bit (a b : Int) (i : Nat) : (B32 (bits .or .u32 a b)).getLsbD i = ((B32 a).getLsbD i || (B32 b).getLsbD i) := by rw [or32, B32_toNat, BitVec.getLsbD_or]
theorem and32_bit (a b : Int) (i : Nat) : (B32 (bits .and .u32 a b)).getLsbD i = ((B32 a).getLsbD i && (B32 b).getLsbD i) := by rw [and32, B32_toNat, BitVec.getLsbD_and]
theorem andNot32_bit (a b : Int) (i : Nat) : (B32 (bits .andNot .u32 a b)).getLsbD i = ((B32 a).getLsbD i && (decide (i < 32) && !(B32 b).getLsbD i)) := by rw [andNot32, B32_toNat, BitVec.getLsbD_and, BitVec.getLsbD_not]
theorem xor32_bit (a b : Int) (i : Nat) : (B32 (bits .xor .u32 a b)).getLsbD i = ((B32 a).getLsbD i ^^ (B32 b).getLsbD i) := by rw [xor32, B32_toNat, BitVec.getLsbD_xor]
/-- Three bits of a mode, at a place. -/
theorem part_bit (m j : Nat) (i : Nat) : (B8 (bits .and .u32 ((m : Int) / ((2 ^ j : Nat) : Int)) 7 % 256)).getLsbD i = (decide (i < 3) && (decide (i + j < 32 + j) && m.testBit (i + j))) := by
  have e1 : ((m : Int) / ((2 ^ j : Nat) : Int)) = ((m / 2 ^ j : Nat) : Int) := by simp
  rw [e1, and32]
  have e2 : B32 ((m / 2 ^ j : Nat) : Int) &&& B32 7 = BitVec.ofNat 32 (m / 2 ^ j % 8) := by
    refine BitVec.eq_of_getLsbD_eq (fun i hi => ?_)
    rw [BitVec.getLsbD_and, B32_nat, show (7 : Int) = ((7 : Nat) : Int) from rfl, B32_nat, BitVec.getLsbD_ofNat]
    rw [show (8 : Nat) = 2 ^ 3 from rfl, Nat.testBit_mod_two_pow]
    have h7 : Nat.testBit 7 i = decide (i < 3) := by
      rw [show (7 : Nat) = 2 ^ 3 - 1 from rfl, Nat.testBit_two_pow_sub_one]
    rw [h7]
    cases decide (i < 32) <;> cases decide (i < 3) <;> cases Nat.testBit (m / 2 ^ j) i <;> rfl
  rw [e2, BitVec.toNat_ofNat]
  have e3 : ((m / 2 ^ j % 8 % 2 ^ 32 : Nat) : Int) % 256 = ((m / 2 ^ j % 8 : Nat) : Int) := by omega
  rw [e3, B8_nat, show (8 : Nat) = 2 ^ 3 from rfl, Nat.testBit_mod_two_pow, Nat.testBit_div_two_pow]
  have : decide (i + j < 32 + j) = decide (i < 32) := by congr 1; simp
  rw [this]
  by_cases h : i < 3
  · have h8 : i < 2 ^ 3 := by omega
    have h32 : i < 32 := by omega
    simp [h, h8, h32, Nat.add_comm]
  · simp [h]
/-- A right of a mode: bit i. -/
def rbit (y q : Bool) (m i : Nat) : Bool := (y && m.testBit (i + 6)) || (q && m.testBit (i + 3)) || m.testBit i
theorem rOf_bit (y q : Bool) (m i : Nat) : (B8 (rOf y q m)).getLsbD i = (decide (i < 3) && rbit y q m i) := by
  have p6 := part_bit m 6 i
  have p3 := part_bit m 3 i
  have p0 := part_bit m 0 i
  simp only [Nat.reducePow, Nat.pow_zero, Int.natCast_one, Int.ediv_one, Nat.add_zero, show (((64 : Nat) : Int)) = 64 from rfl, show (((8 : Nat) : Int)) = 8 from rfl] at p6 p3 p0
  unfold rOf rbit
  have b0 : ∀ i, (B8 0).getLsbD i = false := fun i => by unfold B8; simp
  by_cases h : i < 3
  · have h2 : i < 32 := by omega
    have h4 : i + 3 < 32 + 3 := by omega
    have h5 : i + 6 < 32 + 6 := by omega
    cases y <;> cases q <;> simp only [or8_bit, p6, p3, p0, b0, h, h2, h4, h5, if_true, if_false, Bool.false_eq_true] <;> simp
  · cases y <;> cases q <;> simp only [or8_bit, p6, p3, p0, b0, h, if_true, if_false, Bool.false_eq_true] <;> simp
theorem mayV_iff (T : List Us.Acc) (u : ByteArray) (d : Nd) (x : Int) : mayV T u d x = true ↔ ∀ i, (B8 x).getLsbD i = true → i < 3 ∧ rbit (decide (u = d.uid)) (Us.member T u d.gid) d.mode i = true := by
  unfold mayV rightsV
  rw [andNot8, beq_iff_eq, cast_zero, zero_iff]
  constructor
  · intro h i hi
    have h1 := h i
    rw [BitVec.getLsbD_and, BitVec.getLsbD_not, rOf_bit, hi] at h1
    have h8 : i < 8 := by
      have := BitVec.lt_of_getLsbD hi
      exact this
    simp only [h8, decide_true, Bool.true_and, Bool.not_eq_false'] at h1
    simp at h1
    exact h1
  · intro h i
    rw [BitVec.getLsbD_and, BitVec.getLsbD_not, rOf_bit]
    cases hx : (B8 x).getLsbD i with
    | false => simp
    | true =>
      obtain ⟨h1, h2⟩ := h i hx
      simp [h1, h2]
theorem dirV_iff (d : Nd) : dirV d = d.mode.testBit 31 := by
  unfold dirV
  rw [and32]
  have hb : ∀ i, (B32 2147483648).getLsbD i = decide (i = 31) := fun i => by
    rw [show (2147483648 : Int) = ((2 ^ 31 : Nat) : Int) from rfl, B32_nat, Nat.testBit_two_pow]
    by_cases h : i = 31
    · subst h; rfl
    · simp [h]; omega
  cases hd : d.mode.testBit 31 with
  | false =>
    have : B32 (d.mode : Int) &&& B32 2147483648 = 0#32 := (zero_iff _).2 (fun i => by
      rw [BitVec.getLsbD_and, hb, B32_nat]
      by_cases h : i = 31
      · subst h; simp [hd]
      · simp [h])
    rw [this]; rfl
  | true =>
    simp only [bne_iff_ne, ne_eq]
    intro h
    rw [cast_zero, zero_iff] at h
    have := h 31
    rw [BitVec.getLsbD_and, hb, B32_nat, hd] at this
    simp at this
end Ru
end Go.Proofs.YteeheapenfklcaaGreatDoor
end

section
namespace Go.Proofs.YteeheapenfklcaaGreatDoor
open Go.RowKit
namespace Ru
def moreM (m : Nat) (x : Int) : Nat := (B32 (m : Int) ||| (B32 x &&& B32 511)).toNat
theorem moreM_cast (m : Nat) (x : Int) : bits .or .u32 (m : Int) (bits .and .u32 x 511) = (moreM m x : Int) := by
  unfold moreM
  rw [or32, and32, B32_toNat]
theorem c511 (i : Nat) : (B32 511).getLsbD i = decide (i < 9) := by
  rw [show (511 : Int) = ((2 ^ 9 - 1 : Nat) : Int) from rfl, B32_nat, Nat.testBit_two_pow_sub_one]
  by_cases h : i < 9
  · have : i < 32 := by omega
    simp [h, this]
  · simp [h]
theorem moreM_bit (m : Nat) (x : Int) (i : Nat) (h : i < 32) : (moreM m x).testBit i = (m.testBit i || ((B32 x).getLsbD i && decide (i < 9))) := by
  unfold moreM
  rw [BitVec.testBit_toNat, BitVec.getLsbD_or, BitVec.getLsbD_and, B32_nat, c511]
  simp [h]
/-- A node with more rights. -/
def Nd.more (d : Nd) (x : Int) : Nd := { d with mode := moreM d.mode x }
theorem more_rbit (y q : Bool) (m : Nat) (x : Int) (i : Nat) (hi : i < 3) (h : rbit y q m i = true) : rbit y q (moreM m x) i = true := by
  unfold rbit at h ⊢
  rw [moreM_bit m x i (by omega), moreM_bit m x (i + 3) (by omega), moreM_bit m x (i + 6) (by omega)]
  simp only [Bool.or_eq_true, Bool.and_eq_true] at h ⊢
  rcases h with (⟨h1, h2⟩ | ⟨h1, h2⟩) | h
  · exact Or.inl (Or.inl ⟨h1, Or.inl h2⟩)
  · exact Or.inl (Or.inr ⟨h1, Or.inl h2⟩)
  · exact Or.inr (Or.inl h)
theorem more_may (T : List Us.Acc) (u : ByteArray) (d : Nd) (x c : Int) (h : mayV T u d c = true) : mayV T u (d.more x) c = true := by
  rw [mayV_iff] at h ⊢
  intro i hi
  obtain ⟨h1, h2⟩ := h i hi
  exact ⟨h1, more_rbit _ _ _ _ _ h1 h2⟩
theorem more_dir (d : Nd) (x : Int) : dirV (d.more x) = dirV d := by
  rw [dirV_iff, dirV_iff]
  show (moreM d.mode x).testBit 31 = _
  rw [moreM_bit _ _ _ (by decide)]
  simp
theorem bit_zero (m : Nat) (k : Nat) (hk : k < 32) : bits .and .u32 (m : Int) ((2 ^ k : Nat) : Int) = 0 ↔ m.testBit k = false := by
  have hb : ∀ i, (B32 ((2 ^ k : Nat) : Int)).getLsbD i = decide (i = k) := fun i => by
    rw [B32_nat, Nat.testBit_two_pow]
    by_cases h : i = k
    · subst h; simp [hk]
    · have : ¬ k = i := fun e => h e.symm
      simp [h, this]
  rw [and32, cast_zero, zero_iff]
  constructor
  · intro h
    have := h k
    rw [BitVec.getLsbD_and, hb, B32_nat] at this
    simpa [hk] using this
  · intro h i
    rw [BitVec.getLsbD_and, hb, B32_nat]
    by_cases e : i = k
    · subst e; simp [h]
    · simp [e]
theorem more_excl (d : Nd) (x : Int) : bits .and .u32 ((d.more x).mode : Int) 536870912 = 0 ↔ bits .and .u32 (d.mode : Int) 536870912 = 0 := by
  rw [show (536870912 : Int) = ((2 ^ 29 : Nat) : Int) from rfl, bit_zero _ _ (by decide), bit_zero _ _ (by decide)]
  show (moreM d.mode x).testBit 29 = false ↔ _
  rw [moreM_bit _ _ _ (by decide)]
  simp
theorem more_open (T : List Us.Acc) (u : ByteArray) (n p : Nd) (x y mode : Int) (h : openE T u n p mode = 0) : openE T u (n.more x) (p.more y) mode = 0 := by
  unfold openE at h ⊢
  by_cases h1 : wantsE mode = 0
  · rw [if_pos h1] at h ⊢
    rw [more_dir]
    by_cases h2 : dirV n = true ∧ mode ≠ 0
    · rw [if_pos h2] at h; cases h
    · rw [if_neg h2] at h ⊢
      by_cases h3 : mayV T u n (wantsV mode) = false
      · rw [if_pos h3] at h; cases h
      · rw [if_neg h3] at h
        rw [if_neg (by rw [more_may T u n x _ (by simpa using h3)]; simp)]
        by_cases h4 : bits .and .u8 mode 64 ≠ 0 ∧ mayV T u p 2 = false
        · rw [if_pos h4] at h; cases h
        · rw [if_neg h4] at h
          have h4' : ¬ (bits .and .u8 mode 64 ≠ 0 ∧ mayV T u (p.more y) 2 = false) := fun ⟨a, b⟩ => h4 ⟨a, by
            cases hp : mayV T u p 2 with
            | false => rfl
            | true => rw [more_may T u p y _ hp] at b; cases b⟩
          rw [if_neg h4']
          by_cases h5 : bits .and .u32 (n.mode : Int) 536870912 ≠ 0 ∧ 0 < n.opens
          · rw [if_pos h5] at h; cases h
          · rw [if_neg (fun ⟨a, b⟩ => h5 ⟨fun e => a ((more_excl n x).2 e), b⟩)]
  · rw [if_neg h1] at h
    exact absurd h h1
theorem more_remove (T : List Us.Acc) (u : ByteArray) (n p : Nd) (x y : Int) (h : removeE T u n p = 0) : removeE T u (n.more x) (p.more y) = 0 := by
  unfold removeE at h ⊢
  rw [more_dir]
  by_cases h1 : ((n.path : Int) == 1) = true ∨ mayV T u p 2 = false
  · rw [if_pos h1] at h; cases h
  · rw [if_neg h1] at h
    have h1' : ¬ (((((n.more x).path : Nat) : Int) == 1) = true ∨ mayV T u (p.more y) 2 = false) := by
      rintro (a | b)
      · exact h1 (Or.inl a)
      · cases hp : mayV T u p 2 with
        | false => exact h1 (Or.inr hp)
        | true => rw [more_may T u p y _ hp] at b; cases b
    rw [if_neg h1']
    by_cases h2 : dirV n = true ∧ 0 < n.kids
    · rw [if_pos h2] at h; cases h
    · exact if_neg h2
theorem more_step (T : List Us.Acc) (u : ByteArray) (n : Nd) (x : Int) (h : stepE T u n = 0) : stepE T u (n.more x) = 0 := by
  unfold stepE at h ⊢
  rw [more_dir]
  by_cases h1 : dirV n = false
  · rw [if_pos h1] at h; cases h
  · rw [if_neg h1] at h ⊢
    by_cases h2 : mayV T u n 1 = false
    · rw [if_pos h2] at h; cases h
    · rw [if_neg (by rw [more_may T u n x _ (by simpa using h2)]; simp)]
theorem more_make (T : List Us.Acc) (u : ByteArray) (n : Nd) (tk fl : Bool) (name : ByteArray) (pm mode x : Int) (h : makeE T u n tk fl name pm mode = 0) : makeE T u (n.more x) tk fl name pm mode = 0 := by
  unfold makeE at h ⊢
  rw [more_dir]
  by_cases h1 : dirV n = false
  · rw [if_pos h1] at h; cases h
  rw [if_neg h1] at h ⊢
  by_cases h2 : Nm.chk name = false
  · rw [if_pos h2] at h; cases h
  rw [if_neg h2] at h ⊢
  by_cases h3 : permE pm ≠ 0 ∨ wantsE mode ≠ 0
  · rw [if_pos h3] at h; cases h
  rw [if_neg h3] at h ⊢
  by_cases h4 : bits .and .u32 pm 2147483648 ≠ 0 ∧ mode ≠ 0
  · rw [if_pos h4] at h; cases h
  rw [if_neg h4] at h ⊢
  by_cases h5 : mayV T u n 2 = false
  · rw [if_pos h5] at h; cases h
  rw [if_neg h5] at h
  rw [if_neg (by rw [more_may T u n x _ (by simpa using h5)]; simp)]
  exact h
end Ru
end Go.Proofs.YteeheapenfklcaaGreatDoor
end

section
namespace Go.Proofs.YteeheapenfklcaaGreatDoor
set_option linter.unusedVariables false
open Go.RowKit Go.Shelf
attribute [local go_sem] Oper.semAt_some
namespace Ru
open Go.Proofs.YteeheapenfklcaaGreatDoor.Utf Go.Proofs.YteeheapenfklcaaGreatDoor.Txt Go.PlainAid Go.Proofs.YteeheapenfklcaaGreatDoor.Mpf Go.Proofs.YteeheapenfklcaaGreatDoor.Us

/-- What Create makes. -/
def createA (T : List Acc) (u : ByteArray) (n : Nd) (tk fl : Bool) (name : ByteArray) (pm mode : Int) : Array Value :=
  if makeE T u n tk fl name pm mode = 0 then #[.int .u64 0, .int .u64 n.path, .string name, .int .u32 (modeInV n.mode pm), .string u, .string n.gid, .string u, .int .u32 0, .int .u32 0, .int .u32 0, .int .u64 0, .int .i64 0, .int .i64 0] else #[.int .u64 0, .int .u64 0, .string ⟨#[]⟩, .int .u32 0, .string ⟨#[]⟩, .string ⟨#[]⟩, .string ⟨#[]⟩, .int .u32 0, .int .u32 0, .int .u32 0, .int .u64 0, .int .i64 0, .int .i64 0]
theorem createA_ok (T : List Acc) (u : ByteArray) (n : Nd) (tk fl : Bool) (name : ByteArray) (pm mode : Int) : (createA T u n tk fl name pm mode).size = 13 ∧ (createA T u n tk fl name pm mode).all (·.oneCell') = true := by
  unfold createA
  split
  · exact ⟨rfl, by simp [Value.oneCell']⟩
  · exact ⟨rfl, by simp [Value.oneCell']⟩
theorem Create_any {w : World} {B q : Nat} {T : List Acc} (h : Tb w B q T) (u : ByteArray) (n p : Nd) (tk fl : Bool) (name : ByteArray) (pm mode : Int) (hu : u.size ≤ maxLen) (hg : n.gid.size ≤ maxLen) (hn : name.size ≤ 140737488355328) :
    Calls Tryz.prog 35 #[.pointer (some ⟨q, 0, none⟩), .string u, .agg #[.int .u64 n.path, .int .u64 n.parent, .string n.name, .int .u32 n.mode, .string n.uid, .string n.gid, .string n.muid, .int .u32 n.atime, .int .u32 n.mtime, .int .u32 n.vers, .int .u64 n.length, .int .i64 n.opens, .int .i64 n.kids, .int .u64 p.path, .int .u64 p.parent, .string p.name, .int .u32 p.mode, .string p.uid, .string p.gid, .string p.muid, .int .u32 p.atime, .int .u32 p.mtime, .int .u32 p.vers, .int .u64 p.length, .int .i64 p.opens, .int .i64 p.kids, .bool tk, .bool fl], .string name, .int .u32 pm, .int .u8 mode] w fun e w' => e = .returned (.tuple #[.agg (createA T u n tk fl name pm mode), .int .i64 (makeE T u n tk fl name pm mode)]) ∧ Kept [] w w' := by
  by_cases hz : makeE T u n tk fl name pm mode = 0
  · have := Create_ok h u n p tk fl name pm mode hu hg hn hz (modeInV n.mode pm) rfl
    unfold createA
    rw [if_pos hz, hz]
    exact this
  · have := Create_no h u n p tk fl name pm mode hu hg hn _ rfl hz
    unfold createA
    rw [if_neg hz]
    exact this
theorem Bf.made (w : World) (n p : Nd) (tk fl : Bool) : Bf (w.alloc (.cells #[.int .u64 n.path, .int .u64 n.parent, .string n.name, .int .u32 n.mode, .string n.uid, .string n.gid, .string n.muid, .int .u32 n.atime, .int .u32 n.mtime, .int .u32 n.vers, .int .u64 n.length, .int .i64 n.opens, .int .i64 n.kids, .int .u64 p.path, .int .u64 p.parent, .string p.name, .int .u32 p.mode, .string p.uid, .string p.gid, .string p.muid, .int .u32 p.atime, .int .u32 p.mtime, .int .u32 p.vers, .int .u64 p.length, .int .i64 p.opens, .int .i64 p.kids, .bool tk, .bool fl] 48)) w.heap.size n p tk fl := (MapKept.heap_alloc w _).1
theorem wpList_sfacts {w : World} {ops : Array Oper} {rest : List Oper} {o : Oper} {a : Act} {Q : Exit → Act → World → Prop} (hgd : o.guard = none) (x y : Operand) (ho : o.op = .store 48 x y) (g : Nat) (hx : a.eval x = .pointer (some ⟨g, 0, none⟩)) (old cs : Array Value)
    (hy : a.eval y = .agg cs) (hg : w.heap[g]? = some (.cells old 48 (0, 0))) (hs : old.size = 28) (hc : cs.size = 28) (h1 : cs.all (·.oneCell') = true)
    (h : ∀ w', w'.heap[g]? = some (.cells cs 48 (0, 0)) → Kept [g] w w' → wpList Tryz.prog ops Q rest (a.put o.dst undef) w') : wpList Tryz.prog ops Q (o :: rest) a w :=
  wpList_plain hgd fun K hK => by
    have := run_storeVar_row (P := Tryz.prog) w g 48 48 old cs hg (by rw [hc]; exact size_f8) (by rw [hs, hc]) h1
    unfold Oper.wp execOp
    simp only [ho, hx, hy, Instr.storeAt, Instr.sureAddr, Sem.run_bind, Sem.run_pure, Result.andThen_ok, this]
    exact hK _ _ (h _ (setRow_heap w g old cs 48 (0, 0) hg) ⟨rfl, rfl, rfl, by simp [World.setRow], fun k _ hk => setRow_other w g k _ (by simpa using hk)⟩)
theorem ml_kept {w w' : World} (h : Ml w) (k : Kept [] w w') : Ml w' := by
  obtain ⟨m, hc⟩ := h
  exact ⟨m, by rw [← hc]; exact World.cell?_of_block (k.block _ (World.block_lt_of_cell? w _ hc) (by simp))⟩
end Ru
end Go.Proofs.YteeheapenfklcaaGreatDoor
end

section
namespace Go.Proofs.YteeheapenfklcaaGreatDoor
set_option linter.unusedVariables false
open Go.RowKit
namespace Ru
/-- The rights of the classes together. -/
def rN (y q : Bool) (m : Nat) : Nat := ((m % 8) ||| (if y = true then m / 64 % 8 else 0)) ||| (if q = true then m / 8 % 8 else 0)
theorem b8 (m j i : Nat) : (m / 2 ^ j % 8).testBit i = (decide (i < 3) && m.testBit (i + j)) := by
  rw [show (8 : Nat) = 2 ^ 3 from rfl, Nat.testBit_mod_two_pow, Nat.testBit_div_two_pow]
theorem rN_bit (y q : Bool) (m i : Nat) : (rN y q m).testBit i = (decide (i < 3) && rbit y q m i) := by
  have h6 := b8 m 6 i
  have h3 := b8 m 3 i
  have h0 := b8 m 0 i
  simp only [Nat.reducePow, Nat.pow_zero, Nat.div_one, Nat.add_zero] at h6 h3 h0
  unfold rN rbit
  rw [Nat.testBit_or, Nat.testBit_or, h0]
  cases y <;> cases q <;> simp [h6, h3] <;> cases decide (i < 3) <;> simp [Bool.or_comm, Bool.or_left_comm]
theorem rN_le (y q : Bool) (m : Nat) : rN y q m ≤ 7 := by
  have : rN y q m < 2 ^ 3 := Nat.lt_pow_two_of_testBit _ (fun i hi => by
    rw [rN_bit]
    have : ¬ i < 3 := by omega
    simp [this])
  omega
theorem rOf_nat (y q : Bool) (m : Nat) : rOf y q m = (rN y q m : Int) := by
  have e : ∃ v : BitVec 8, rOf y q m = (v.toNat : Int) := ⟨_, by unfold rOf; exact or8 _ _⟩
  obtain ⟨v, hv⟩ := e
  rw [hv]
  congr 1
  refine Nat.eq_of_testBit_eq (fun i => ?_)
  have h := rOf_bit y q m i
  rw [hv, B8_toNat] at h
  rw [BitVec.testBit_toNat, h, rN_bit]
theorem and_nat (a b : Nat) (ha : a < 4294967296) (hb : b < 4294967296) : bits .and .u32 (a : Int) (b : Int) = ((a &&& b : Nat) : Int) := by
  rw [and32, BitVec.toNat_and]
  congr 1
  unfold B32
  simp
  rw [Nat.mod_eq_of_lt ha, Nat.mod_eq_of_lt hb]
theorem or_nat (a b : Nat) (ha : a < 4294967296) (hb : b < 4294967296) : bits .or .u32 (a : Int) (b : Int) = ((a ||| b : Nat) : Int) := by
  rw [or32, BitVec.toNat_or]
  congr 1
  unfold B32
  simp
  rw [Nat.mod_eq_of_lt ha, Nat.mod_eq_of_lt hb]
/-- What a user may, as a number. -/
def ownN (T : List Us.Acc) (u : ByteArray) (d : Nd) : Nat := rN (decide (u = d.uid)) (Us.member T u d.gid) d.mode
theorem rightsV_nat (T : List Us.Acc) (u : ByteArray) (d : Nd) : rightsV T u d = (ownN T u d : Int) := rOf_nat _ _ _
theorem ownN_le (T : List Us.Acc) (u : ByteArray) (d : Nd) : ownN T u d ≤ 7 := rN_le _ _ _
theorem may_bits (T : List Us.Acc) (u : ByteArray) (d : Nd) (x : Nat) (hx : x ≤ 7) : mayV T u d (x : Int) = true ↔ ownN T u d &&& x = x := by
  rw [mayV_iff]
  constructor
  · intro h
    refine Nat.eq_of_testBit_eq (fun i => ?_)
    rw [Nat.testBit_and]
    cases hxi : x.testBit i with
    | false => simp
    | true =>
      have hlt : i < 8 := by
        refine Classical.byContradiction (fun hn => ?_)
        have : x < 2 ^ i := Nat.lt_of_lt_of_le (by omega : x < 2 ^ 3) (Nat.pow_le_pow_right (by decide) (by omega))
        rw [Nat.testBit_lt_two_pow this] at hxi
        cases hxi
      obtain ⟨h1, h2⟩ := h i (by rw [B8_nat, hxi]; simp [hlt])
      unfold ownN
      rw [rN_bit, h2]
      simp [h1]
  · intro h i hi
    rw [B8_nat] at hi
    simp only [Bool.and_eq_true, decide_eq_true_eq] at hi
    have h2 : (ownN T u d &&& x).testBit i = true := by rw [h]; exact hi.2
    rw [Nat.testBit_and] at h2
    simp only [Bool.and_eq_true] at h2
    unfold ownN at h2
    rw [rN_bit] at h2
    simpa using h2.1
theorem may_and (T : List Us.Acc) (u : ByteArray) (d : Nd) (x : Nat) (hx : x ≤ 7) : mayV T u d (x : Int) = true ↔ bits .and .u32 (ownN T u d : Int) (x : Int) = (x : Int) := by
  have := ownN_le T u d
  rw [may_bits T u d x hx, and_nat _ _ (by omega) (by omega)]
  constructor
  · intro h; rw [h]
  · intro h; exact_mod_cast h
theorem and_le (a x : Nat) : a &&& x ≤ x := Nat.and_le_right
theorem may_two (T : List Us.Acc) (u : ByteArray) (d : Nd) : mayV T u d 2 = true ↔ bits .and .u32 (ownN T u d : Int) 2 ≠ 0 := by
  have h := may_and T u d 2 (by decide)
  rw [show ((2 : Nat) : Int) = 2 from rfl] at h
  rw [h]
  have := ownN_le T u d
  have e : bits .and .u32 (ownN T u d : Int) 2 = ((ownN T u d &&& 2 : Nat) : Int) := and_nat _ 2 (by omega) (by decide)
  rw [e]
  have : ∀ k : Fin 8, (k.1 &&& 2 : Nat) = 2 ∨ (k.1 &&& 2 : Nat) = 0 := by decide
  rcases this ⟨ownN T u d, by omega⟩ with h | h <;> simp only [] at h <;> rw [h] <;> decide
theorem may_one (T : List Us.Acc) (u : ByteArray) (d : Nd) : mayV T u d 1 = true ↔ bits .and .u32 (ownN T u d : Int) 1 ≠ 0 := by
  have h := may_and T u d 1 (by decide)
  rw [show ((1 : Nat) : Int) = 1 from rfl] at h
  rw [h]
  have := ownN_le T u d
  have e : bits .and .u32 (ownN T u d : Int) 1 = ((ownN T u d &&& 1 : Nat) : Int) := and_nat _ 1 (by omega) (by decide)
  rw [e]
  have : ∀ k : Fin 8, (k.1 &&& 1 : Nat) = 1 ∨ (k.1 &&& 1 : Nat) = 0 := by decide
  rcases this ⟨ownN T u d, by omega⟩ with h | h <;> simp only [] at h <;> rw [h] <;> decide
theorem wantsV_nat (mode : Int) : ∃ k : Nat, wantsV mode = (k : Int) ∧ k ≤ 7 ∧ (wantsE mode = 0 → 0 < k) := by
  unfold wantsV wantsE
  by_cases h : bits .andNot .u8 mode 83 = 0
  · rw [if_pos h, if_pos h]
    have hw : ∀ c, wantsOfV c = 4 ∨ wantsOfV c = 2 ∨ wantsOfV c = 6 ∨ wantsOfV c = 1 := fun c => by
      unfold wantsOfV
      split
      · exact Or.inl rfl
      · split
        · exact Or.inr (Or.inl rfl)
        · split
          · exact Or.inr (Or.inr (Or.inl rfl))
          · exact Or.inr (Or.inr (Or.inr rfl))
    split
    · rcases hw (bits .and .u8 mode 3) with e | e | e | e <;> rw [e]
      · exact ⟨4, rfl, by decide, fun _ => by decide⟩
      · exact ⟨2, rfl, by decide, fun _ => by decide⟩
      · exact ⟨6, rfl, by decide, fun _ => by decide⟩
      · exact ⟨1, rfl, by decide, fun _ => by decide⟩
    · rcases hw (bits .and .u8 mode 3) with e | e | e | e <;> rw [e]
      · exact ⟨6, by decide, by decide, fun _ => by decide⟩
      · exact ⟨2, by decide, by decide, fun _ => by decide⟩
      · exact ⟨6, by decide, by decide, fun _ => by decide⟩
      · exact ⟨3, by decide, by decide, fun _ => by decide⟩
  · rw [if_neg h, if_neg h]
    exact ⟨0, rfl, by decide, fun h => by cases h⟩
theorem open_ok {T : List Us.Acc} {u : ByteArray} {n p : Nd} {mode : Int} (h : openE T u n p mode = 0) : wantsE mode = 0 ∧ (dirV n = true → mode = 0) ∧ mayV T u n (wantsV mode) = true ∧ (bits .and .u8 mode 64 ≠ 0 → mayV T u p 2 = true) := by
  unfold openE at h
  by_cases h1 : wantsE mode = 0
  · rw [if_pos h1] at h
    by_cases h2 : dirV n = true ∧ mode ≠ 0
    · rw [if_pos h2] at h; cases h
    rw [if_neg h2] at h
    by_cases h3 : mayV T u n (wantsV mode) = false
    · rw [if_pos h3] at h; cases h
    rw [if_neg h3] at h
    by_cases h4 : bits .and .u8 mode 64 ≠ 0 ∧ mayV T u p 2 = false
    · rw [if_pos h4] at h; cases h
    refine ⟨h1, fun hd => Classical.byContradiction (fun hm => h2 ⟨hd, hm⟩), by simpa using h3, fun hb => ?_⟩
    cases hp : mayV T u p 2 with
    | true => rfl
    | false => exact absurd ⟨hb, hp⟩ h4
  · rw [if_neg h1] at h
    exact absurd h h1
theorem make_ok {T : List Us.Acc} {u : ByteArray} {n : Nd} {tk fl : Bool} {name : ByteArray} {pm mode : Int} (h : makeE T u n tk fl name pm mode = 0) :
    dirV n = true ∧ Nm.chk name = true ∧ permE pm = 0 ∧ wantsE mode = 0 ∧ ¬ (bits .and .u32 pm 2147483648 ≠ 0 ∧ mode ≠ 0) ∧ mayV T u n 2 = true ∧ tk = false ∧ fl = false := by
  unfold makeE at h
  by_cases h1 : dirV n = false
  · rw [if_pos h1] at h; cases h
  rw [if_neg h1] at h
  by_cases h2 : Nm.chk name = false
  · rw [if_pos h2] at h; cases h
  rw [if_neg h2] at h
  by_cases h3 : permE pm ≠ 0 ∨ wantsE mode ≠ 0
  · rw [if_pos h3] at h; cases h
  rw [if_neg h3] at h
  by_cases h4 : bits .and .u32 pm 2147483648 ≠ 0 ∧ mode ≠ 0
  · rw [if_pos h4] at h; cases h
  rw [if_neg h4] at h
  by_cases h5 : mayV T u n 2 = false
  · rw [if_pos h5] at h; cases h
  rw [if_neg h5] at h
  cases tk with
  | true => simp at h
  | false =>
    cases fl with
    | true => simp at h
    | false =>
      have a : permE pm = 0 := Classical.byContradiction (fun hn => h3 (Or.inl hn))
      have b : wantsE mode = 0 := Classical.byContradiction (fun hn => h3 (Or.inr hn))
      exact ⟨by simpa using h1, by simpa using h2, a, b, h4, by simpa using h5, rfl, rfl⟩
theorem remove_ok {T : List Us.Acc} {u : ByteArray} {n p : Nd} (h : removeE T u n p = 0) : ((n.path : Int) == 1) = false ∧ mayV T u p 2 = true := by
  unfold removeE at h
  by_cases h1 : ((n.path : Int) == 1) = true ∨ mayV T u p 2 = false
  · rw [if_pos h1] at h; cases h
  · exact ⟨by cases hp : ((n.path : Int) == 1) with
      | true => exact absurd (Or.inl hp) h1
      | false => rfl, by cases hp : mayV T u p 2 with
      | false => exact absurd (Or.inr hp) h1
      | true => rfl⟩
theorem step_iff (T : List Us.Acc) (u : ByteArray) (n : Nd) : stepE T u n = 0 ↔ mayV T u n 1 = true ∧ dirV n = true := by
  unfold stepE
  cases dirV n <;> cases mayV T u n 1 <;> simp
end Ru
end Go.Proofs.YteeheapenfklcaaGreatDoor
end

section
namespace Go.Proofs.YteeheapenfklcaaGreatDoor
set_option linter.unusedVariables false
open Go.RowKit Go.Shelf
theorem eqk_refl (s : Rec) : ∀ k, eqk s s k = true := fun k => by unfold eqk; split <;> simp
theorem tk_self (s : Rec) (k : Nat) : tk s s k = false := by unfold tk; rw [eqk_refl s k]; simp
theorem tk_keep (h : Rec) (k : Nat) : tk keepR h k = false := by unfold tk; rw [eqk_refl keepR k]; rfl
namespace Ru
open Go.Proofs.YteeheapenfklcaaGreatDoor.Utf Go.Proofs.YteeheapenfklcaaGreatDoor.Txt Go.PlainAid Go.Proofs.YteeheapenfklcaaGreatDoor.Mpf Go.Proofs.YteeheapenfklcaaGreatDoor.Us
theorem firstE_skip {r : Nat → Int} {t : Nat → Bool} {a : Nat} : ∀ j, (∀ i, a ≤ i → i < a + j → t i = false) → firstE r t (a + j) = firstE r t a
  | 0, _ => rfl
  | j + 1, h => by
    have ih := firstE_skip (r := r) j (fun i h1 h2 => h i h1 (by omega))
    show firstE r t (a + j + 1) = _
    simp only [firstE, ih, h (a + j) (by omega) (by omega)]
    by_cases h0 : firstE r t a = 0
    · simp [h0]
    · simp [h0]
theorem firstE_zero {r : Nat → Int} {t : Nat → Bool} (n : Nat) (h : ∀ i, i < n → t i = false) : firstE r t n = 0 := by
  have := firstE_skip (r := r) (t := t) (a := 0) n (fun i _ h2 => h i (by omega))
  rw [Nat.zero_add] at this
  exact this
theorem firstE_one {r : Nat → Int} {t : Nat → Bool} {k : Nat} (hk : k < 13) (h : ∀ j, j ≠ k → t j = false) : firstE r t 13 = if t k = true then r k else 0 := by
  have h1 := firstE_zero (r := r) k (fun i hi => h i (by omega))
  have h2 := firstE_skip (r := r) (t := t) (a := k + 1) (12 - k) (fun i h1 h2 => h i (by omega))
  rw [show k + 1 + (12 - k) = 13 by omega] at h2
  rw [h2]
  simp [firstE, h1]
theorem setN_none {f : Nat → Nd → Nd} {t : Nat → Bool} {x : Nd} (h : ∀ k, t k = false) : ∀ n, setN f t x n = x
  | 0 => rfl
  | n + 1 => by rw [setN_off (h n), setN_none h n]
theorem wst_none {T : List Acc} {u : ByteArray} {n p : Nd} {tk : Bool} {s : Wn} (h : ∀ k, tkn s n k = false) : wstE T u n p tk s = 0 ∧ wstN T u n p tk s = n := by
  have h1 : wstE T u n p tk s = 0 := firstE_zero 13 (fun i _ => h i)
  exact ⟨h1, by unfold wstN; rw [if_pos h1, setN_none h]⟩
/-- A node's own record, as one that is asked for. -/
def recW (d : Nd) : Wn := ⟨0, 0, d.mode / 16777216, d.vers, d.path, d.mode, d.atime, d.mtime, if dirV d = true then 0 else d.length, d.name, d.uid, d.gid, d.muid⟩
def keepW : Wn := ⟨65535, 4294967295, 255, 4294967295, 18446744073709551615, 4294967295, 4294967295, 4294967295, 18446744073709551615, ⟨#[]⟩, ⟨#[]⟩, ⟨#[]⟩, ⟨#[]⟩⟩
theorem wst_own (T : List Acc) (u : ByteArray) (n p : Nd) (tk : Bool) : wstE T u n p tk (recW n) = 0 ∧ wstN T u n p tk (recW n) = n :=
  wst_none (fun k => tk_self (recR n) k)
theorem wst_keep (T : List Acc) (u : ByteArray) (n p : Nd) (tk : Bool) : wstE T u n p tk keepW = 0 ∧ wstN T u n p tk keepW = n :=
  wst_none (fun k => tk_keep (recR n) k)
/-- What all of it comes to. -/
theorem setN_all (s : Wn) (t : Nat → Bool) (n : Nd) : setN (setK s) t n 13 = ⟨n.path, n.parent, if t 9 = true then s.nm else n.name, if t 5 = true then s.mo else n.mode, n.uid, if t 11 = true then s.gd else n.gid, n.muid, n.atime, if t 7 = true then s.mt else n.mtime, n.vers, if t 8 = true then s.ln else n.length, n.opens, n.kids⟩ := by
  have g : ∀ k x, k ≠ 5 → k ≠ 7 → k ≠ 8 → k ≠ 9 → k ≠ 11 → setK s k x = x := fun k x h5 h7 h8 h9 h11 => by unfold setK; split <;> first | rfl | (exfalso; omega)
  have e : ∀ k, k ≠ 5 → k ≠ 7 → k ≠ 8 → k ≠ 9 → k ≠ 11 → setN (setK s) t n (k + 1) = setN (setK s) t n k := fun k h5 h7 h8 h9 h11 => by
    simp only [setN, g k _ h5 h7 h8 h9 h11, ite_self]
  have e5 : setN (setK s) t n 5 = n := by
    rw [e 4 (by omega) (by omega) (by omega) (by omega) (by omega), e 3 (by omega) (by omega) (by omega) (by omega) (by omega), e 2 (by omega) (by omega) (by omega) (by omega) (by omega), e 1 (by omega) (by omega) (by omega) (by omega) (by omega), e 0 (by omega) (by omega) (by omega) (by omega) (by omega)]
    rfl
  have h6 : setN (setK s) t n 6 = if t 5 = true then setK s 5 n else n := by
    have this : setN (setK s) t n (5 + 1) = if t 5 = true then setK s 5 (setN (setK s) t n 5) else setN (setK s) t n 5 := rfl
    rw [e5] at this
    exact this
  have h7 : setN (setK s) t n 7 = setN (setK s) t n 6 := e 6 (by omega) (by omega) (by omega) (by omega) (by omega)
  have h8 : setN (setK s) t n 8 = if t 7 = true then setK s 7 (setN (setK s) t n 6) else setN (setK s) t n 6 := by
    have this : setN (setK s) t n (7 + 1) = if t 7 = true then setK s 7 (setN (setK s) t n 7) else setN (setK s) t n 7 := rfl
    rw [h7] at this
    exact this
  have h9 : setN (setK s) t n 9 = if t 8 = true then setK s 8 (setN (setK s) t n 8) else setN (setK s) t n 8 := rfl
  have h10 : setN (setK s) t n 10 = if t 9 = true then setK s 9 (setN (setK s) t n 9) else setN (setK s) t n 9 := rfl
  have h11 : setN (setK s) t n 11 = setN (setK s) t n 10 := e 10 (by omega) (by omega) (by omega) (by omega) (by omega)
  have h12 : setN (setK s) t n 12 = if t 11 = true then setK s 11 (setN (setK s) t n 10) else setN (setK s) t n 10 := by
    have this : setN (setK s) t n (11 + 1) = if t 11 = true then setK s 11 (setN (setK s) t n 11) else setN (setK s) t n 11 := rfl
    rw [h11] at this
    exact this
  have h13 : setN (setK s) t n 13 = setN (setK s) t n 12 := e 12 (by omega) (by omega) (by omega) (by omega) (by omega)
  rw [h13, h12, h10, h9, h8, h6]
  clear h13 h12 h11 h10 h9 h8 h7 h6 e5 e g
  cases t 5 <;> cases t 7 <;> cases t 8 <;> cases t 9 <;> cases t 11 <;> rfl
/-- A node of which all rights are taken away. -/
def bareM (m : Nat) : Nat := (B32 (m : Int) &&& ~~~(B32 511)).toNat
def Nd.bare (d : Nd) : Nd := { d with mode := bareM d.mode }
theorem bare_cast (m : Nat) : bits .andNot .u32 (m : Int) 511 = (bareM m : Int) := andNot32 _ _
theorem bare_lt (m : Nat) : bareM m < 4294967296 := (B32 (m : Int) &&& ~~~(B32 511)).isLt
theorem bare_bit (m i : Nat) (hi : i < 9) : (bareM m).testBit i = false := by
  unfold bareM
  rw [BitVec.testBit_toNat, BitVec.getLsbD_and, BitVec.getLsbD_not, c511]
  simp [hi]
theorem bare_rbit (y q : Bool) (m i : Nat) (hi : i < 3) : rbit y q (bareM m) i = false := by
  unfold rbit
  rw [bare_bit m (i + 6) (by omega), bare_bit m (i + 3) (by omega), bare_bit m i (by omega)]
  simp
theorem bare_own (T : List Acc) (u : ByteArray) (d : Nd) : ownN T u d.bare = 0 := by
  apply Nat.eq_of_testBit_eq
  intro i
  show (rN _ _ (bareM d.mode)).testBit i = _
  rw [rN_bit, Nat.zero_testBit]
  by_cases h : i < 3
  · rw [bare_rbit _ _ _ i h]; simp
  · simp [h]
theorem bare_rights (T : List Acc) (u : ByteArray) (d : Nd) : rightsV T u d.bare = 0 := by rw [rightsV_nat, bare_own]; rfl
theorem bare_may (T : List Acc) (u : ByteArray) (d : Nd) (x : Nat) (h1 : 0 < x) (h7 : x ≤ 7) : mayV T u d.bare (x : Int) = false := by
  cases h : mayV T u d.bare (x : Int) with
  | false => rfl
  | true =>
    have := (may_bits T u d.bare x h7).1 h
    rw [bare_own, Nat.zero_and] at this
    omega
theorem bare_two (T : List Acc) (u : ByteArray) (d : Nd) : mayV T u d.bare 2 = false := bare_may T u d 2 (by omega) (by omega)
theorem bare_open (T : List Acc) (u : ByteArray) (n p : Nd) (mode : Int) : openE T u n.bare p mode ≠ 0 := fun h => by
  obtain ⟨a, -, c, -⟩ := open_ok h
  obtain ⟨wn, hwn, wn7, wnp⟩ := wantsV_nat mode
  rw [hwn, bare_may T u n wn (wnp a) wn7] at c
  cases c
theorem bare_make (T : List Acc) (u : ByteArray) (n : Nd) (tk fl : Bool) (name : ByteArray) (pm mode : Int) : makeE T u n.bare tk fl name pm mode ≠ 0 := fun h => by
  obtain ⟨a, b, _, _, _, c, d, e⟩ := make_ok h
  rw [bare_two] at c
  cases c
theorem bare_remove (T : List Acc) (u : ByteArray) (n p : Nd) : removeE T u n p.bare ≠ 0 := fun h => by
  obtain ⟨-, b⟩ := remove_ok h
  rw [bare_two] at b
  cases b
theorem bare_step (T : List Acc) (u : ByteArray) (n : Nd) : stepE T u n.bare ≠ 0 := fun h => by
  have c := ((step_iff T u n.bare).1 h).1
  have := bare_may T u n 1 (by omega) (by omega)
  rw [show ((1 : Nat) : Int) = 1 from rfl, c] at this
  cases this
theorem bare_len (T : List Acc) (u : ByteArray) (n p : Nd) (tk : Bool) (ln : Nat) : wstE T u n.bare p tk { keepW with ln := ln } = 0 ↔ (ln = 18446744073709551615 ∨ (ln : Int) = recLen n.bare) := by
  have hr : (recLen n.bare) = ((recR n.bare).len : Int) := by
    show (if dirV n.bare = true then (0 : Int) else (n.bare.length : Int)) = ((if dirV n.bare = true then 0 else n.bare.length : Nat) : Int)
    split <;> rfl
  have h := firstE_one (r := whyNot T u n.bare p tk { keepW with ln := ln }) (t := tkn { keepW with ln := ln } n.bare) (k := 8) (by omega) (fun j hj => by
    show (!eqk (Wn.rc { keepW with ln := ln }) keepR j && _) = false
    have : eqk (Wn.rc { keepW with ln := ln }) keepR j = true := by
      have h8 : j ≠ 8 := hj
      unfold eqk
      split <;> first | rfl | (simp [keepW, keepR, Wn.rc]; done) | (exfalso; omega)
    rw [this]; rfl)
  unfold wstE
  rw [h]
  have e8 : tkn { keepW with ln := ln } n.bare 8 = (!((ln : Int) == 18446744073709551615) && !((ln : Int) == ((recR n.bare).len : Int))) := rfl
  have r8 : whyNot T u n.bare p tk { keepW with ln := ln } 8 ≠ 0 := by
    show rLength T u n.bare ln ≠ 0
    unfold rLength
    rw [bare_two]
    split
    · decide
    · simp
  rw [e8, hr]
  by_cases h1 : ln = 18446744073709551615
  · subst h1; simp
  · by_cases h2 : ln = (recR n.bare).len
    · subst h2; simp
    · have b1 : ((ln : Int) == 18446744073709551615) = false := by simp; omega
      have b2 : ((ln : Int) == ((recR n.bare).len : Int)) = false := by simp; omega
      rw [b1, b2]
      simp only [Bool.not_false, Bool.and_self, if_true]
      exact ⟨fun h => absurd h r8, fun h => by omega⟩
theorem bare_name (T : List Acc) (u : ByteArray) (n p : Nd) (tk : Bool) (nm : ByteArray) : wstE T u n p.bare tk { keepW with nm := nm } = 0 ↔ (nm.toList = [] ∨ nm.toList = n.name.toList) := by
  have h := firstE_one (r := whyNot T u n p.bare tk { keepW with nm := nm }) (t := tkn { keepW with nm := nm } n) (k := 9) (by omega) (fun j hj => by
    show (!eqk (Wn.rc { keepW with nm := nm }) keepR j && _) = false
    have : eqk (Wn.rc { keepW with nm := nm }) keepR j = true := by
      have h8 : j ≠ 9 := hj
      unfold eqk
      split <;> first | rfl | (simp [keepW, keepR, Wn.rc]; done) | (exfalso; omega)
    rw [this]; rfl)
  unfold wstE
  rw [h]
  have e9 : tkn { keepW with nm := nm } n 9 = (!(nm.toList == (⟨#[]⟩ : ByteArray).toList) && !(nm.toList == n.name.toList)) := rfl
  have e0 : (⟨#[]⟩ : ByteArray).toList = [] := by kernel_rfl
  have r9 : whyNot T u n p.bare tk { keepW with nm := nm } 9 ≠ 0 := by
    show rName T u n p.bare tk nm ≠ 0
    unfold rName
    rw [bare_two]
    split
    · decide
    · simp
  rw [e9, e0]
  by_cases h1 : nm.toList = []
  · simp [h1]
  · by_cases h2 : nm.toList = n.name.toList
    · simp [h2]
    · have b1 : (nm.toList == []) = false := by simp [h1]
      have b2 : (nm.toList == n.name.toList) = false := by simp [h2]
      rw [b1, b2]
      simp only [Bool.not_false, Bool.and_self, if_true]
      exact ⟨fun h => absurd h r9, fun h => by rcases h with h | h; exact absurd h h1; exact absurd h h2⟩
end Ru
end Go.Proofs.YteeheapenfklcaaGreatDoor
end

section
namespace Go.Proofs.YteeheapenfklcaaGreatDoor
set_option linter.unusedVariables false
open Go.RowKit Go.Shelf
attribute [local go_sem] Oper.semAt_some
namespace Us
theorem pass1_len : ∀ (ls : List ByteArray) (i : Nat) (T T' : List Acc), pass1 ls i T = .inr T' → T'.length ≤ T.length + ls.length
  | [], i, T, T', h => by
    simp only [pass1, Sum.inr.injEq] at h
    subst h
    simp
  | l :: ls, i, T, T', h => by
    simp only [pass1] at h
    split at h
    · split at h
      · cases h
      · split at h
        · have := pass1_len ls _ _ _ h
          simp at this ⊢
          omega
        · cases h
    · have := pass1_len ls _ _ _ h
      simp at this ⊢
      omega
theorem parse_len {s : ByteArray} {T : List Acc} {e i : Nat} (h : parse s = (some T, e, i)) : T.length ≤ 65537 := by
  unfold parse at h
  split at h
  · simp at h
  · rename_i hs
    split at h
    · simp at h
    · rename_i T1 h1
      have := pass1_len _ _ _ _ h1
      have hl := cutB_le 10 s
      split at h
      · simp at h
      · split at h
        · simp at h
        · simp only [Prod.mk.injEq, Option.some.injEq] at h
          obtain ⟨rfl, -, -⟩ := h
          simp at this
          omega
end Us
namespace Ru
open Go.Proofs.YteeheapenfklcaaGreatDoor.Utf Go.Proofs.YteeheapenfklcaaGreatDoor.Txt Go.PlainAid Go.Proofs.YteeheapenfklcaaGreatDoor.Mpf Go.Proofs.YteeheapenfklcaaGreatDoor.Us
theorem tableT_len (text : ByteArray) : (tableT text).length ≤ 65537 := by
  unfold tableT
  split
  · rename_i T e l h
    exact parse_len h
  · decide
theorem Tb.keptC {w w' : World} {B p R : Nat} {T : List Acc} {ds : Array Value} {z : Nat × Nat} (h : Tb w B p T) (k : Kept [R] w w') (hR : w.heap[R]? = some (.cells ds 50 z)) : Tb w' B p T := by
  obtain ⟨sl, m1, m2, n2, L, h, e⟩ := h
  have n1 : ∀ b cs t z', w.heap[b]? = some (.cells cs t z') → t ≠ 50 → b ∉ [R] := fun b cs t z' hb ht hm => by
    simp at hm
    subst hm
    rw [hb] at hR
    cases hR
    exact ht rfl
  have n3 : ∀ b es c, w.heap[b]? = some (.map es c) → b ∉ [R] := fun b es c hb hm => by
    simp at hm
    subst hm
    rw [hb] at hR
    cases hR
  refine ⟨sl, m1, m2, n2, L, ⟨(k.block _ (block_lt h.box) (n1 _ _ _ _ h.box (by decide))).trans h.box, h.pl.kept k ?_, h.bl.kept k ?_, own_kept h.row k ?_, fun x hx => (h.mem x hx).kept k ?_, h.far, h.ne⟩, e⟩
  · obtain ⟨es, c, hb, _⟩ := h.pl
    exact n3 _ _ _ hb
  · obtain ⟨es, c, hb, _⟩ := h.bl
    exact n3 _ _ _ hb
  · intro b hb
    obtain ⟨cs, hc⟩ := own_type h.row b hb
    exact n1 _ _ _ _ hc (by decide)
  · intro b hb
    obtain ⟨cs, hc⟩ := own_type (h.mem x hx) b hb
    exact n1 _ _ _ _ hc (by decide)
theorem kept_setCells (b : Nat) : ∀ (l : List Value) (o : Nat) (w : World), Kept [b] w (w.setCells b o l)
  | [], _, _ => Kept.refl _ _
  | v :: r, o, w => (((Kept.refl [b] w).setCell (Or.inl (by simp)) v).trans (kept_setCells b r (o + 1) _) (fun i hi => Or.inl hi))
set_option maxRecDepth 100000 in
theorem Bc.node_set {w : World} {R : Nat} {text u : ByteArray} {n p : Nd} {tk fl : Bool} {name : ByteArray} {pm mode : Int} (d : Nd) (C : Bc w R text u n p tk fl name pm mode) : Bc (w.setCells R 2 [.int .u64 d.path, .int .u64 d.parent, .string d.name, .int .u32 d.mode, .string d.uid, .string d.gid, .string d.muid, .int .u32 d.atime, .int .u32 d.mtime, .int .u32 d.vers, .int .u64 d.length, .int .i64 d.opens, .int .i64 d.kids]) R text u d p tk fl name pm mode := by
  unfold Bc at C ⊢
  simp only [World.setCells, Nat.reduceAdd]
  refine (heap_set _ (heap_set _ (heap_set _ (heap_set _ (heap_set _ (heap_set _ (heap_set _ (heap_set _ (heap_set _ (heap_set _ (heap_set _ (heap_set _ (heap_set _ C))))))))))))).trans ?_
  kernel_rfl
set_option maxRecDepth 100000 in
theorem Bc.flags_set {w : World} {R : Nat} {text u : ByteArray} {n p : Nd} {tk fl : Bool} {name : ByteArray} {pm mode : Int} (C : Bc w R text u n p tk fl name pm mode) : Bc ((w.setCell ⟨R, 28, none⟩ (.bool false)).setCell ⟨R, 29, none⟩ (.bool false)) R text u n p false false name pm mode := by
  unfold Bc at C ⊢
  refine (heap_set _ (heap_set _ C)).trans ?_
  kernel_rfl
set_option maxRecDepth 100000 in
theorem wpList_scase {w : World} {ops : Array Oper} {rest : List Oper} {o : Oper} {a : Act} {Q : Exit → Act → World → Prop} (hgd : o.guard = none) (x y : Operand) (ho : o.op = .store 46 x y) (R : Nat) (hx : a.eval x = .pointer (some ⟨R, 2, none⟩))
    {text u : ByteArray} {n p : Nd} {tk fl : Bool} {name : ByteArray} {pm mode : Int} (d : Nd) (hy : a.eval y = .agg #[.int .u64 d.path, .int .u64 d.parent, .string d.name, .int .u32 d.mode, .string d.uid, .string d.gid, .string d.muid, .int .u32 d.atime, .int .u32 d.mtime, .int .u32 d.vers, .int .u64 d.length, .int .i64 d.opens, .int .i64 d.kids]) (C : Bc w R text u n p tk fl name pm mode)
    (h : ∀ w', Bc w' R text u d p tk fl name pm mode → Kept [R] w w' → wpList Tryz.prog ops Q rest (a.put o.dst undef) w') : wpList Tryz.prog ops Q (o :: rest) a w := by
  refine wpList_store_mid hgd 46 x y ho R 2 #[.int .u64 d.path, .int .u64 d.parent, .string d.name, .int .u32 d.mode, .string d.uid, .string d.gid, .string d.muid, .int .u32 d.atime, .int .u32 d.mtime, .int .u32 d.vers, .int .u64 d.length, .int .i64 d.opens, .int .i64 d.kids] hx hy ?_ size_n8 (by simp [Value.oneCell']) (h _ (C.node_set d) (kept_setCells _ _ _ _))
  intro j hj
  have hj' : j < 13 := hj
  refine ⟨?_, frozen_of_row w R (2 + j) _ _ C⟩
  rw [cell_of_row w R (2 + j) _ _ (0, 0) C, Array.getElem?_eq_getElem (show 2 + j < 33 by omega)]
  rfl
theorem whole13 {w : World} {B : Nat} {A : Array Value} (h : w.heap[B]? = some (.cells A 46 (0, 0))) : w.rangeAt B 0 A.toList := by
  intro j v hv
  rw [Nat.zero_add, cell_of_row w B j _ _ (0, 0) h]
  simpa using hv
set_option maxRecDepth 100000 in
theorem Bc.modes_set {w : World} {R : Nat} {text u : ByteArray} {n p : Nd} {tk fl : Bool} {name : ByteArray} {pm mode : Int} (a b : Nat) (C : Bc w R text u n p tk fl name pm mode) : Bc ((w.setCell ⟨R, 5, none⟩ (.int .u32 a)).setCell ⟨R, 18, none⟩ (.int .u32 b)) R text u { n with mode := a } { p with mode := b } tk fl name pm mode := by
  unfold Bc at C ⊢
  refine (heap_set _ (heap_set _ C)).trans ?_
  kernel_rfl
end Ru
end Go.Proofs.YteeheapenfklcaaGreatDoor
end

namespace Go.Proofs.YteeheapenfklcaaGreatDoor.Ocw
open Go.ChangeShapes Go.WideShapes Go.ChangeAt Go.RowKit
open Go.ChangeMaps (open_string shut_string)
open Go.Proofs.YteeheapenfklcaaGreatDoor.Ru
set_option linter.unusedVariables false
theorem laidOut : laidOutB Tryz.prog = true := by kernel_rfl
theorem k_u64 : Tryz.prog.cellsOf 43 = 1 := by kernel_rfl
theorem k_u32 : Tryz.prog.cellsOf 44 = 1 := by kernel_rfl
theorem k_u8 : Tryz.prog.cellsOf 5 = 1 := by kernel_rfl
theorem k_i64 : Tryz.prog.cellsOf 3 = 1 := by kernel_rfl
theorem k_s : Tryz.prog.cellsOf 9 = 1 := by kernel_rfl
theorem k_b : Tryz.prog.cellsOf 4 = 1 := by kernel_rfl
theorem k_n : Tryz.prog.cellsOf 46 = 13 := by kernel_rfl
theorem k_f : Tryz.prog.cellsOf 48 = 28 := by kernel_rfl
theorem k_c : Tryz.prog.cellsOf 50 = 33 := by kernel_rfl
section
variable {H : Type} {enc : TypeId × Value → H} {w : World} {base : Nat} {spare : Nat → Bool} {held : Bool}
theorem nat_of {x : Int} {m : Nat} (h : 0 ≤ x ∧ x ≤ m) : ∃ n : Nat, x = n ∧ n ≤ m := ⟨x.toNat, by omega, by omega⟩
/-- A node's texts are short enough, its mode is one of 32 bits. -/
structure Short (d : Nd) : Prop where
  name : d.name.size ≤ 140737488355328
  uid : d.uid.size ≤ 140737488355328
  gid : d.gid.size ≤ 140737488355328
  muid : d.muid.size ≤ 140737488355328
  mode : d.mode < 4294967296
  vers : d.vers ≤ 4294967295
  path : d.path ≤ 18446744073709551615
  atime : d.atime ≤ 4294967295
  mtime : d.mtime ≤ 4294967295
  length : d.length ≤ 18446744073709551615
set_option maxRecDepth 100000 in
set_option maxHeartbeats 1000000 in
theorem node {fuel : Nat} {cs : List Value} {x : DataW H × List MemPlace} (hc : cs.length = 13) (h : DataW.trod enc Tryz.prog w base spare held fuel 46 cs = some x) (hw : ∀ z ∈ x.1.weights Tryz.prog 46, z ≤ 140737488355328) : ∃ d : Nd, cs = d.L ∧ Short d := by
  match cs, hc with
  | [c0, c1, c2, c3, c4, c5, c6, c7, c8, c9, c10, c11, c12], _ =>
    obtain ⟨xs, n, _, hx, _, hlen, hg⟩ := DataW.trod_struct Tryz.underlying46 h
    match xs, hlen with
    | [y0, y1, y2, y3, y4, y5, y6, y7, y8, y9, y10, y11, y12], _ =>
      have g0 : DataW.trod enc Tryz.prog w base spare held n 43 [c0] = some y0 := by simpa [Value.cells, k_u64] using hg 0 _ rfl
      have g1 : DataW.trod enc Tryz.prog w base spare held n 43 [c1] = some y1 := by simpa [Value.cells, k_u64] using hg 1 _ rfl
      have g2 : DataW.trod enc Tryz.prog w base spare held n 9 [c2] = some y2 := by simpa [Value.cells, k_s] using hg 2 _ rfl
      have g3 : DataW.trod enc Tryz.prog w base spare held n 44 [c3] = some y3 := by simpa [Value.cells, k_u32] using hg 3 _ rfl
      have g4 : DataW.trod enc Tryz.prog w base spare held n 9 [c4] = some y4 := by simpa [Value.cells, k_s] using hg 4 _ rfl
      have g5 : DataW.trod enc Tryz.prog w base spare held n 9 [c5] = some y5 := by simpa [Value.cells, k_s] using hg 5 _ rfl
      have g6 : DataW.trod enc Tryz.prog w base spare held n 9 [c6] = some y6 := by simpa [Value.cells, k_s] using hg 6 _ rfl
      have g7 : DataW.trod enc Tryz.prog w base spare held n 44 [c7] = some y7 := by simpa [Value.cells, k_u32] using hg 7 _ rfl
      have g8 : DataW.trod enc Tryz.prog w base spare held n 44 [c8] = some y8 := by simpa [Value.cells, k_u32] using hg 8 _ rfl
      have g9 : DataW.trod enc Tryz.prog w base spare held n 44 [c9] = some y9 := by simpa [Value.cells, k_u32] using hg 9 _ rfl
      have g10 : DataW.trod enc Tryz.prog w base spare held n 43 [c10] = some y10 := by simpa [Value.cells, k_u64] using hg 10 _ rfl
      have g11 : DataW.trod enc Tryz.prog w base spare held n 3 [c11] = some y11 := by simpa [Value.cells, k_i64] using hg 11 _ rfl
      have g12 : DataW.trod enc Tryz.prog w base spare held n 3 [c12] = some y12 := by simpa [Value.cells, k_i64] using hg 12 _ rfl
      obtain ⟨n0, e0, -, w0⟩ := DataW.trod_int Tryz.underlying43 g0
      simp only [List.cons.injEq, and_true] at e0
      subst e0
      obtain ⟨m0, rfl, b0⟩ := nat_of (m := 18446744073709551615) (bounds_u64 w0)
      obtain ⟨n1, e1, -, w1⟩ := DataW.trod_int Tryz.underlying43 g1
      simp only [List.cons.injEq, and_true] at e1
      subst e1
      obtain ⟨m1, rfl, b1⟩ := nat_of (m := 18446744073709551615) (bounds_u64 w1)
      obtain ⟨s2, e2, x2, z2⟩ := DataW.trod_string Tryz.underlying9 g2
      simp only [List.cons.injEq, and_true] at e2
      subst e2
      obtain ⟨n3, e3, -, w3⟩ := DataW.trod_int Tryz.underlying44 g3
      simp only [List.cons.injEq, and_true] at e3
      subst e3
      obtain ⟨m3, rfl, b3⟩ := nat_of (m := 4294967295) (bounds_u32 w3)
      obtain ⟨s4, e4, x4, z4⟩ := DataW.trod_string Tryz.underlying9 g4
      simp only [List.cons.injEq, and_true] at e4
      subst e4
      obtain ⟨s5, e5, x5, z5⟩ := DataW.trod_string Tryz.underlying9 g5
      simp only [List.cons.injEq, and_true] at e5
      subst e5
      obtain ⟨s6, e6, x6, z6⟩ := DataW.trod_string Tryz.underlying9 g6
      simp only [List.cons.injEq, and_true] at e6
      subst e6
      obtain ⟨n7, e7, -, w7⟩ := DataW.trod_int Tryz.underlying44 g7
      simp only [List.cons.injEq, and_true] at e7
      subst e7
      obtain ⟨m7, rfl, b7⟩ := nat_of (m := 4294967295) (bounds_u32 w7)
      obtain ⟨n8, e8, -, w8⟩ := DataW.trod_int Tryz.underlying44 g8
      simp only [List.cons.injEq, and_true] at e8
      subst e8
      obtain ⟨m8, rfl, b8⟩ := nat_of (m := 4294967295) (bounds_u32 w8)
      obtain ⟨n9, e9, -, w9⟩ := DataW.trod_int Tryz.underlying44 g9
      simp only [List.cons.injEq, and_true] at e9
      subst e9
      obtain ⟨m9, rfl, b9⟩ := nat_of (m := 4294967295) (bounds_u32 w9)
      obtain ⟨n10, e10, -, w10⟩ := DataW.trod_int Tryz.underlying43 g10
      simp only [List.cons.injEq, and_true] at e10
      subst e10
      obtain ⟨m10, rfl, b10⟩ := nat_of (m := 18446744073709551615) (bounds_u64 w10)
      obtain ⟨n11, e11, -, w11⟩ := DataW.trod_int Tryz.underlying3 g11
      simp only [List.cons.injEq, and_true] at e11
      subst e11
      obtain ⟨n12, e12, -, w12⟩ := DataW.trod_int Tryz.underlying3 g12
      simp only [List.cons.injEq, and_true] at e12
      subst e12
      rw [hx] at hw
      have q2 : s2.size ≤ 140737488355328 := by
        have e : s2.size = s2.data.toList.length := (Array.length_toList).symm
        rw [e]
        refine hw _ ?_
        unfold DataW.weights
        rw [Tryz.underlying46]
        exact DataW.weights_mem_each (j := 2) (t := 9) (d := y2.1) rfl rfl _ (by rw [x2]; simp [DataW.weights])
      have q4 : s4.size ≤ 140737488355328 := by
        have e : s4.size = s4.data.toList.length := (Array.length_toList).symm
        rw [e]
        refine hw _ ?_
        unfold DataW.weights
        rw [Tryz.underlying46]
        exact DataW.weights_mem_each (j := 4) (t := 9) (d := y4.1) rfl rfl _ (by rw [x4]; simp [DataW.weights])
      have q5 : s5.size ≤ 140737488355328 := by
        have e : s5.size = s5.data.toList.length := (Array.length_toList).symm
        rw [e]
        refine hw _ ?_
        unfold DataW.weights
        rw [Tryz.underlying46]
        exact DataW.weights_mem_each (j := 5) (t := 9) (d := y5.1) rfl rfl _ (by rw [x5]; simp [DataW.weights])
      have q6 : s6.size ≤ 140737488355328 := by
        have e : s6.size = s6.data.toList.length := (Array.length_toList).symm
        rw [e]
        refine hw _ ?_
        unfold DataW.weights
        rw [Tryz.underlying46]
        exact DataW.weights_mem_each (j := 6) (t := 9) (d := y6.1) rfl rfl _ (by rw [x6]; simp [DataW.weights])
      exact ⟨⟨m0, m1, s2, m3, s4, s5, s6, m7, m8, m9, m10, n11, n12⟩, rfl, q2, q4, q5, q6, by show m3 < _; omega, b9, b0, b7, b8, b10⟩
set_option maxRecDepth 100000 in
set_option maxHeartbeats 1000000 in
theorem facts {fuel : Nat} {cs : List Value} {x : DataW H × List MemPlace} (hc : cs.length = 28) (h : DataW.trod enc Tryz.prog w base spare held fuel 48 cs = some x) (hw : ∀ z ∈ x.1.weights Tryz.prog 48, z ≤ 140737488355328) : ∃ (n p : Nd) (tk fl : Bool), cs = n.L ++ p.L ++ [.bool tk, .bool fl] ∧ Short n ∧ Short p := by
  match cs, hc with
  | [c0, c1, c2, c3, c4, c5, c6, c7, c8, c9, c10, c11, c12, c13, c14, c15, c16, c17, c18, c19, c20, c21, c22, c23, c24, c25, c26, c27], _ =>
    obtain ⟨xs, n, _, hx, _, hlen, hg⟩ := DataW.trod_struct Tryz.underlying48 h
    match xs, hlen with
    | [y0, y1, y2, y3], _ =>
      rw [hx] at hw
      have g0 : DataW.trod enc Tryz.prog w base spare held n 46 [c0, c1, c2, c3, c4, c5, c6, c7, c8, c9, c10, c11, c12] = some y0 := by simpa [Value.cells, k_n] using hg 0 _ rfl
      have g1 : DataW.trod enc Tryz.prog w base spare held n 46 [c13, c14, c15, c16, c17, c18, c19, c20, c21, c22, c23, c24, c25] = some y1 := by simpa [Value.cells, k_n] using hg 1 _ rfl
      have g2 : DataW.trod enc Tryz.prog w base spare held n 4 [c26] = some y2 := by simpa [Value.cells, k_n, k_b] using hg 2 _ rfl
      have g3 : DataW.trod enc Tryz.prog w base spare held n 4 [c27] = some y3 := by simpa [Value.cells, k_n, k_b] using hg 3 _ rfl
      have hw0 : ∀ z ∈ y0.1.weights Tryz.prog 46, z ≤ 140737488355328 := fun z hz => hw z (by
        unfold DataW.weights
        rw [Tryz.underlying48]
        exact DataW.weights_mem_each (j := 0) (t := 46) (d := y0.1) rfl rfl _ hz)
      have hw1 : ∀ z ∈ y1.1.weights Tryz.prog 46, z ≤ 140737488355328 := fun z hz => hw z (by
        unfold DataW.weights
        rw [Tryz.underlying48]
        exact DataW.weights_mem_each (j := 1) (t := 46) (d := y1.1) rfl rfl _ hz)
      obtain ⟨d0, e0, q0⟩ := node rfl g0 hw0
      obtain ⟨d1, e1, q1⟩ := node rfl g1 hw1
      obtain ⟨s2, e2, x2⟩ := DataW.trod_bool Tryz.underlying4 g2
      simp only [List.cons.injEq, and_true] at e2
      subst e2
      obtain ⟨s3, e3, x3⟩ := DataW.trod_bool Tryz.underlying4 g3
      simp only [List.cons.injEq, and_true] at e3
      subst e3
      simp only [Nd.L, List.cons.injEq, and_true] at e0 e1
      obtain ⟨rfl, rfl, rfl, rfl, rfl, rfl, rfl, rfl, rfl, rfl, rfl, rfl, rfl⟩ := e0
      obtain ⟨rfl, rfl, rfl, rfl, rfl, rfl, rfl, rfl, rfl, rfl, rfl, rfl, rfl⟩ := e1
      exact ⟨d0, d1, _, _, rfl, q0, q1⟩
set_option maxRecDepth 100000 in
set_option maxHeartbeats 1000000 in
theorem case_ {r : Reach} {b0 : Nat} {v : Value} {d : DataW H} {pl : List MemPlace} (hv : Value.okWide Tryz.prog w r b0 50 v) (h : DataW.Trod enc Tryz.prog w base spare held 50 v d pl) (hw : ∀ z ∈ d.weights Tryz.prog 50, z ≤ 140737488355328) :
    ∃ (text u : ByteArray) (n p : Nd) (tk fl : Bool) (name : ByteArray) (pm mode : Nat), v = .agg (caseA text u n p tk fl name pm mode) ∧ text.size ≤ 140737488355328 ∧ u.size ≤ 140737488355328 ∧ name.size ≤ 140737488355328 ∧ Short n ∧ Short p ∧ pm < 4294967296 ∧ mode < 256 := by
  obtain ⟨cs, rfl, hsz⟩ := okWide_struct Tryz.underlying50 hv
  obtain ⟨l⟩ := cs
  match l, hsz.trans k_c with
  | c0 :: c1 :: c2 :: c3 :: c4 :: c5 :: c6 :: c7 :: c8 :: c9 :: c10 :: c11 :: c12 :: c13 :: c14 :: c15 :: c16 :: c17 :: c18 :: c19 :: c20 :: c21 :: c22 :: c23 :: c24 :: c25 :: c26 :: c27 :: c28 :: c29 :: c30 :: c31 :: c32 :: [], _ =>
    obtain ⟨fuel, hf⟩ := h
    obtain ⟨xs, n, _, hx, _, hlen, hg⟩ := DataW.trod_struct Tryz.underlying50 hf
    match xs, hlen with
    | [y0, y1, y2, y3, y4, y5], _ =>
      simp only [Prod.mk.injEq] at hx
      obtain ⟨hd, -⟩ := hx
      rw [hd] at hw
      have g0 : DataW.trod enc Tryz.prog w base spare held n 9 [c0] = some y0 := by simpa [Value.cells, k_s] using hg 0 _ rfl
      have g1 : DataW.trod enc Tryz.prog w base spare held n 9 [c1] = some y1 := by simpa [Value.cells, k_s] using hg 1 _ rfl
      have g2 : DataW.trod enc Tryz.prog w base spare held n 48 [c2, c3, c4, c5, c6, c7, c8, c9, c10, c11, c12, c13, c14, c15, c16, c17, c18, c19, c20, c21, c22, c23, c24, c25, c26, c27, c28, c29] = some y2 := by simpa [Value.cells, k_s, k_f] using hg 2 _ rfl
      have g3 : DataW.trod enc Tryz.prog w base spare held n 9 [c30] = some y3 := by simpa [Value.cells, k_s, k_f] using hg 3 _ rfl
      have g4 : DataW.trod enc Tryz.prog w base spare held n 44 [c31] = some y4 := by simpa [Value.cells, k_s, k_f, k_u32] using hg 4 _ rfl
      have g5 : DataW.trod enc Tryz.prog w base spare held n 5 [c32] = some y5 := by simpa [Value.cells, k_s, k_f, k_u32, k_u8] using hg 5 _ rfl
      have hw2 : ∀ z ∈ y2.1.weights Tryz.prog 48, z ≤ 140737488355328 := fun z hz => hw z (by
        unfold DataW.weights
        rw [Tryz.underlying50]
        exact DataW.weights_mem_each (j := 2) (t := 48) (d := y2.1) rfl rfl _ hz)
      obtain ⟨nn, pp, tk, fl, e2, q2, q2'⟩ := facts rfl g2 hw2
      obtain ⟨s0, e0, x0, z0⟩ := DataW.trod_string Tryz.underlying9 g0
      simp only [List.cons.injEq, and_true] at e0
      subst e0
      obtain ⟨s1, e1, x1, z1⟩ := DataW.trod_string Tryz.underlying9 g1
      simp only [List.cons.injEq, and_true] at e1
      subst e1
      obtain ⟨s3, e3, x3, z3⟩ := DataW.trod_string Tryz.underlying9 g3
      simp only [List.cons.injEq, and_true] at e3
      subst e3
      obtain ⟨n4, e4, -, w4⟩ := DataW.trod_int Tryz.underlying44 g4
      simp only [List.cons.injEq, and_true] at e4
      subst e4
      obtain ⟨m4, rfl, b4⟩ := nat_of (m := 4294967295) (bounds_u32 w4)
      obtain ⟨n5, e5, -, w5⟩ := DataW.trod_int Tryz.underlying5 g5
      simp only [List.cons.injEq, and_true] at e5
      subst e5
      obtain ⟨m5, rfl, b5⟩ := nat_of (m := 255) (bounds_u8 w5)
      have q0 : s0.size ≤ 140737488355328 := by
        have e : s0.size = s0.data.toList.length := (Array.length_toList).symm
        rw [e]
        refine hw _ ?_
        unfold DataW.weights
        rw [Tryz.underlying50]
        exact DataW.weights_mem_each (j := 0) (t := 9) (d := y0.1) rfl rfl _ (by rw [x0]; simp [DataW.weights])
      have q1 : s1.size ≤ 140737488355328 := by
        have e : s1.size = s1.data.toList.length := (Array.length_toList).symm
        rw [e]
        refine hw _ ?_
        unfold DataW.weights
        rw [Tryz.underlying50]
        exact DataW.weights_mem_each (j := 1) (t := 9) (d := y1.1) rfl rfl _ (by rw [x1]; simp [DataW.weights])
      have q3 : s3.size ≤ 140737488355328 := by
        have e : s3.size = s3.data.toList.length := (Array.length_toList).symm
        rw [e]
        refine hw _ ?_
        unfold DataW.weights
        rw [Tryz.underlying50]
        exact DataW.weights_mem_each (j := 3) (t := 9) (d := y3.1) rfl rfl _ (by rw [x3]; simp [DataW.weights])
      simp only [Nd.L, List.cons_append, List.nil_append, List.cons.injEq, and_true] at e2
      obtain ⟨rfl, rfl, rfl, rfl, rfl, rfl, rfl, rfl, rfl, rfl, rfl, rfl, rfl, rfl, rfl, rfl, rfl, rfl, rfl, rfl, rfl, rfl, rfl, rfl, rfl, rfl, rfl, rfl⟩ := e2
      exact ⟨s0, s1, nn, pp, tk, fl, s3, m4, m5, rfl, q0, q1, q3, q2, q2', by omega, by omega⟩
/-- A record's numbers are of their kinds, its texts short enough. -/
structure Fits (s : Wn) : Prop where
  ty : s.ty ≤ 65535
  dev : s.dev ≤ 4294967295
  kd : s.kd ≤ 255
  vr : s.vr ≤ 4294967295
  pa : s.pa ≤ 18446744073709551615
  mo : s.mo ≤ 4294967295
  atm : s.atm ≤ 4294967295
  mt : s.mt ≤ 4294967295
  ln : s.ln ≤ 18446744073709551615
  nm : s.nm.size ≤ 140737488355328
  ud : s.ud.size ≤ 140737488355328
  gd : s.gd.size ≤ 140737488355328
  mu : s.mu.size ≤ 140737488355328
theorem k_u16 : Tryz.prog.cellsOf 51 = 1 := by kernel_rfl
theorem k_q : Tryz.prog.cellsOf 53 = 3 := by kernel_rfl
theorem k_st : Tryz.prog.cellsOf 55 = 13 := by kernel_rfl
theorem qid {fuel : Nat} {a b c : Value} {x : DataW H × List MemPlace} (h : DataW.trod enc Tryz.prog w base spare held fuel 53 [a, b, c] = some x) :
    ∃ k v q : Nat, k ≤ 255 ∧ v ≤ 4294967295 ∧ q ≤ 18446744073709551615 ∧ a = .int .u8 k ∧ b = .int .u32 v ∧ c = .int .u64 q := by
  obtain ⟨xs, n, _, hx, _, hlen, hg⟩ := DataW.trod_struct Tryz.underlying53 h
  match xs, hlen with
  | [y0, y1, y2], _ =>
    have g0 : DataW.trod enc Tryz.prog w base spare held n 5 [a] = some y0 := by simpa [k_u8] using hg 0 _ rfl
    have g1 : DataW.trod enc Tryz.prog w base spare held n 44 [b] = some y1 := by simpa [k_u32] using hg 1 _ rfl
    have g2 : DataW.trod enc Tryz.prog w base spare held n 43 [c] = some y2 := by simpa [k_u64] using hg 2 _ rfl
    obtain ⟨n0, e0, -, w0⟩ := DataW.trod_int Tryz.underlying5 g0
    obtain ⟨n1, e1, -, w1⟩ := DataW.trod_int Tryz.underlying44 g1
    obtain ⟨n2, e2, -, w2⟩ := DataW.trod_int Tryz.underlying43 g2
    simp only [List.cons.injEq, and_true] at e0 e1 e2
    subst e0 e1 e2
    obtain ⟨m0, rfl, h0⟩ := nat_of (m := 255) (bounds_u8 w0)
    obtain ⟨m1, rfl, h1⟩ := nat_of (m := 4294967295) (bounds_u32 w1)
    obtain ⟨m2, rfl, h2⟩ := nat_of (m := 18446744073709551615) (bounds_u64 w2)
    exact ⟨m0, m1, m2, h0, h1, h2, rfl, rfl, rfl⟩

set_option maxRecDepth 100000 in
set_option maxHeartbeats 1000000 in
theorem record {r : Reach} {b0 : Nat} {v : Value} {d : DataW H} {p : List MemPlace} (hv : Value.okWide Tryz.prog w r b0 55 v) (h : DataW.Trod enc Tryz.prog w base spare held 55 v d p) (hw : ∀ x ∈ d.weights Tryz.prog 55, x ≤ 140737488355328) : ∃ s : Wn, Fits s ∧ v = .agg s.L.toArray := by
  obtain ⟨cs, rfl, hsz⟩ := okWide_struct Tryz.underlying55 hv
  obtain ⟨l⟩ := cs
  match l, hsz.trans k_st with
  | [c0, c1, c2, c3, c4, c5, c6, c7, c8, c9, c10, c11, c12], _ =>
    obtain ⟨fuel, hf⟩ := h
    obtain ⟨xs, n, _, hx, _, hlen, hg⟩ := DataW.trod_struct Tryz.underlying55 hf
    match xs, hlen with
    | [y0, y1, y2, y3, y4, y5, y6, y7, y8, y9, y10], _ =>
      have g0 : DataW.trod enc Tryz.prog w base spare held n 51 [c0] = some y0 := by simpa [Value.cells, k_u16] using hg 0 _ rfl
      have g1 : DataW.trod enc Tryz.prog w base spare held n 44 [c1] = some y1 := by simpa [Value.cells, k_u32] using hg 1 _ rfl
      have g3 : DataW.trod enc Tryz.prog w base spare held n 44 [c5] = some y3 := by simpa [Value.cells, k_u32] using hg 3 _ rfl
      have g4 : DataW.trod enc Tryz.prog w base spare held n 44 [c6] = some y4 := by simpa [Value.cells, k_u32] using hg 4 _ rfl
      have g5 : DataW.trod enc Tryz.prog w base spare held n 44 [c7] = some y5 := by simpa [Value.cells, k_u32] using hg 5 _ rfl
      have g6 : DataW.trod enc Tryz.prog w base spare held n 43 [c8] = some y6 := by simpa [Value.cells, k_u64] using hg 6 _ rfl
      have g2 : DataW.trod enc Tryz.prog w base spare held n 53 [c2, c3, c4] = some y2 := by simpa [Value.cells, k_q] using hg 2 _ rfl
      have g7 : DataW.trod enc Tryz.prog w base spare held n 9 [c9] = some y7 := by simpa [Value.cells, k_s] using hg 7 _ rfl
      have g8 : DataW.trod enc Tryz.prog w base spare held n 9 [c10] = some y8 := by simpa [Value.cells, k_s] using hg 8 _ rfl
      have g9 : DataW.trod enc Tryz.prog w base spare held n 9 [c11] = some y9 := by simpa [Value.cells, k_s] using hg 9 _ rfl
      have g10 : DataW.trod enc Tryz.prog w base spare held n 9 [c12] = some y10 := by simpa [Value.cells, k_s] using hg 10 _ rfl
      obtain ⟨mk, mv, mq, hk, hvv, hq, rfl, rfl, rfl⟩ := qid g2
      obtain ⟨n0, e0, -, w0⟩ := DataW.trod_int Tryz.underlying51 g0
      simp only [List.cons.injEq, and_true] at e0
      subst e0
      obtain ⟨m0, rfl, h0⟩ := nat_of (m := 65535) (bounds_u16 w0)
      obtain ⟨n1, e1, -, w1⟩ := DataW.trod_int Tryz.underlying44 g1
      simp only [List.cons.injEq, and_true] at e1
      subst e1
      obtain ⟨m1, rfl, h1⟩ := nat_of (m := 4294967295) (bounds_u32 w1)
      obtain ⟨n3, e3, -, w3⟩ := DataW.trod_int Tryz.underlying44 g3
      simp only [List.cons.injEq, and_true] at e3
      subst e3
      obtain ⟨m3, rfl, h3⟩ := nat_of (m := 4294967295) (bounds_u32 w3)
      obtain ⟨n4, e4, -, w4⟩ := DataW.trod_int Tryz.underlying44 g4
      simp only [List.cons.injEq, and_true] at e4
      subst e4
      obtain ⟨m4, rfl, h4⟩ := nat_of (m := 4294967295) (bounds_u32 w4)
      obtain ⟨n5, e5, -, w5⟩ := DataW.trod_int Tryz.underlying44 g5
      simp only [List.cons.injEq, and_true] at e5
      subst e5
      obtain ⟨m5, rfl, h5⟩ := nat_of (m := 4294967295) (bounds_u32 w5)
      obtain ⟨n6, e6, -, w6⟩ := DataW.trod_int Tryz.underlying43 g6
      simp only [List.cons.injEq, and_true] at e6
      subst e6
      obtain ⟨m6, rfl, h6⟩ := nat_of (m := 18446744073709551615) (bounds_u64 w6)
      obtain ⟨s7, e7, x7, z7⟩ := DataW.trod_string Tryz.underlying9 g7
      simp only [List.cons.injEq, and_true] at e7
      subst e7
      obtain ⟨s8, e8, x8, z8⟩ := DataW.trod_string Tryz.underlying9 g8
      simp only [List.cons.injEq, and_true] at e8
      subst e8
      obtain ⟨s9, e9, x9, z9⟩ := DataW.trod_string Tryz.underlying9 g9
      simp only [List.cons.injEq, and_true] at e9
      subst e9
      obtain ⟨s10, e10, x10, z10⟩ := DataW.trod_string Tryz.underlying9 g10
      simp only [List.cons.injEq, and_true] at e10
      subst e10
      simp only [Prod.mk.injEq] at hx
      obtain ⟨hd, -⟩ := hx
      have q7 : s7.size ≤ 140737488355328 := by
        have e : s7.size = s7.data.toList.length := (Array.length_toList).symm
        rw [e]
        refine hw _ ?_
        rw [hd]
        unfold DataW.weights
        rw [Tryz.underlying55]
        exact DataW.weights_mem_each (j := 7) (t := 9) (d := y7.1) rfl rfl _ (by rw [x7]; simp [DataW.weights])
      have q8 : s8.size ≤ 140737488355328 := by
        have e : s8.size = s8.data.toList.length := (Array.length_toList).symm
        rw [e]
        refine hw _ ?_
        rw [hd]
        unfold DataW.weights
        rw [Tryz.underlying55]
        exact DataW.weights_mem_each (j := 8) (t := 9) (d := y8.1) rfl rfl _ (by rw [x8]; simp [DataW.weights])
      have q9 : s9.size ≤ 140737488355328 := by
        have e : s9.size = s9.data.toList.length := (Array.length_toList).symm
        rw [e]
        refine hw _ ?_
        rw [hd]
        unfold DataW.weights
        rw [Tryz.underlying55]
        exact DataW.weights_mem_each (j := 9) (t := 9) (d := y9.1) rfl rfl _ (by rw [x9]; simp [DataW.weights])
      have q10 : s10.size ≤ 140737488355328 := by
        have e : s10.size = s10.data.toList.length := (Array.length_toList).symm
        rw [e]
        refine hw _ ?_
        rw [hd]
        unfold DataW.weights
        rw [Tryz.underlying55]
        exact DataW.weights_mem_each (j := 10) (t := 9) (d := y10.1) rfl rfl _ (by rw [x10]; simp [DataW.weights])
      exact ⟨⟨m0, m1, mk, mv, mq, m3, m4, m5, m6, s7, s8, s9, s10⟩, ⟨h0, h1, hk, hvv, hq, h3, h4, h5, h6, q7, q8, q9, q10⟩, rfl⟩
end
end Go.Proofs.YteeheapenfklcaaGreatDoor.Ocw
