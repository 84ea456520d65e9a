/- A list of whole numbers that came in, opened; the wrap of a row whose listed variables are laid, whose arguments have a size and that asks the world's shape. -/
import Derived.Test.YteeheapenfklcaaDoorKept
import Derived.Test.YteeheapenfklcaaDoorLdn
import Derived.Test.YteeheapenfklcaaDoorUac
import Derived.WalkKit
import Derived.ProofKit
import Derived.OpenShut
import Derived.LaidMore
import Derived.Deep.Slices
import Derived.SizedLaws
import Derived.Shelf.Vars
namespace Go.Proofs.YteeheapenfklcaaDoor.Nm
open Go.ChangeShapes Go.WideShapes Go.ChangeAt Go.RowKit Go.Deep
set_option linter.unusedVariables false

/-- Whole numbers that can be read. -/
def LsZ (w : World) (v : Value) (xs : List Int) : Prop :=
  ∃ a c, v = .slice a xs.length c ∧ xs.length ≤ c ∧ (xs = [] ∨ ∃ b o, a = some ⟨b, o, none⟩ ∧ b < w.heap.size ∧ ∀ j (x : Int), xs[j]? = some x → w.cell? ⟨b, o + j, none⟩ = some (.int .i64 x))
theorem LsZ.kept {w w' : World} {v : Value} {xs : List Int} {S : List Nat} (h : LsZ w v xs) (k : Kept S w w') (hd : ∀ a n c, v = .slice (some a) n c → a.block ∉ S) : LsZ w' v xs := by
  obtain ⟨a, c, rfl, hc, h⟩ := h
  refine ⟨a, c, rfl, hc, ?_⟩
  rcases h with h | ⟨b, o, rfl, hb, h⟩
  · exact Or.inl h
  · refine Or.inr ⟨b, o, rfl, by have := k.size; omega, fun j x hx => ?_⟩
    have := h j x hx
    have e := k.block b hb (hd _ _ _ rfl)
    unfold World.cell? at this ⊢
    rw [e]
    exact this
theorem laidOutI : laidOutB Tryd.prog = true := by kernel_rfl
theorem kI : Tryd.prog.cellsOf 3 = 1 := by kernel_rfl
theorem bI : Tryd.prog.bytesOf 3 = 8 := by kernel_rfl
def numIn : Value → Int
  | .int _ x => x
  | _ => 0
theorem intsZ {H : Type} {enc : TypeId × Value → H} {w : World} {spare : Nat → Bool} {held : Bool} {a1 : Option Addr} {len1 cap1 : Nat} {d : DataW H} {p : List MemPlace} (h : DataW.Trod enc Tryd.prog w 0 spare held 77 (.slice a1 len1 cap1) d p)
    (hw : ∀ x ∈ d.weights Tryd.prog 77, x ≤ 140737488355328) : ∃ xs : List Int, xs.length = len1 ∧ len1 ≤ 140737488355328 ∧ (∀ x ∈ xs, -9223372036854775808 ≤ x ∧ x ≤ 9223372036854775807) ∧ LsZ w (.slice a1 len1 cap1) xs := by
  obtain ⟨fuel, hf⟩ := h
  rcases open_slice1 Tryd.underlying77 kI hf with ⟨hv, -⟩ | ⟨a, len, cap, m, n, V, D, Pl, hcs, hb, hl, hm, hmm, hx, hi⟩
  · have hv' : [Value.slice a1 len1 cap1] = [.slice none 0 0] := hv
    simp only [List.cons.injEq, Value.slice.injEq, and_true] at hv'
    obtain ⟨rfl, rfl, rfl⟩ := hv'
    exact ⟨[], rfl, by omega, (fun x hx => by cases hx), none, 0, rfl, Nat.le_refl _, Or.inl rfl⟩
  · have hcs' : [Value.slice a1 len1 cap1] = [.slice (some a) len cap] := hcs
    simp only [List.cons.injEq, Value.slice.injEq, and_true] at hcs'
    obtain ⟨rfl, rfl, rfl⟩ := hcs'
    have hlm : len1 ≤ m := by rw [hmm]; split <;> omega
    simp only [Prod.mk.injEq] at hx
    obtain ⟨hd, -⟩ := hx
    have hlen : len1 ≤ 140737488355328 := by
      have h1 := hw ((((List.range len1).map D).length + ((List.range (m - len1)).map fun j => D (len1 + j)).length) * Tryd.prog.bytesOf 3) (by
        rw [hd]
        simp only [DataW.weights, Tryd.underlying77]
        exact List.mem_cons_self)
      rw [List.length_map, List.length_range, bI] at h1
      omega
    have hV : ∀ i, i < len1 → V i = .int .i64 (numIn (V i)) ∧ -9223372036854775808 ≤ numIn (V i) ∧ numIn (V i) ≤ 9223372036854775807 := fun i hl => by
      obtain ⟨n0, e0, -, w0⟩ := DataW.trod_int Tryd.underlying3 (hi i (by omega)).2
      simp only [List.cons.injEq, and_true] at e0
      rw [e0]
      have h2 : -9223372036854775808 ≤ n0 ∧ n0 ≤ 9223372036854775807 := by simpa [Lit.wf, IntKind.min, IntKind.max, IntKind.signed, IntKind.bits] using w0
      exact ⟨rfl, h2.1, h2.2⟩
    refine ⟨(List.range len1).map (fun i => numIn (V i)), by simp, hlen, fun x hx => ?_, some a, cap1, by simp, by simpa using hl, ?_⟩
    · obtain ⟨i, hi2, rfl⟩ := List.mem_map.1 hx
      exact (hV i (List.mem_range.1 hi2)).2
    · by_cases h0 : len1 = 0
      · left; rw [h0]; rfl
      · right
        have c0 := (hi 0 (by omega)).1
        obtain ⟨b, o, rfl⟩ : ∃ b o, a = ⟨b, o, none⟩ := by
          obtain ⟨b, o, q⟩ := a
          have hsq : q = none := by simpa [Addr.add] using World.cell?_spot c0
          subst hsq
          exact ⟨b, o, rfl⟩
        refine ⟨b, o, rfl, World.block_lt_of_cell? w _ c0, fun j x hx => ?_⟩
        rw [List.getElem?_map] at hx
        by_cases hjl : j < len1
        · rw [List.getElem?_range hjl] at hx
          simp only [Option.map_some, Option.some.injEq] at hx
          subst hx
          have := (hi j (by omega)).1
          rw [Addr.add_lit, (hV j hjl).1] at this
          exact this
        · rw [List.getElem?_eq_none (by simp; omega)] at hx
          cases hx
set_option maxRecDepth 100000 in
theorem ml_of {W : World} (hs : W.ShapedOpen Tryd.prog) : Us.Ml W :=
  Go.Proofs.cell_of_shapedOpen_int (P := Tryd.prog) (g := 0) (zero := #[.int .i64 0]) (t := 3) hs (of_decide_eq_true (by kernel_rfl)) (by kernel_rfl) rfl (by kernel_rfl) (by kernel_rfl) Tryd.underlying3
section
variable {H : Type} {enc : TypeId × Value → H}
set_option maxRecDepth 100000 in
theorem lift8 {os : Os} {f : FuncId} {fn : Func} {s : ChangeSpec} (started : os.Started) (noInit : Tryd.checked.prog.inits.idxOf? f = none) (hfn : Tryd.prog.funcs[f]? = some fn) (args0 : Array Value)
    (witness : ∃ (w : World) (tape : Tape) (i : Input), w.os = os ∧ (w.forCall tape i).Shaped Tryd.checked.prog ∧ i.vars = [] ∧ Input.okWide Tryd.checked.prog (w.forCall tape i) .any w.heap.size f i ∧
      (fun w args => (s.pre enc Tryd.prog fn [] false w args ∧ laidMetH Tryd.prog laid2 w) ∧ sizedMet enc Tryd.prog fn (OpenSpec.ofChange s) false w args) (w.forCall tape i).memory i.args ∧ Assume.holds {} Tryd.checked.prog (lone (Frame.enter Tryd.checked.prog f i.args .normal) [] (w.forCall tape i)))
    (contract : ∀ (W : World) (base : Nat) (args : Array Value) (ds gs : List (DataW H)) (before : List MemPlace),
      (∀ (j : Nat) t v, fn.params[j]? = some t → args[j]? = some v → Value.okWide Tryd.prog W .any base t v) →
      DataW.Whole enc Tryd.prog fn.params.toList s.vars false W args.toList ds gs before →
      (DataW.weightsEach Tryd.prog (fn.params.toList ++ s.plain.varTypes Tryd.prog) (ds ++ gs)).all (· ≤ reachBytes) = true →
      Us.Ml W → laidMetH Tryd.prog laid2 W →
      Calls Tryd.prog f args W fun e W' => ∃ v, e = .returned v ∧ s.post enc Tryd.prog fn false true false false W args v W') :
    ReturnsInHanded {} Tryd.checked os f .any (fun w args => (s.pre enc Tryd.prog fn [] false w args ∧ laidMetH Tryd.prog laid2 w) ∧ sizedMet enc Tryd.prog fn (OpenSpec.ofChange s) false w args) (s.post enc Tryd.prog fn false true false false) := by
  refine returnsInHanded_of_calls own started noInit witness ?_
  intro w tape i _ hsh hiv hok hpre _
  obtain ⟨_, _, _, fn', hfn', _, _, _, _, hval1⟩ := hok
  have e : fn' = fn := Option.some.inj (hfn'.symm.trans hfn)
  subst e
  obtain ⟨⟨⟨ds, gs, before, hw, _⟩, hx⟩, hz⟩ := hpre
  have hh : (w.forCall tape i).heap = (w.forCall tape i).memory.heap := rfl
  have hW := DataW.Whole.of_heap (w' := w.forCall tape i) hh.symm hw
  refine (contract (w.forCall tape i) w.heap.size i.args ds gs before hval1 hW (hz.weights hw) (ml_of hsh) (hx.of_heap hh.symm)).mono fun e W' ⟨v, he, hp⟩ => ?_
  subst he
  exact ChangeSpec.post_blind hp
end
end Go.Proofs.YteeheapenfklcaaDoor.Nm
