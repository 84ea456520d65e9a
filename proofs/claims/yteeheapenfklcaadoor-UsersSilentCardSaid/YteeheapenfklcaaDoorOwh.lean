/- vergerlaw06: raw numbers that come in, opened. -/
import Derived.Test.YteeheapenfklcaaDoorUmg
import Derived.Test.YteeheapenfklcaaDoorIzs
import Derived.Deep.Fields
namespace Go.Proofs.YteeheapenfklcaaDoor
open Go.ChangeShapes Go.WideShapes Go.ChangeAt Go.RowKit Go.Deep
set_option linter.unusedVariables false
namespace Us
open Go.Proofs.YteeheapenfklcaaDoor.Nm
/-- A Who as it lies. -/
structure WhoAt (w : World) (b p : Nat) (x : WhoD × Value) : Prop where
  c0 : w.cell? ⟨b, p, none⟩ = some (.int .i64 x.1.lead)
  c1 : w.cell? ⟨b, p + 1, none⟩ = some x.2
  c2 : w.cell? ⟨b, p + 2, none⟩ = some (.string x.1.key)
  nums : LsZ w x.2 x.1.mem
  long : x.1.mem.length ≤ 9223372036854775807 ∧ x.1.key.size ≤ 9223372036854775807
  lead : -9223372036854775808 ≤ x.1.lead ∧ x.1.lead ≤ 9223372036854775807
  mem : ∀ n ∈ x.1.mem, -9223372036854775808 ≤ n ∧ n ≤ 9223372036854775807
/-- A list of them. -/
def Whs (w : World) (v : Value) (ws : List (WhoD × Value)) : Prop :=
  ∃ a c, v = .slice a ws.length c ∧ ws.length ≤ c ∧ c ≤ 9223372036854775807 ∧ (ws = [] ∨ ∃ b o, a = some ⟨b, o, none⟩ ∧ b < w.heap.size ∧ ∀ k (h : k < ws.length), WhoAt w b (o + k * 3) ws[k])
theorem wk {w w' : World} (k : Kept [] w w') {a : Addr} {v : Value} (h : w.cell? a = some v) : w'.cell? a = some v := by
  have hb := World.block_lt_of_cell? w _ h
  have e := k.block a.block hb (by simp)
  unfold World.cell? at h ⊢
  rw [e]
  exact h
theorem WhoAt.kept {w w' : World} {b p : Nat} {x : WhoD × Value} (h : WhoAt w b p x) (k : Kept [] w w') : WhoAt w' b p x :=
  ⟨wk k h.c0, wk k h.c1, wk k h.c2, h.nums.kept k (fun _ _ _ _ => by simp), h.long, h.lead, h.mem⟩
theorem Whs.kept {w w' : World} {v : Value} {ws : List (WhoD × Value)} (h : Whs w v ws) (k : Kept [] w w') : Whs w' v ws := by
  obtain ⟨a, c, e, h1, h2, h3⟩ := h
  refine ⟨a, c, e, h1, h2, ?_⟩
  rcases h3 with h3 | ⟨b, o, ea, hb, h3⟩
  · exact Or.inl h3
  · exact Or.inr ⟨b, o, ea, by have := k.size; omega, fun k' hk' => (h3 k' hk').kept k⟩
section
variable {H : Type} {enc : TypeId × Value → H} {w : World} {spare : Nat → Bool} {held : Bool}
theorem ints_at {n : Nat} {v : Value} {y : DataW H × List MemPlace} (h : DataW.trod enc Tryd.prog w 0 spare held n 77 [v] = some y) :
    ∃ xs : List Int, xs.length ≤ 9223372036854775807 ∧ (∀ x ∈ xs, -9223372036854775808 ≤ x ∧ x ≤ 9223372036854775807) ∧ LsZ w v xs := by
  rcases open_slice1 Tryd.underlying77 kI h with ⟨hv, -⟩ | ⟨a, len, cap, m, n, V, D, Pl, hcs, hb, hl, hm, hmm, hx, hi⟩
  · simp only [List.cons.injEq, and_true] at hv
    subst hv
    exact ⟨[], by simp, (fun x hx => by cases hx), none, 0, rfl, Nat.le_refl _, Or.inl rfl⟩
  · simp only [List.cons.injEq, and_true] at hcs
    subst hcs
    unfold maxLen at hm
    have hlm : len ≤ m := by rw [hmm]; split <;> omega
    have hV : ∀ i, i < len → V i = .int .i64 (numIn (V i)) ∧ -9223372036854775808 ≤ numIn (V i) ∧ numIn (V i) ≤ 9223372036854775807 := fun i hl => by
      obtain ⟨n0, e0, -, w0⟩ := DataW.trod_int Tryd.underlying3 (hi i (by omega)).2
      simp only [List.cons.injEq, and_true] at e0
      rw [e0]
      have h2 : -9223372036854775808 ≤ n0 ∧ n0 ≤ 9223372036854775807 := by simpa [Lit.wf, IntKind.min, IntKind.max, IntKind.signed, IntKind.bits] using w0
      exact ⟨rfl, h2.1, h2.2⟩
    refine ⟨(List.range len).map (fun i => numIn (V i)), by simp; omega, fun x hx => ?_, some a, cap, by simp, by simpa using hl, ?_⟩
    · obtain ⟨i, hi2, rfl⟩ := List.mem_map.1 hx
      exact (hV i (List.mem_range.1 hi2)).2
    · by_cases h0 : len = 0
      · left; rw [h0]; rfl
      · right
        have c0 := (hi 0 (by omega)).1
        obtain ⟨b, o, rfl⟩ : ∃ b o, a = ⟨b, o, none⟩ := by
          obtain ⟨b, o, q⟩ := a
          have hsq : q = none := by simpa [Addr.add] using World.cell?_spot c0
          subst hsq
          exact ⟨b, o, rfl⟩
        refine ⟨b, o, rfl, World.block_lt_of_cell? w _ c0, fun j x hx => ?_⟩
        rw [List.getElem?_map] at hx
        by_cases hjl : j < len
        · rw [List.getElem?_range hjl] at hx
          simp only [Option.map_some, Option.some.injEq] at hx
          subst hx
          have := (hi j (by omega)).1
          rw [Addr.add_lit, (hV j hjl).1] at this
          exact this
        · rw [List.getElem?_eq_none (by simp; omega)] at hx
          cases hx
theorem fields_w {t e : TypeId} {fs : Array Field} {fuel : Nat} {cs : List Value} {x : DataW H × List MemPlace} (ht : Tryd.prog.underlying t = some (.slice e)) (he : Tryd.prog.underlying e = some (.struct fs))
    (hone : oneCellFields Tryd.prog fs = true) (hC : Tryd.prog.cellsOf e = fs.size) (h : DataW.trod enc Tryd.prog w 0 spare held fuel t cs = some x) :
    (cs = [.slice none 0 0]) ∨
    ∃ (a : Addr) (len cap : Nat), cs = [.slice (some a) len cap] ∧ len ≤ cap ∧ cap ≤ maxLen ∧
      ∀ i, i < len → ∃ n : Nat, ∀ (j : Nat) (f : Field), fs[j]? = some f → ∃ (v : Value) (y : DataW H × List MemPlace), w.cell? (a.add (i * fs.size + j)) = some v ∧ DataW.trod enc Tryd.prog w 0 spare held n f.type [v] = some y := by
  rcases open_slice ht h with h0 | ⟨a, len, cap, m, n, D, Pl, hcs, hb, hl, hm, hmm, hx, hi⟩
  · exact .inl h0.1
  · refine .inr ⟨a, len, cap, hcs, hl, hm, fun i him => ?_⟩
    have him2 : i < m := by rw [hmm]; split <;> omega
    obtain ⟨cs', hc, ht'⟩ := hi i him2
    rw [hC] at hc
    obtain ⟨ys, n', hn', hy, hlen, hyl, hf⟩ := DataW.trod_struct he ht'
    obtain ⟨_, hcl, hat⟩ := World.cells?_some hc
    refine ⟨n', fun j f hj => ?_⟩
    obtain ⟨ho, hk⟩ := hone_of hone j f hj
    have hjl : j < fs.size := (Array.getElem?_eq_some_iff.1 hj).1
    have hcell := hat j hjl
    have hv : cs'[j]? = some (cs'[j]'(by omega)) := List.getElem?_eq_getElem (by omega)
    have h1 := hf j f hj
    rw [ho, hk] at h1
    have hone' : (cs'.drop j).take 1 = [cs'[j]'(by omega)] := by
      rw [List.drop_eq_getElem_cons (by omega)]
      rfl
    rw [hone'] at h1
    have hys : ys[j]? = some (ys[j]'(by omega)) := List.getElem?_eq_getElem (by omega)
    refine ⟨_, _, ?_, h1.trans hys⟩
    rw [← Go.Deep.add_add, hcell, hv]
theorem whos_of {n : Nat} {v : Value} {x : DataW H × List MemPlace} (h : DataW.trod enc Tryd.prog w 0 spare held n 41 [v] = some x) : ∃ ws, Whs w v ws := by
  rcases fields_w Tryd.underlying41 Tryd.underlying79 (by kernel_rfl) (by kernel_rfl) h with h0 | ⟨a, len, cap, hcs, hl, hm, hall⟩
  · simp only [List.cons.injEq, and_true] at h0
    exact ⟨[], none, 0, h0, by simp, by decide, Or.inl rfl⟩
  · simp only [List.cons.injEq, and_true] at hcs
    subst hcs
    unfold maxLen at hm
    have hex : ∀ i, ∃ y : WhoD × Value, i < len → w.cell? (a.add (i * 3 + 0)) = some (.int .i64 y.1.lead) ∧ w.cell? (a.add (i * 3 + 1)) = some y.2 ∧ w.cell? (a.add (i * 3 + 2)) = some (.string y.1.key) ∧ LsZ w y.2 y.1.mem ∧
        (y.1.mem.length ≤ 9223372036854775807 ∧ y.1.key.size ≤ 9223372036854775807) ∧ (-9223372036854775808 ≤ y.1.lead ∧ y.1.lead ≤ 9223372036854775807) ∧ ∀ n ∈ y.1.mem, -9223372036854775808 ≤ n ∧ n ≤ 9223372036854775807 := by
      intro i
      by_cases hi : i < len
      · obtain ⟨n, hf⟩ := hall i hi
        obtain ⟨v0, y0, c0, t0⟩ := hf 0 _ rfl
        obtain ⟨v1, y1, c1, t1⟩ := hf 1 _ rfl
        obtain ⟨v2, y2, c2, t2⟩ := hf 2 _ rfl
        obtain ⟨n0, e0, -, w0⟩ := DataW.trod_int Tryd.underlying3 t0
        obtain ⟨xs, x1, x2, x3⟩ := ints_at t1
        obtain ⟨s, e2, -, hs⟩ := DataW.trod_string Tryd.underlying9 t2
        simp only [List.cons.injEq, and_true] at e0 e2
        subst e0 e2
        unfold maxLen at hs
        have h2 : -9223372036854775808 ≤ n0 ∧ n0 ≤ 9223372036854775807 := by simpa [Lit.wf, IntKind.min, IntKind.max, IntKind.signed, IntKind.bits] using w0
        exact ⟨(⟨n0, xs, s⟩, v1), fun _ => ⟨c0, c1, c2, x3, ⟨x1, by omega⟩, h2, x2⟩⟩
      · exact ⟨(⟨0, [], ⟨#[]⟩⟩, .bool false), fun h => absurd h hi⟩
    obtain ⟨f, hf⟩ := Classical.axiomOfChoice hex
    refine ⟨(List.range len).map f, some a, cap, by simp, by simpa using hl, by omega, ?_⟩
    by_cases h0 : len = 0
    · left; rw [h0]; rfl
    · right
      have c0 := (hf 0 (by omega)).1
      obtain ⟨b, o, rfl⟩ : ∃ b o, a = ⟨b, o, none⟩ := by
        obtain ⟨b, o, q⟩ := a
        have hsq : q = none := by simpa [Addr.add] using World.cell?_spot c0
        subst hsq
        exact ⟨b, o, rfl⟩
      refine ⟨b, o, rfl, World.block_lt_of_cell? w _ c0, fun k hk => ?_⟩
      have hk1 : k < len := by simpa using hk
      obtain ⟨g0, g1, g2, g3, g4, g5, g6⟩ := hf k hk1
      have e : ((List.range len).map f)[k]'hk = f k := by simp
      rw [e]
      rw [Addr.add_lit] at g0 g1 g2
      exact ⟨g0, g1, g2, g3, g4, g5, g6⟩
end
end Us
end Go.Proofs.YteeheapenfklcaaDoor
