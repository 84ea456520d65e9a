/- A list of steps that came in, opened: where its cells lie, each step's bytes. -/
import Derived.Test.YtfdbpbhihccgbaaRows
import Derived.Test.YtfdbpbhihccgbaaInl
import Derived.Deep.Slices
import Derived.Deep.Fields
import Derived.ChangeSame
import Derived.OpenShut
namespace Go.Proofs.Ytfdbpbhihccgbaa.Opn
open Go.ChangeShapes Go.WideShapes Go.Deep Go.RowKit
set_option linter.unusedVariables false
section
variable {H : Type} {enc : TypeId × Value → H} {P : Program} {w : World} {base : Nat} {spare : Nat → Bool} {held : Bool}
/-- A slice of structs of one-cell fields, opened. -/
theorem fields_at {t e : TypeId} {fs : Array Field} {fuel : Nat} {cs : List Value} {x : DataW H × List MemPlace} (ht : P.underlying t = some (.slice e)) (he : P.underlying e = some (.struct fs))
    (hone : oneCellFields P fs = true) (hC : P.cellsOf e = fs.size) (h : DataW.trod enc P w base spare held fuel t cs = some x) :
    (cs = [.slice none 0 0]) ∨
    ∃ (a : Addr) (len cap : Nat) (D : Nat → DataW H) (sp : List (DataW H)), cs = [.slice (some a) len cap] ∧ len ≤ cap ∧ cap ≤ maxLen ∧ x.1 = .slice ((List.range len).map D) sp ∧
      ∀ i, i < len → ∃ (ys : List (DataW H × List MemPlace)) (n : Nat), D i = .agg (ys.map (·.1)) ∧
        ∀ (j : Nat) (f : Field), fs[j]? = some f → ∃ (v : Value) (y : DataW H × List MemPlace), w.cell? (a.add (i * fs.size + j)) = some v ∧ ys[j]? = some y ∧ DataW.trod enc P w base spare held n f.type [v] = some y := by
  rcases open_slice ht h with h0 | ⟨a, len, cap, m, n, D, Pl, hcs, hb, hl, hm, hmm, hx, hi⟩
  · exact .inl h0.1
  · refine .inr ⟨a, len, cap, D, _, hcs, hl, hm, by rw [hx], fun i him => ?_⟩
    have him2 : i < m := by rw [hmm]; split <;> omega
    obtain ⟨cs', hc, ht'⟩ := hi i him2
    rw [hC] at hc
    obtain ⟨ys, n', hn', hy, hlen, hyl, hf⟩ := DataW.trod_struct he ht'
    obtain ⟨_, hcl, hat⟩ := World.cells?_some hc
    simp only [Prod.mk.injEq] at hy
    refine ⟨ys, n', hy.1, fun j f hj => ?_⟩
    obtain ⟨ho, hk⟩ := hone_of hone j f hj
    have hjl : j < fs.size := (Array.getElem?_eq_some_iff.1 hj).1
    have hcell := hat j hjl
    have hv : cs'[j]? = some (cs'[j]'(by omega)) := List.getElem?_eq_getElem (by omega)
    have h1 := hf j f hj
    rw [ho, hk] at h1
    have hone' : (cs'.drop j).take 1 = [cs'[j]'(by omega)] := by
      rw [List.drop_eq_getElem_cons (by omega)]
      rfl
    rw [hone'] at h1
    have hys : ys[j]? = some (ys[j]'(by omega)) := List.getElem?_eq_getElem (by omega)
    refine ⟨_, _, ?_, hys, h1.trans hys⟩
    rw [← Go.Deep.add_add, hcell, hv]
end

theorem one_le {H : Type} (d : DataW H) : 1 ≤ Rows.uptoBulk d := by
  cases d with
  | lit l => cases l <;> simp [Rows.uptoBulk]
  | nil => simp [Rows.uptoBulk]
  | ptr d => simp [Rows.uptoBulk]
  | slice elems spare => simp [Rows.uptoBulk]
  | agg parts => simp [Rows.uptoBulk]
  | iface t d => simp [Rows.uptoBulk]
  | map entries => simp [Rows.uptoBulk]
  | held h => simp [Rows.uptoBulk]
theorem part_le {H : Type} {d : DataW H} {l : List (DataW H)} (h : d ∈ l) : Rows.uptoBulk d ≤ Rows.uptoBulkAll l := by
  induction l with
  | nil => cases h
  | cons x r ih =>
    simp only [Rows.uptoBulkAll]
    cases List.mem_cons.1 h with
    | inl e => subst e; omega
    | inr e => have := ih e; omega
theorem length_le {H : Type} (l : List (DataW H)) : l.length ≤ Rows.uptoBulkAll l := by
  induction l with
  | nil => simp [Rows.uptoBulkAll]
  | cons x r ih => have := one_le x; simp only [Rows.uptoBulkAll, List.length_cons]; omega

/-- An address whose cell is there is a plain one. -/
theorem plain_at {w : World} {a : Addr} {v : Value} (h : w.cell? (a.add 0) = some v) : ∃ b o, a = ⟨b, o, none⟩ := by
  obtain ⟨b, o, p⟩ := a
  have hs : p = none := by simpa [Addr.add] using World.cell?_spot h
  subst hs
  exact ⟨b, o, rfl⟩

theorem shape {H : Type} {enc : TypeId × Value → H} {w : World} {fuel : Nat} {cs : List Value} {x : DataW H × List MemPlace} (h : DataW.trod enc Try.prog w 0 (fun _ => true) true fuel 23 cs = some x) (hk : Rows.uptoBulk x.1 ≤ 1048576) :
    ∃ (a : Option Addr) (cap b off : Nat) (ops : List Stp) (bs : Nat → List UInt8), cs = [.slice a ops.length cap] ∧ Sta.In w a cap b off ops bs (List.range w.heap.size) := by
  have hT : ∀ i ∈ List.range w.heap.size, i < w.heap.size := fun i hi => List.mem_range.1 hi
  rcases fields_at Try.underlying23 Try.underlying43 (by kernel_rfl) (by kernel_rfl) h with h0 | ⟨a, len, cap, D, sp, hcs, hl, hm, hx, hall⟩
  · exact ⟨none, 0, 0, 0, [], fun _ => [], h0, ⟨by simp, by simp, ⟨hT, fun i hi => by simp at hi⟩, fun i hi => by simp at hi⟩⟩
  · have hbulk : Rows.uptoBulkAll ((List.range len).map D) ≤ 1048576 := by
      rw [hx] at hk
      simp only [Rows.uptoBulk] at hk
      omega
    have hlen : len ≤ 1048576 := by
      have := length_le ((List.range len).map D)
      simp at this
      omega
    have hex : ∀ i, ∃ y : Stp × List UInt8, i < len → (∀ j, j < 6 → w.cell? (a.add (i * 6 + j)) = (y.1.cells)[j]?) ∧ StpOk w y.1 y.2 (List.range w.heap.size) ∧ y.2.length ≤ 1048576 ∧ y.1.s.size ≤ 1048576 ∧ -9223372036854775808 ≤ y.1.who ∧ y.1.who ≤ 9223372036854775807 := by
      intro i
      by_cases hi : i < len
      · obtain ⟨ys, n, hD, hf⟩ := hall i hi
        have hbi : Rows.uptoBulkAll (ys.map (·.1)) ≤ 1048576 := by
          have h1 := part_le (d := D i) (l := (List.range len).map D) (List.mem_map.2 ⟨i, List.mem_range.2 hi, rfl⟩)
          rw [hD] at h1
          simp only [Rows.uptoBulk] at h1
          omega
        obtain ⟨v0, y0, c0, p0, t0⟩ := hf 0 _ rfl
        obtain ⟨v1, y1, c1, p1, t1⟩ := hf 1 _ rfl
        obtain ⟨v2, y2, c2, p2, t2⟩ := hf 2 _ rfl
        obtain ⟨v3, y3, c3, p3, t3⟩ := hf 3 _ rfl
        obtain ⟨v4, y4, c4, p4, t4⟩ := hf 4 _ rfl
        obtain ⟨v5, y5, c5, p5, t5⟩ := hf 5 _ rfl
        obtain ⟨n0, e0, -, w0⟩ := DataW.trod_int Try.underlying3 t0
        obtain ⟨n1, e1, -, w1⟩ := DataW.trod_int Try.underlying3 t1
        obtain ⟨n2, e2, -, w2⟩ := DataW.trod_int Try.underlying41 t2
        obtain ⟨n3, e3, -, w3⟩ := DataW.trod_int Try.underlying3 t3
        obtain ⟨s5, e5, x5, -⟩ := DataW.trod_string Try.underlying9 t5
        simp only [List.cons.injEq, and_true] at e0 e1 e2 e3 e5
        subst e0 e1 e2 e3 e5
        have b3 := bounds_i64 w3
        have b0 := bounds_i64 w0
        have b2 : 0 ≤ n2 ∧ n2 ≤ 18446744073709551615 := bounds_u64 w2
        obtain ⟨nn, rfl⟩ : ∃ nn : Nat, n2 = nn := ⟨n2.toNat, by omega⟩
        have hs5 : s5.size ≤ 1048576 := by
          have h1 := part_le (d := y5.1) (l := ys.map (·.1)) (List.mem_map.2 ⟨y5, List.mem_of_getElem? p5, rfl⟩)
          rw [x5] at h1
          simp [Rows.uptoBulk] at h1
          omega
        have hb4 : ∃ bs : List UInt8, Src w v4 bs (List.range w.heap.size) ∧ bs.length ≤ 1048576 := by
          rcases open_ints Try.underlying37 Try.underlying5 (by kernel_rfl) t4 with ⟨hc4, _⟩ | ⟨ad, l4, cp, zs, hc4, _, hl4, hm4, hz4, hx4, hcell4, hwf4⟩
          · simp only [List.cons.injEq, and_true] at hc4
            subst hc4
            exact ⟨[], ⟨none, 0, rfl, fun _ => ⟨rfl, rfl⟩, fun ad e => by cases e⟩, by simp⟩
          · simp only [List.cons.injEq, and_true] at hc4
            subst hc4
            have hz : zs.length = cp := by simpa using hz4
            have hbl : ((zs.take l4).map fun z => UInt8.ofNat z.toNat).length = l4 := by simp; omega
            have hcl : ∀ (j : Nat) (u : Value), (((zs.take l4).map fun z => UInt8.ofNat z.toNat).map bv)[j]? = some u → w.cell? (ad.add j) = some u := fun j u hu => by
              have hj : j < l4 := by
                have := (List.getElem?_eq_some_iff.1 hu).1
                simp at this
                omega
              have hjz : j < zs.length := by omega
              have hget : zs.getD j 0 = zs[j] := by rw [List.getD_eq_getElem?_getD, List.getElem?_eq_getElem hjz]; rfl
              have hb := bounds_u8 (hwf4 _ (List.getElem_mem hjz))
              rw [hcell4 j hjz, hget, ← hu]
              simp [hj, List.getElem?_eq_getElem hjz, bv]
              omega
            refine ⟨_, ⟨some ad, cp, by rw [hbl], fun e => (by cases e), fun ad' e => ?_⟩, ?_⟩
            · cases e
              refine ⟨fun hp => List.mem_range.2 ?_, hcl⟩
              have h1 := World.block_lt_of_cell? w _ (hcl 0 _ (List.getElem?_eq_getElem (by simpa using hp)))
              simpa [Addr.add] using h1
            · rw [hbl]
              have h1 := part_le (d := y4.1) (l := ys.map (·.1)) (List.mem_map.2 ⟨y4, List.mem_of_getElem? p4, rfl⟩)
              rw [hx4] at h1
              simp only [Rows.uptoBulk] at h1
              have h2 := length_le (H := H) (lits .u8 (zs.take l4))
              have h3 : (lits (H := H) .u8 (zs.take l4)).length = l4 := by
                unfold lits
                simp
                omega
              omega
        obtain ⟨bs, hseg, hbl⟩ := hb4
        refine ⟨(⟨n0, n1, nn, n3, v4, s5⟩, bs), fun _ => ⟨fun j hj => ?_, ⟨by show nn ≤ _; omega, b3.1, b3.2, by show s5.size ≤ _; omega, hseg, by show bs.length ≤ _; omega, hT⟩, hbl, hs5, b0.1, b0.2⟩⟩
        obtain rfl | rfl | rfl | rfl | rfl | rfl : j = 0 ∨ j = 1 ∨ j = 2 ∨ j = 3 ∨ j = 4 ∨ j = 5 := by omega
        · exact c0
        · exact c1
        · exact c2
        · exact c3
        · exact c4
        · exact c5
      · exact ⟨(⟨0, 0, 0, 0, .slice none 0 0, ByteArray.empty⟩, []), fun h => absurd h hi⟩
    obtain ⟨f, hf⟩ := Classical.axiomOfChoice hex
    refine ⟨some a, cap, a.block, a.off, (List.range len).map fun i => (f i).1, fun i => (f i).2, by simpa using hcs, ⟨by simpa using hlen, fun h0 => ?_, ⟨hT, fun i hi => ?_⟩, fun i hi => ?_⟩⟩
    · have h1 : 0 < len := by simpa using h0
      obtain ⟨b, o, rfl⟩ := plain_at ((hf 0 h1).1 0 (by decide))
      exact ⟨rfl, by simpa using hl⟩
    · have h1 : i < len := by simpa using hi
      obtain ⟨b, o, rfl⟩ := plain_at ((hf 0 (by omega)).1 0 (by decide))
      obtain ⟨g1, g2, g3, g4, -, -⟩ := hf i h1
      have e : ((List.range len).map fun i => (f i).1)[i]'hi = (f i).1 := by simp
      rw [e]
      refine ⟨List.mem_range.2 ?_, fun j hj => ?_, g2, g3, g4⟩
      · have hh : w.cell? ⟨b, o, none⟩ = some (.int .i64 (f 0).1.who) := (hf 0 (by omega)).1 0 (by decide)
        exact World.block_lt_of_cell? w _ hh
      · have := g1 j hj
        rw [Addr.add_lit, ← Nat.add_assoc] at this
        exact this
    · have h1 : i < len := by simpa using hi
      obtain ⟨-, -, -, -, g5, g6⟩ := hf i h1
      have e : ((List.range len).map fun i => (f i).1)[i]'hi = (f i).1 := by simp
      rw [e]
      exact ⟨g5, g6⟩
end Go.Proofs.Ytfdbpbhihccgbaa.Opn
