/- Rows of records and of numbers that come in, opened. -/
import Derived.Test.YteebiemfhicgbaaOpe
import Derived.Test.YteebiemfhicgbaaPwl
import Derived.Deep.Slices
namespace Go.Proofs.Yteebiemfhicgbaa.Ope
open Go.ChangeShapes Go.WideShapes Go.ChangeAt Go.RowKit Go.Deep
open Go.ChangeMaps (open_string shut_string)
set_option linter.unusedVariables false
section
variable {H : Type} {enc : TypeId × Value → H} {w : World} {base : Nat} {spare : Nat → Bool} {held : Bool}
set_option maxRecDepth 100000 in
set_option maxHeartbeats 1000000 in
theorem record_cells {l : List Value} {d : DataW H} {p : List MemPlace} {fuel : Nat} (hsz : l.length = 13) (hf : DataW.trod enc Try.prog w base spare held fuel 30 l = some (d, p)) (hw : ∀ x ∈ d.weights Try.prog 30, x ≤ 140737488355328) : ∃ s : Rec, s.Ok ∧ l = s.cells.toList := by
  match l, hsz with
  | [c0, c1, c2, c3, c4, c5, c6, c7, c8, c9, c10, c11, c12], _ =>
    obtain ⟨xs, n, _, hx, _, hlen, hg⟩ := DataW.trod_struct Try.underlying30 hf
    match xs, hlen with
    | [y0, y1, y2, y3, y4, y5, y6, y7, y8, y9, y10], _ =>
      have g0 : DataW.trod enc Try.prog w base spare held n 24 [c0] = some y0 := by simpa [Value.cells, k_u16] using hg 0 _ rfl
      have g1 : DataW.trod enc Try.prog w base spare held n 25 [c1] = some y1 := by simpa [Value.cells, k_u32] using hg 1 _ rfl
      have g3 : DataW.trod enc Try.prog w base spare held n 25 [c5] = some y3 := by simpa [Value.cells, k_u32] using hg 3 _ rfl
      have g4 : DataW.trod enc Try.prog w base spare held n 25 [c6] = some y4 := by simpa [Value.cells, k_u32] using hg 4 _ rfl
      have g5 : DataW.trod enc Try.prog w base spare held n 25 [c7] = some y5 := by simpa [Value.cells, k_u32] using hg 5 _ rfl
      have g6 : DataW.trod enc Try.prog w base spare held n 26 [c8] = some y6 := by simpa [Value.cells, k_u64] using hg 6 _ rfl
      have g2 : DataW.trod enc Try.prog w base spare held n 28 [c2, c3, c4] = some y2 := by simpa [Value.cells, k3] using hg 2 _ rfl
      have g7 : DataW.trod enc Try.prog w base spare held n 9 [c9] = some y7 := by simpa [Value.cells, k_s] using hg 7 _ rfl
      have g8 : DataW.trod enc Try.prog w base spare held n 9 [c10] = some y8 := by simpa [Value.cells, k_s] using hg 8 _ rfl
      have g9 : DataW.trod enc Try.prog w base spare held n 9 [c11] = some y9 := by simpa [Value.cells, k_s] using hg 9 _ rfl
      have g10 : DataW.trod enc Try.prog w base spare held n 9 [c12] = some y10 := by simpa [Value.cells, k_s] using hg 10 _ rfl
      obtain ⟨mk, mv, mq, hk, hvv, hq, rfl, rfl, rfl⟩ := qid g2
      obtain ⟨n0, e0, -, w0⟩ := DataW.trod_int Try.underlying24 g0
      simp only [List.cons.injEq, and_true] at e0
      subst e0
      obtain ⟨m0, rfl, h0⟩ := nat_of (m := 65535) (bounds_u16 w0)
      obtain ⟨n1, e1, -, w1⟩ := DataW.trod_int Try.underlying25 g1
      simp only [List.cons.injEq, and_true] at e1
      subst e1
      obtain ⟨m1, rfl, h1⟩ := nat_of (m := 4294967295) (bounds_u32 w1)
      obtain ⟨n3, e3, -, w3⟩ := DataW.trod_int Try.underlying25 g3
      simp only [List.cons.injEq, and_true] at e3
      subst e3
      obtain ⟨m3, rfl, h3⟩ := nat_of (m := 4294967295) (bounds_u32 w3)
      obtain ⟨n4, e4, -, w4⟩ := DataW.trod_int Try.underlying25 g4
      simp only [List.cons.injEq, and_true] at e4
      subst e4
      obtain ⟨m4, rfl, h4⟩ := nat_of (m := 4294967295) (bounds_u32 w4)
      obtain ⟨n5, e5, -, w5⟩ := DataW.trod_int Try.underlying25 g5
      simp only [List.cons.injEq, and_true] at e5
      subst e5
      obtain ⟨m5, rfl, h5⟩ := nat_of (m := 4294967295) (bounds_u32 w5)
      obtain ⟨n6, e6, -, w6⟩ := DataW.trod_int Try.underlying26 g6
      simp only [List.cons.injEq, and_true] at e6
      subst e6
      obtain ⟨m6, rfl, h6⟩ := nat_of (m := 18446744073709551615) (bounds_u64 w6)
      obtain ⟨s7, e7, x7, z7⟩ := DataW.trod_string Try.underlying9 g7
      simp only [List.cons.injEq, and_true] at e7
      subst e7
      obtain ⟨s8, e8, x8, z8⟩ := DataW.trod_string Try.underlying9 g8
      simp only [List.cons.injEq, and_true] at e8
      subst e8
      obtain ⟨s9, e9, x9, z9⟩ := DataW.trod_string Try.underlying9 g9
      simp only [List.cons.injEq, and_true] at e9
      subst e9
      obtain ⟨s10, e10, x10, z10⟩ := DataW.trod_string Try.underlying9 g10
      simp only [List.cons.injEq, and_true] at e10
      subst e10
      simp only [Prod.mk.injEq] at hx
      obtain ⟨hd, -⟩ := hx
      have q7 : s7.size ≤ 140737488355328 := by
        have e : s7.size = s7.data.toList.length := (Array.length_toList).symm
        rw [e]
        refine hw _ ?_
        rw [hd]
        unfold DataW.weights
        rw [Try.underlying30]
        exact DataW.weights_mem_each (j := 7) (t := 9) (d := y7.1) rfl rfl _ (by rw [x7]; simp [DataW.weights])
      have q8 : s8.size ≤ 140737488355328 := by
        have e : s8.size = s8.data.toList.length := (Array.length_toList).symm
        rw [e]
        refine hw _ ?_
        rw [hd]
        unfold DataW.weights
        rw [Try.underlying30]
        exact DataW.weights_mem_each (j := 8) (t := 9) (d := y8.1) rfl rfl _ (by rw [x8]; simp [DataW.weights])
      have q9 : s9.size ≤ 140737488355328 := by
        have e : s9.size = s9.data.toList.length := (Array.length_toList).symm
        rw [e]
        refine hw _ ?_
        rw [hd]
        unfold DataW.weights
        rw [Try.underlying30]
        exact DataW.weights_mem_each (j := 9) (t := 9) (d := y9.1) rfl rfl _ (by rw [x9]; simp [DataW.weights])
      have q10 : s10.size ≤ 140737488355328 := by
        have e : s10.size = s10.data.toList.length := (Array.length_toList).symm
        rw [e]
        refine hw _ ?_
        rw [hd]
        unfold DataW.weights
        rw [Try.underlying30]
        exact DataW.weights_mem_each (j := 10) (t := 9) (d := y10.1) rfl rfl _ (by rw [x10]; simp [DataW.weights])
      exact ⟨⟨m0, m1, mk, mv, mq, m3, m4, m5, m6, s7, s8, s9, s10⟩, ⟨h0, h1, hk, hvv, hq, h3, h4, h5, h6, q7, q8, q9, q10⟩, rfl⟩
theorem weights_all {e : TypeId} : ∀ {elems : List (DataW H)} {d : DataW H}, d ∈ elems → ∀ x ∈ d.weights Try.prog e, x ∈ DataW.weightsAll Try.prog e elems
  | [], d, h, x, hx => by cases h
  | a :: r, d, h, x, hx => by
    rcases List.mem_cons.1 h with rfl | h
    · simp only [DataW.weightsAll, List.mem_append]; exact Or.inl hx
    · simp only [DataW.weightsAll, List.mem_append]; exact Or.inr (weights_all h x hx)
end
theorem k36 : Try.prog.cellsOf 30 = 13 := by kernel_rfl
set_option maxRecDepth 100000 in
theorem rows {H : Type} {enc : TypeId × Value → H} {w : World} {spare : Nat → Bool} {held : Bool} {a1 : Option Addr} {len1 cap1 : Nat} {d : DataW H} {p : List MemPlace} (h : DataW.Trod enc Try.prog w 0 spare held 36 (.slice a1 len1 cap1) d p)
    (hw : ∀ x ∈ d.weights Try.prog 36, x ≤ 140737488355328) : ∃ (l : List Rec) (T : List Nat), l.length ≤ 140737488355328 ∧ (∀ s ∈ l, s.Ok) ∧ InRow w (.slice a1 len1 cap1) l T := by
  obtain ⟨fuel, hf⟩ := h
  rcases open_slice Try.underlying36 hf with ⟨hv, -⟩ | ⟨a, len, cap, m, n, D, Pl, hcs, hb, hl, hm, hmm, hx, hi⟩
  · have hv' : [Value.slice a1 len1 cap1] = [.slice none 0 0] := hv
    simp only [List.cons.injEq, Value.slice.injEq, and_true] at hv'
    obtain ⟨rfl, rfl, rfl⟩ := hv'
    exact ⟨[], [], by simp, (fun s hs => by cases hs), none, 0, rfl, fun h => by cases h⟩
  · have hcs' : [Value.slice a1 len1 cap1] = [.slice (some a) len cap] := hcs
    simp only [List.cons.injEq, Value.slice.injEq, and_true] at hcs'
    obtain ⟨rfl, rfl, rfl⟩ := hcs'
    have hlm : len1 ≤ m := by rw [hmm]; split <;> omega
    simp only [Prod.mk.injEq] at hx
    obtain ⟨hd, -⟩ := hx
    have hweigh : d.weights Try.prog 36 = (((List.range len1).map D).length + ((List.range (m - len1)).map fun j => D (len1 + j)).length) * Try.prog.bytesOf 30 :: (DataW.weightsAll Try.prog 30 ((List.range len1).map D) ++ DataW.weightsAll Try.prog 30 ((List.range (m - len1)).map fun j => D (len1 + j))) := by
      rw [hd]
      simp only [DataW.weights, Try.underlying36]
    have hS : ∀ i, ∃ s : Rec, i < len1 → s.Ok ∧ ∀ (k : Nat) (u : Value), s.cells.toList[k]? = some u → w.cell? (a.add (i * 13 + k)) = some u := fun i => by
      by_cases hil : i < len1
      · obtain ⟨cs', hc, ht⟩ := hi i (by omega)
        rw [k36] at hc
        obtain ⟨_, hcl, hat⟩ := World.cells?_some hc
        obtain ⟨s, so, hs⟩ := record_cells hcl ht (fun x hx => hw x (by
          rw [hweigh]
          refine List.mem_cons_of_mem _ (List.mem_append_left _ (weights_all (d := D i) ?_ x hx))
          exact List.mem_map.2 ⟨i, List.mem_range.2 hil, rfl⟩))
        refine ⟨s, fun _ => ⟨so, fun k u hu => ?_⟩⟩
        subst hs
        have hk : k < 13 := (List.getElem?_eq_some_iff.1 hu).1
        rw [← Go.Deep.add_add, hat k hk]
        exact hu
      · exact ⟨smp, fun h => absurd h hil⟩
    have hlen : len1 ≤ 140737488355328 := by
      have h1 := hw _ (by rw [hweigh]; exact List.mem_cons_self)
      rw [List.length_map, List.length_range] at h1
      have hb : Try.prog.bytesOf 30 = 112 := by kernel_rfl
      rw [hb] at h1
      omega
    refine ⟨(List.range len1).map (fun i => Classical.choose (hS i)), [a.block], by simpa using hlen, fun s hs => ?_, some a, cap1, by simp, fun hp => ?_⟩
    · obtain ⟨i, hi2, rfl⟩ := List.mem_map.1 hs
      exact (Classical.choose_spec (hS i) (List.mem_range.1 hi2)).1
    · simp at hp
      have h0 := (Classical.choose_spec (hS 0) hp).2 0 _ rfl
      obtain ⟨b, o, rfl⟩ : ∃ b o, a = ⟨b, o, none⟩ := by
        obtain ⟨b, o, q⟩ := a
        have hsq : q = none := by simpa [Addr.add] using World.cell?_spot h0
        subst hsq
        exact ⟨b, o, rfl⟩
      refine ⟨b, o, rfl, by simp, fun i s hs k u hu => ?_⟩
      rw [List.getElem?_map] at hs
      by_cases hil : i < len1
      · rw [List.getElem?_range hil] at hs
        simp only [Option.map_some, Option.some.injEq] at hs
        subst hs
        have := (Classical.choose_spec (hS i) hil).2 k u hu
        rw [Addr.add_lit] at this
        rw [show o + i * 13 + k = o + (i * 13 + k) by omega]
        exact this
      · rw [List.getElem?_eq_none (by simp; omega)] at hs
        cases hs
end Go.Proofs.Yteebiemfhicgbaa.Ope
