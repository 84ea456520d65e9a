/- locks: people, Queue, Ask, Free, Idle. -/
import Derived.Test.YtpiiccomkfcifaaLkg
namespace Go.Proofs.Ytpiiccomkfcifaa
set_option linter.unusedVariables false
open Go.RowKit
namespace Lk
open Go.Proofs.Ytpiiccomkfcifaa.Mpf Go.PlainAid
/-- Whole numbers in a block. -/
def Nu (w : World) (v : Value) (l : List Nat) : Prop := ∃ g c cur, v = .slice (some ⟨g, 0, none⟩) l.length c ∧ w.heap[g]? = some (.cells cur 3 (0, 0)) ∧ l.length ≤ c ∧ c ≤ maxLen ∧ ∀ (j : Nat) (x : Nat), l[j]? = some x → cur[j]? = some (.int .i64 x)
theorem Nu.kept {w w' : World} {v : Value} {l : List Nat} (h : Nu w v l) (k : Kept [] w w') : Nu w' v l := by
  obtain ⟨g, c, cur, rfl, hg, r⟩ := h
  exact ⟨g, c, cur, rfl, (k.block g (block_lt hg) (by simp)).trans hg, r⟩
theorem Nu.stays {Ba : Nat} {w w' : World} {v : Value} {l : List Nat} (h : Nu w v l) (k : KL Ba w w') : Nu w' v l := by
  obtain ⟨g, c, cur, rfl, hg, r⟩ := h
  exact ⟨g, c, cur, rfl, k.1 _ (Or.inr rfl) g cur hg, r⟩
theorem Nu.slice {w : World} {v : Value} {l : List Nat} (h : Nu w v l) : ∃ g c, v = .slice (some ⟨g, 0, none⟩) l.length c ∧ l.length ≤ c ∧ c ≤ maxLen := by
  obtain ⟨g, c, cur, rfl, hg, h1, h2, -⟩ := h
  exact ⟨g, c, rfl, h1, h2⟩
/-- So many of them are filled in. -/
def fillN (l : List (Nat × Bool)) (j : Nat) : Array Value := ((l.take j).map (fun x => Value.int .i64 x.1) ++ List.replicate (l.length - j) (Value.int .i64 0)).toArray
theorem fillN_size (l : List (Nat × Bool)) {j : Nat} (h : j ≤ l.length) : (fillN l j).size = l.length := by simp [fillN]; omega
theorem fillN_set (l : List (Nat × Bool)) {j : Nat} (h : j < l.length) : (fillN l j).setIfInBounds j (.int .i64 l[j].1) = fillN l (j + 1) := by
  apply Array.ext'
  rw [Array.toList_setIfInBounds]
  unfold fillN
  have hl : ((l.take j).map (fun x => Value.int .i64 x.1)).length = j := by simp; omega
  rw [show l.length - j = (l.length - (j + 1)) + 1 by omega, List.replicate_succ, List.take_succ_eq_append_getElem h, List.map_append]
  simp only [List.append_assoc, List.map_cons, List.map_nil, List.cons_append, List.nil_append]
  rw [List.set_append_right _ _ (by omega), hl, Nat.sub_self]
  rfl
theorem fillN_all (l : List (Nat × Bool)) : fillN l l.length = (l.map (fun x => Value.int .i64 x.1)).toArray := by simp [fillN]
theorem cell_get {w : World} {s : Value} {q : List (Nat × Bool)} (h : Ro w s q) : ∃ a c, s = .slice a q.length c ∧ q.length ≤ c ∧ c ≤ maxLen ∧ (q = [] ∨ ∃ g o, a = some ⟨g, o, none⟩ ∧ g < w.heap.size ∧ ∀ j (hj : j < q.length), w.cell? ⟨g, o + j * 2, none⟩ = some (.int .i64 q[j].1) ∧ w.cell? ⟨g, o + j * 2 + 1, none⟩ = some (.bool q[j].2)) := by
  rcases h with ⟨rfl, rfl⟩ | ⟨g, o, cap, cur, rfl, hg, h1, h2, h3, h4⟩
  · exact ⟨none, 0, rfl, Nat.le_refl _, by decide, Or.inl rfl⟩
  · exact ⟨_, _, rfl, h1, h2, Or.inr ⟨g, o, rfl, block_lt hg, fun j hj => cell_two hg h4 hj⟩⟩
set_option maxHeartbeats 4000000 in
set_option maxRecDepth 100000 in
theorem people_any {w : World} {s : Value} {q : List (Nat × Bool)} (h : Ro w s q) (hq : q.length ≤ 1000) :
    Calls Try.prog 34 #[s] w fun e w' => ∃ v, e = .returned v ∧ Nu w' v (q.map (·.1)) ∧ Kept [] w w' := by
  obtain ⟨a, c, rfl, hc1, hc2, hcell⟩ := cell_get h
  obtain ⟨b0, hb0⟩ : ∃ b, b = w.heap.size := ⟨_, rfl⟩
  have CE : Hid (∀ w', Kept [] w w' → ∀ j (hj : j < q.length), ∃ g o, a = some ⟨g, o, none⟩ ∧ w'.cell? ⟨g, o + j * 2, none⟩ = some (.int .i64 q[j].1) ∧ w'.cell? ⟨g, o + j * 2 + 1, none⟩ = some (.bool q[j].2)) := fun w' k j hj => by
    rcases hcell with e | ⟨g, o, rfl, hg, hcc⟩
    · subst e; simp at hj
    · have e := k.block g hg (by simp)
      refine ⟨g, o, rfl, ?_, ?_⟩
      · have := (hcc j hj).1; unfold World.cell? at this ⊢; rw [e]; exact this
      · have := (hcc j hj).2; unfold World.cell? at this ⊢; rw [e]; exact this
  have hc3 : c ≤ 9223372036854775807 := by unfold maxLen at hc2; omega
  have HB : Hid (b0 = w.heap.size) := hb0
  obtain ⟨i0, hi0, hz0, hs0, hy0⟩ : ∃ i, Try.prog.info? 3 = some i ∧ i.zero = some (.int .i64 0) ∧ i.size = 1 ∧ i.bytes = 8 := by
    have h : (Try.prog.info? 3).map (fun i => (i.zero, i.size, i.bytes)) = some (some (.int .i64 0), 1, 8) := by kernel_rfl
    cases hi : Try.prog.info? 3 with
    | none => rw [hi] at h; cases h
    | some i => rw [hi] at h; simp at h; exact ⟨i, rfl, h.1, h.2.1, h.2.2⟩
  have hMk := run_make (P := Try.prog) w 32 3 i0 (.int .i64 0) Try.underlying32 hi0 hz0 .i64 .i64 (q.length : Int) (q.length : Int) (by omega) (Int.le_refl _) (by rw [hy0]; omega) (by omega)
  have eM : madeCells (Value.int .i64 0).cells ((q.length : Int).toNat * i0.size) = fillN q 0 := by
    rw [hs0]
    apply Array.ext'
    simp only [madeCells, fillN, Value.cells]
    simp
    refine List.eq_replicate_iff.2 ⟨by simp, fun b hb => ?_⟩
    obtain ⟨x, -, rfl⟩ := List.mem_map.1 hb
    simp [Nat.mod_one]
  rw [eM] at hMk
  simp only [Int.toNat_natCast] at hMk
  obtain ⟨w1, hw1⟩ : ∃ x, x = w.alloc (.cells (fillN q 0) 3) := ⟨_, rfl⟩
  rw [← hw1, ← hb0] at hMk
  have B1 : Hid (w1.heap[b0]? = some (.cells (fillN q 0) 3 (0, 0))) := by rw [hw1, hb0]; exact (MapKept.heap_alloc w _).1
  have K1 : Hid (Kept [] w w1) := by rw [hw1]; exact (Kept.refl _ _).alloc _
  clear h hcell hc2 hb0 hw1 eM hi0 hz0 hs0 hy0
  go_enter Try.func34, Try.ntmps34
  go_wp2_with fail
  go_loopw [11] (fun iv wr => ∃ j : Nat, iv = .int .i64 j ∧ j ≤ q.length ∧ Hid (wr.heap[b0]? = some (.cells (fillN q j) 3 (0, 0))) ∧ Hid (Kept [] w wr)) (fun iv _ => q.length - (intOf iv).toNat)
  case atStart => exact ⟨0, rfl, Nat.zero_le _, B1, K1⟩
  case round =>
    obtain ⟨j, rfl, hj, BJ, KJ⟩ := hrel
    by_cases hlt : j < q.length
    · have j1 : (j : Int) < (q.length : Int) := by omega
      obtain ⟨g, o, rfl, y0, y1⟩ := CE.out wr KJ.out j hlt
      obtain ⟨⟨x, b⟩, hx⟩ : ∃ x, x = q[j] := ⟨_, rfl⟩
      rw [← hx] at y0 y1
      simp only at y0 y1
      have SET := fillN_set q hlt
      rw [← hx] at SET
      simp only at SET
      have B2 : Hid ((wr.alloc (.cells #[.int .i64 x, .bool b] 95)).heap[b0]? = some (.cells (fillN q j) 3 (0, 0))) := (Below.heap_alloc _ _ _ (block_lt BJ.out)).trans BJ.out
      have A2 : Hid (Bx (wr.alloc (.cells #[.int .i64 x, .bool b] 95)) wr.heap.size 95 #[.int .i64 x, .bool b]) := Bx.made _ _ _
      have x2 := A2.out.cell 0 (v := .int .i64 x) rfl
      have c2 : (wr.alloc (.cells #[.int .i64 x, .bool b] 95)).cell? ⟨b0, j, none⟩ = some (.int .i64 0) := by
        rw [cell_of_row _ b0 j _ _ (0, 0) B2.out]
        unfold fillN
        have hl : ((q.take j).map (fun x => Value.int .i64 x.1)).length = j := by rw [List.length_map, List.length_take]; omega
        rw [List.getElem?_toArray, List.getElem?_append_right (by omega), hl, Nat.sub_self, List.getElem?_replicate, if_pos (by omega)]
      have f2 : (wr.alloc (.cells #[.int .i64 x, .bool b] 95)).frozen? ⟨b0, j, none⟩ = false := Bx.frozen B2.out j
      have B3 : Hid (((wr.alloc (.cells #[.int .i64 x, .bool b] 95)).setCell ⟨b0, j, none⟩ (.int .i64 x)).heap[b0]? = some (.cells (fillN q (j + 1)) 3 (0, 0))) := by
        have := heap_set (i := j) (.int .i64 x) B2.out
        rw [SET] at this
        exact this
      have K3 : Hid (Kept [] w ((wr.alloc (.cells #[.int .i64 x, .bool b] 95)).setCell ⟨b0, j, none⟩ (.int .i64 x))) := (KJ.out.alloc _).setCell (p := ⟨b0, j, none⟩) (Or.inr (by have := HB.out; simp; omega)) _
      clear SET hx
      go_wp2_with fail
      go_roundw
      case rel => exact ⟨j + 1, by go_num, by omega, B3, K3⟩
      case measure => simp [intOf]; omega
    · have j1 : ¬ (j : Int) < (q.length : Int) := by omega
      have FIN : Hid (Nu wr (.slice (some ⟨b0, 0, none⟩) q.length q.length) (q.map (·.1))) := by
        refine ⟨b0, q.length, fillN q j, by simp, BJ.out, by simp, by unfold maxLen; omega, fun i x hx => ?_⟩
        rw [show j = q.length by omega, fillN_all]
        rw [List.getElem?_toArray, List.getElem?_map]
        rw [List.getElem?_map] at hx
        cases hq2 : q[i]? with
        | none => rw [hq2] at hx; cases hx
        | some y => rw [hq2] at hx; simp at hx; simp [hx]
      go_wp2_with fail
      go_ret
      exact ⟨_, rfl, FIN.out, KJ.out⟩
end Lk
end Go.Proofs.Ytpiiccomkfcifaa
