/- A strings.Builder told by its cells: WriteString and what it turns. -/
import Derived.Test.YteeheapenfklcaaGreatDoorBls
import Derived.Test.YteeheapenfklcaaGreatDoorShf
namespace Go.Proofs.YteeheapenfklcaaGreatDoor
set_option linter.unusedVariables false
open Go.RowKit
namespace Bld
set_option maxHeartbeats 2000000 in
set_option maxRecDepth 100000 in
theorem string_k (B b : Nat) (v : Value) (bs : List Value) (s : ByteArray) (w : World) (h : Bd B b v bs w) (hlen : bs.length + s.size ≤ 140737488355328) (hBw : B ≤ w.heap.size) :
    Calls Tryz.prog 29 #[.pointer (some ⟨b, 0, none⟩), .string s] w fun e w' => e = .returned (.tuple #[.int .i64 s.size, .nilIface]) ∧ ∃ v', Bd B b v' (bs ++ Lib.strCells s) w' ∧ Kept (b :: v.ownBlock.toList) w w' := by
  obtain ⟨i0, hi, hz0, hz1, hz2⟩ := info_parts info5
  have hCK : Hid (Calls Tryz.prog 56 #[.pointer (some ⟨b, 0, none⟩)] w fun e w' => e = .returned (.tuple #[]) ∧ w'.heap[b]? = some (.cells #[.pointer (some ⟨b, 0, none⟩), v] 76 (0, 0)) ∧ Kept [b] w w') := by
    rcases h.at' with x | x
    · have hf : w.frozen? ⟨b, 0, none⟩ = false := Lib.frozen_of_heap x 0
      have hI := h.is
      have hsh : w.shape? b = some (76, 2) := by simp [World.shape?, x]
      refine (check_fresh b w (by rw [Lib.cell_of_heap x]; rfl) hsh hf).mono ?_
      rintro e w' ⟨rfl, rfl⟩
      refine ⟨rfl, ?_, (Kept.refl [b] w).setCell (p := ⟨b, 0, none⟩) (Or.inl (by simp)) _⟩
      have := heap_set (i := 0) (Value.pointer (some ⟨b, 0, none⟩)) x
      simpa using this
    · refine (check_used b w (by rw [Lib.cell_of_heap x]; rfl)).mono ?_
      rintro e w' ⟨rfl, rfl⟩
      exact ⟨rfl, x, Kept.refl _ _⟩
  have HO := Lib.hid h.own
  have hne := h.ne
  have hle := h.le
  clear h
  go_enter Tryz.func29, Tryz.ntmps29
  go_wp2_with fail
  refine hCK.out.mono ?_
  rintro e w1 ⟨rfl, hbk, k1⟩
  have hown : w1.ownsRow B 5 1 v bs.length bs := ownsRow_kept HO.out k1 (fun g hg hm => hne (by simp at hm; rw [hm] at hg; exact hg))
  have c0 : w1.cell? ⟨b, 0, none⟩ = some (.pointer (some ⟨b, 0, none⟩)) := by rw [Lib.cell_of_heap hbk]; rfl
  have c1 : w1.cell? ⟨b, 1, none⟩ = some v := by rw [Lib.cell_of_heap hbk]; rfl
  go_wp2_with (at_builtin; refine Lib.wpList_append_own_string _ rfl _ _ 71 9 rfl B 5 i0 Tryz.underlying71 Tryz.underlying9 hi hz0 hz1 hz2 _ _ _ rfl hown s rfl ?c3 ?c4 ?c5 ?_)
  case c3 => unfold maxLen; omega
  case c4 => omega
  case c5 => have := k1.size; omega
  intro v' w2 hown' hgrow _
  have hlt : b < w1.heap.size := block_lt hbk
  have hb2 : w2.heap[b]? = some (.cells #[.pointer (some ⟨b, 0, none⟩), v] 76 (0, 0)) := by
    rw [hgrow.block b hlt (fun e => hne e.symm)]
    exact hbk
  have k2 : Kept (b :: v.ownBlock.toList) w w2 := (k1.mono (T := b :: v.ownBlock.toList) (fun i hi => Or.inl (by simp at hi; simp [hi]))).grown hgrow (fun k hk => Or.inl (by simp [hk]))
  have d0 : w2.cell? ⟨b, 0, none⟩ = some (.pointer (some ⟨b, 0, none⟩)) := by rw [Lib.cell_of_heap hb2]; rfl
  have d1 : w2.cell? ⟨b, 1, none⟩ = some v := by rw [Lib.cell_of_heap hb2]; rfl
  have f1 : w2.frozen? ⟨b, 1, none⟩ = false := Lib.frozen_of_heap hb2 1
  obtain ⟨ao, n', cap, rfl⟩ : ∃ ao n' cap, v' = .slice ao n' cap := by
    rcases hown'.2 with ⟨hv, _⟩ | ⟨g, cap, cur, hv, _⟩
    · exact ⟨_, _, _, hv⟩
    · exact ⟨_, _, _, hv⟩
  have hn' : (Value.slice ao n' cap).ownBlock ≠ some b := fun hb => by
    rcases hown'.2 with ⟨hv, _⟩ | ⟨g, cap', cur, hv, _, hg, _⟩
    · rw [hv] at hb; cases hb
    · rw [hv] at hb
      have : g = b := by simpa [Value.ownBlock] using hb
      subst this
      rw [hb2] at hg
      cases hg
  go_wp2
  go_ret2
  have k3 : Kept [b] w2 (w2.setCell ⟨b, 1, none⟩ (.slice ao n' cap)) := (Kept.refl [b] w2).setCell (p := ⟨b, 1, none⟩) (Or.inl (by simp)) _
  refine ⟨rfl, .slice ao n' cap, ⟨Or.inr ?_, ?_, hn', hle⟩, k2.trans k3 (fun i hi => Or.inl (by simp at hi; simp [hi]))⟩
  · have := heap_set (i := 1) (Value.slice ao n' cap) hb2
    simpa using this
  · have e : (bs ++ Lib.strCells s).length = bs.length + s.size := by simp [Lib.strCells_length]
    rw [e]
    exact ownsRow_kept hown' k3 (fun g hg hm => hn' (by simp at hm; rw [hm] at hg; exact hg))
open Go.Shelf in
set_option maxHeartbeats 2000000 in
set_option maxRecDepth 100000 in
theorem out_nil (b : Nat) (p : Value) (w : World) (hbk : w.heap[b]? = some (.cells #[p, .slice none 0 0] 76 (0, 0))) :
    Calls Tryz.prog 31 #[.pointer (some ⟨b, 0, none⟩)] w fun e w' => e = .returned (.string ⟨#[]⟩) ∧ Kept [] w w' := by
  have hUS : ∀ (W : World) (q : Option Addr), (Builtin.unsafeString_ #[126, 3] 9 #[.pointer q, .int .i64 0]).run Tryz.prog W = .ok (.string .empty) W := fun W q => Lib.run_unsafeString_none W _ _ _ q
  have c1 : w.drew.cell? ⟨b, 1, none⟩ = some (.slice none 0 0) := by
    have : w.drew.heap[b]? = some (.cells #[p, .slice none 0 0] 76 (0, 0)) := hbk
    rw [Lib.cell_of_heap this]; rfl
  have hSD : (Builtin.unsafeSliceData_ #[71] 126 #[.slice none 0 0]).run Tryz.prog w.drew = .ok (.pointer none) w.drew := rfl
  go_enter Tryz.func31, Tryz.ntmps31
  go_wp2
  go_region
  all_goals (go_wp2; go_ret; exact ⟨rfl, (Kept.refl [] w).drew⟩)
theorem Kept.freeze {S : List Nat} {a w : World} (h : Kept S a w) {p : Addr} (hp : p.block ∈ S ∨ a.heap.size ≤ p.block) (n : Nat) : Kept S a (w.freeze p n) := by
  unfold World.freeze
  split
  · exact h
  · exact ⟨h.os, h.tape, h.output, by simp; exact h.size, fun i hi hn => by
      rw [← h.block i hi hn]
      simp only [Array.getElem?_modify]
      rw [if_neg (fun e => by subst e; rcases hp with q | q; exact hn q; omega)]⟩
theorem cellsByte : Tryz.prog.cellsOf 5 = 1 := by kernel_rfl
set_option maxHeartbeats 2000000 in
set_option maxRecDepth 100000 in
theorem out_some (B b : Nat) (v : Value) (l : List UInt8) (w : World) (h : Bd B b v (Lib.byteCells l) w) (h0 : l ≠ []) :
    Calls Tryz.prog 31 #[.pointer (some ⟨b, 0, none⟩)] w fun e w' => e = .returned (.string ⟨l.toArray⟩) ∧ Kept v.ownBlock.toList w w' := by
  have hown := h.own
  rw [Lib.byteCells_length] at hown
  have hl0 : l.length ≠ 0 := by simpa using h0
  obtain ⟨g, cap, cur, rfl, hbg, hg, hnc, hcm, hcs, htake⟩ : ∃ g cap cur, v = .slice (some ⟨g, 0, none⟩) l.length cap ∧ B ≤ g ∧ w.heap[g]? = some (.cells cur 5 (0, 0)) ∧ l.length ≤ cap ∧ cap ≤ maxLen ∧ cur.size = cap * 1 ∧ cur.toList.take (l.length * 1) = Lib.byteCells l := by
    rcases hown.2 with ⟨_, hz⟩ | ⟨g, cap, cur, hv, r⟩
    · exact absurd hz hl0
    · exact ⟨g, cap, cur, hv, r⟩
  obtain ⟨p, hbk⟩ : ∃ p, w.heap[b]? = some (.cells #[p, .slice (some ⟨g, 0, none⟩) l.length cap] 76 (0, 0)) := by
    rcases h.at' with x | x
    · exact ⟨_, x⟩
    · exact ⟨_, x⟩
  have c1 : w.drew.cell? ⟨b, 1, none⟩ = some (.slice (some ⟨g, 0, none⟩) l.length cap) := by
    have : w.drew.heap[b]? = some (.cells #[p, .slice (some ⟨g, 0, none⟩) l.length cap] 76 (0, 0)) := hbk
    rw [Lib.cell_of_heap this]; rfl
  have hSD : (Builtin.unsafeSliceData_ #[71] 126 #[.slice (some ⟨g, 0, none⟩) l.length cap]).run Tryz.prog w.drew = .ok (.pointer (some ⟨g, 0, none⟩)) w.drew :=
    Lib.run_unsafeSliceData_row _ _ _ _ _ _ (by omega)
  have hUS : (Builtin.unsafeString_ #[126, 3] 9 #[.pointer (some ⟨g, 0, none⟩), .int .i64 l.length]).run Tryz.prog w.drew = .ok (.string ⟨l.toArray⟩) (w.drew.freeze ⟨g, 0, none⟩ l.length) := by
    refine Lib.run_unsafeString_row w.drew 126 3 9 5 Tryz.underlying126 cellsByte g cur.size (by have hg' : w.drew.heap[g]? = some (.cells cur 5 (0, 0)) := hg; simp [World.shape?, hg']) l h0 (by omega) (by unfold maxLen at hcm; omega) ?_
    intro j x hx
    have := hown.cells (g := g) rfl j (.int .u8 x.toNat) (by simp [Lib.byteCells, hx])
    exact this
  clear hown h htake hg hcs
  go_enter Tryz.func31, Tryz.ntmps31
  go_wp2
  go_region
  all_goals (go_wp2; go_ret; exact ⟨rfl, Kept.freeze ((Kept.refl _ w).drew) (p := ⟨g, 0, none⟩) (Or.inl (by simp [Value.ownBlock])) _⟩)
end Bld
end Go.Proofs.YteeheapenfklcaaGreatDoor
