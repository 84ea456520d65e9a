/- strings.SplitSeq at one slash: its boxes, and what its iterator goes through. -/
import Derived.Test.YtjdhgeikbkjnoaaDoorRbx
import Derived.Test.YtjdhgeikbkjnoaaDoorCtp
import Derived.Test.YtjdhgeikbkjnoaaDoorShf
import Derived.RangeFuncFrom
import Derived.RangeFuncNested
import Derived.RangeFuncBound
import Derived.RangeFuncCalls
import Derived.RangeFuncLeaves
import Derived.Shelf.Abstract
import Derived.Shelf.RegionOpen
import Derived.WalkKit
import Derived.OwnWalkIn
import Derived.TacticsInMore
import Derived.LoopNIn
import Derived.LoopIn
import Derived.Lib.Hide
import Derived.RegionTactic
import Derived.LoopTactic
import Derived.Deep.RegionWith
namespace Go.Proofs.YtjdhgeikbkjnoaaDoor
set_option linter.unusedVariables false
open Go.RowKit Go.Shelf
attribute [local go_sem] Oper.semAt_some

def dl (s : ByteArray) : List UInt8 := s.data.toList
/-- What SplitSeq captures: the text, the separator, how much of it is kept. -/
structure Spq (w : World) (B1 B2 B3 : Nat) (s : ByteArray) : Prop where
  sep : w.heap[B1]? = some (.cells #[.string ⟨#[47]⟩] 9 (0, 0))
  txt : w.heap[B2]? = some (.cells #[.string s] 9 (0, 0))
  sav : w.heap[B3]? = some (.cells #[.int .i64 0] 3 (0, 0))
theorem Spq.kept {w w' : World} {B1 B2 B3 : Nat} {s : ByteArray} {S : List Nat} (h : Spq w B1 B2 B3 s) (k : Kept S w w') (hS : ∀ i ∈ S, i ∉ [B1, B2, B3]) : Spq w' B1 B2 B3 s :=
  ⟨(k.block _ (block_lt h.sep) (fun hm => hS _ hm (by simp))).trans h.sep, (k.block _ (block_lt h.txt) (fun hm => hS _ hm (by simp))).trans h.txt, (k.block _ (block_lt h.sav) (fun hm => hS _ hm (by simp))).trans h.sav⟩

set_option maxRecDepth 100000 in
theorem splitSeq_any (w : World) (s : ByteArray) :
    Calls Tryd.prog 27 #[.string s, .string ⟨#[47]⟩] w fun e w' => ∃ B1 B2 B3, e = .returned (.func (.func 64) #[] #[.pointer (some ⟨B1, 0, none⟩), .pointer (some ⟨B2, 0, none⟩), .pointer (some ⟨B3, 0, none⟩)]) ∧ Hid (Spq w' B1 B2 B3 s) ∧ Kept [] w w' ∧ Hid (w.heap.size ≤ B1 ∧ w.heap.size ≤ B2 ∧ w.heap.size ≤ B3 ∧ B1 ≠ B2 ∧ B2 ≠ B3) := by
  have SP : ∀ w, Calls Tryd.prog 47 #[.string s, .string ⟨#[47]⟩, .int .i64 0] w fun e w' => ∃ B1 B2 B3, e = .returned (.func (.func 64) #[] #[.pointer (some ⟨B1, 0, none⟩), .pointer (some ⟨B2, 0, none⟩), .pointer (some ⟨B3, 0, none⟩)]) ∧ Hid (Spq w' B1 B2 B3 s) ∧ Kept [] w w' ∧ Hid (w.heap.size ≤ B1 ∧ w.heap.size ≤ B2 ∧ w.heap.size ≤ B3 ∧ B1 ≠ B2 ∧ B2 ≠ B3) := by
    intro w
    go_enter Tryd.func47, Tryd.ntmps47
    go_wp2_with fail
    go_ret
    have ka : ∀ (u : World) (o : Obj) {i : Nat} {x : Obj}, u.heap[i]? = some x → (u.alloc o).heap[i]? = some x := fun u o i x h => (Below.heap_alloc _ _ _ (block_lt h)).trans h
    have na : ∀ (u : World) (o : Obj) {i : Nat}, i = u.heap.size → (u.alloc o).heap[i]? = some o := fun u o i h => by rw [h]; exact heap_alloc_new u o
    refine ⟨w.heap.size + 1, w.heap.size, w.heap.size + 1 + 1, rfl, ⟨?_, ?_, ?_⟩, ((((Kept.refl [] w).alloc _).alloc _).alloc _), ⟨by omega, Nat.le_refl _, by omega, by omega, by omega⟩⟩
    · exact ka _ _ (na _ _ (by simp))
    · exact ka _ _ (ka _ _ (na _ _ rfl))
    · exact na _ _ (by simp)
  go_enter Tryd.func27, Tryd.ntmps27
  go_wp2_with fail
  refine (SP w).mono ?_
  rintro e w1 ⟨B1, B2, B3, rfl, h1, h2, h3⟩
  go_wp2_with fail
  go_ret
  exact ⟨B1, B2, B3, rfl, h1, h2, h3⟩

/-- How much is left of the text, read off the world. -/
def leftW (B : Nat) (w : World) : Nat := match w.cell? ⟨B, 0, none⟩ with | some (.string t) => t.size | _ => 0
theorem leftW_eq {w : World} {B1 B2 B3 : Nat} {t : ByteArray} (h : Spq w B1 B2 B3 t) : leftW B2 w = t.size := by
  unfold leftW
  rw [cell_of_row w B2 0 _ _ (0, 0) h.txt]
  rfl
theorem dl_length (t : ByteArray) : (dl t).length = t.size := by unfold dl; simp
theorem dl_take (t : ByteArray) (i : Nat) : dl (t.extract 0 i) = (dl t).take i := by
  unfold dl
  simp only [ByteArray.data_extract, Array.toList_extract, List.extract_eq_take_drop]
  simp
theorem dl_drop (t : ByteArray) (i : Nat) : dl (t.extract i t.size) = (dl t).drop i := by
  unfold dl
  simp only [ByteArray.data_extract, Array.toList_extract, List.extract_eq_take_drop]
  rw [List.take_of_length_le]
  simp
set_option maxHeartbeats 8000000 in
set_option maxRecDepth 100000 in
theorem splitSeq1_iter (m0 : Nat) (w0 : World) (B1 B2 B3 : Nat) (s : ByteArray) (hsz : s.size ≤ 140737488355328) (hc : Hid (Spq w0 B1 B2 B3 s)) (hne : B1 ≠ B2 ∧ B2 ≠ B3) :
    IterBx Fence.wide (m0 + 3) Tryd.prog 64 #[.pointer (some ⟨B1, 0, none⟩), .pointer (some ⟨B2, 0, none⟩), .pointer (some ⟨B3, 0, none⟩)] (fun x : ByteArray => #[.string x]) (fun xs => xs.map dl <+: Nm.cut (dl s)) (fun xs => xs.map dl = Nm.cut (dl s)) [B1, B2, B3] w0 := by
  intro l J Jx W hW hJ hY hJ0
  have hc1 : Hid (Spq W B1 B2 B3 s) := hc.out.kept hW (by simp)
  have e1 : W.cell? ⟨B1, 0, none⟩ = some (.string ⟨#[47]⟩) := by rw [cell_of_row W B1 0 _ _ (0, 0) hc1.out.sep]; rfl
  have HY := Lib.hid hY
  have HJ := Lib.hid hJ
  have HJ0 := Lib.hid hJ0
  refine callsIn_of_wp Tryd.func64 rfl trivial ?_ rfl
  simp only [Tryd.ntmps64, List.size_toArray, List.length_cons, List.length_nil, Nat.reduceAdd, Nat.reduceSub, Array.replicate_succ, Array.replicate_zero, List.push_toArray, List.append_toArray, List.nil_append, List.cons_append]
  clear hY hJ hJ0 hc hW
  have hc2 := hc1
  gi_wp2_with fail
  gi_loopw [] (fun wr => ∃ (pre : List ByteArray) (t : ByteArray), Hid (Nm.cut (dl s) = pre.map dl ++ Nm.cut (dl t)) ∧ t.size ≤ s.size ∧ Hid (Spq wr B1 B2 B3 t) ∧ Hid (J pre wr)) (fun wr => leftW B2 wr)
  case atStart => exact ⟨[], s, rfl, Nat.le_refl _, hc2, HJ0.out⟩
  case round =>
    clear hc1 hc2 HJ0 e1
    obtain ⟨pre, t, hcut, hts, hsp, hj⟩ := hrel
    have f1 : wr.cell? ⟨B1, 0, none⟩ = some (.string ⟨#[47]⟩) := by rw [cell_of_row wr B1 0 _ _ (0, 0) hsp.out.sep]; rfl
    have f2 : wr.cell? ⟨B2, 0, none⟩ = some (.string t) := by rw [cell_of_row wr B2 0 _ _ (0, 0) hsp.out.txt]; rfl
    have f3 : wr.cell? ⟨B3, 0, none⟩ = some (.int .i64 0) := by rw [cell_of_row wr B3 0 _ _ (0, 0) hsp.out.sav]; rfl
    have IDX := Lib.hid (Tryd.strings_Index_one t 47 wr)
    have hlw := leftW_eq hsp.out
    rcases (show Lib.indexByte t.data.toList 47 < 0 ∨ 0 ≤ Lib.indexByte t.data.toList 47 by omega) with hneg | hpos
    · have hi : Lib.indexByte t.data.toList 47 = -1 := by have := Lib.indexByte_ge t.data.toList 47; omega
      have hcn : Hid (Nm.cut (dl s) = (pre ++ [t]).map dl) := by
        show _ = _
        rw [hcut.out, Nm.cut_none (dl t) hi]
        simp
      rw [hi] at IDX
      have hC : Hid ((pre ++ [t]).map dl <+: Nm.cut (dl s)) := by show _ <+: _; rw [hcn.out]; exact List.prefix_refl _
      obtain ⟨fn, tmps, assign, body, hy, hR⟩ := HY.out pre t wr hj.out hC.out
      have hRh := Lib.hid hR
      clear hR hcut hneg hi hlw
      gi_wp2_with fail
      refine ⟨trivial, (callsIn_wide.2 IDX.out).mono ?_⟩
      rintro e w1 ⟨rfl, rfl⟩
      gi_wp2_with fail
      refine hRh.out.mono ?_
      rintro e W6 hx
      have hfin : Hid (((∃ xs, (fun xs : List ByteArray => xs.map dl = Nm.cut (dl s)) xs ∧ J xs W6) ∨ ∃ pre, (fun xs : List ByteArray => xs.map dl <+: Nm.cut (dl s)) pre ∧ Jx pre W6) ∧ ∃ b, e = .returned (.bool b)) := by
        rcases hx with ⟨rfl, hj6, S6, k6, hS6⟩ | ⟨rfl, hx⟩
        · exact ⟨Or.inl ⟨_, hcn.out.symm, hj6⟩, _, rfl⟩
        · exact ⟨Or.inr ⟨_, hC.out, hx⟩, _, rfl⟩
      obtain ⟨b, rfl⟩ := hfin.out.2
      clear hx hy
      gi_wp2_with fail
      go_end0
      exact ⟨⟨_, rfl⟩, hfin.out.1⟩
    · obtain ⟨i, hi⟩ : ∃ i : Nat, Lib.indexByte t.data.toList 47 = i := ⟨(Lib.indexByte t.data.toList 47).toNat, by omega⟩
      obtain ⟨hil, hcs⟩ := Nm.cut_some (dl t) i hi
      rw [dl_length] at hil
      rw [hi] at IDX
      have hcn : Hid (Nm.cut (dl s) = (pre ++ [t.extract 0 i]).map dl ++ Nm.cut (dl (t.extract (i + 1) t.size))) := by
        show _ = _
        rw [hcut.out, hcs, dl_drop, List.map_append, List.append_assoc]
        simp only [List.map_cons, List.map_nil, dl_take]
        rfl
      have hC : Hid ((pre ++ [t.extract 0 i]).map dl <+: Nm.cut (dl s)) := by show _ <+: _; rw [hcn.out]; exact List.prefix_append _ _
      obtain ⟨fn, tmps, assign, body, hy, hR⟩ := HY.out pre (t.extract 0 i) wr hj.out hC.out
      have hRh := Lib.hid hR
      have hin : ¬ (i : Int) < 0 := by omega
      clear hR hcut hcs hi hpos
      gi_wp2_with fail
      refine ⟨trivial, (callsIn_wide.2 IDX.out).mono ?_⟩
      rintro e w1 ⟨rfl, rfl⟩
      gi_wp2_with fail
      refine hRh.out.mono ?_
      rintro e W6 (⟨rfl, hj6, S6, k6, hS6⟩ | ⟨rfl, hx⟩)
      · have sp6 : Hid (Spq W6 B1 B2 B3 t) := hsp.out.kept k6 hS6
        have g1 : W6.cell? ⟨B1, 0, none⟩ = some (.string ⟨#[47]⟩) := by rw [cell_of_row W6 B1 0 _ _ (0, 0) sp6.out.sep]; rfl
        have g2 : W6.cell? ⟨B2, 0, none⟩ = some (.string t) := by rw [cell_of_row W6 B2 0 _ _ (0, 0) sp6.out.txt]; rfl
        have fz : W6.frozen? ⟨B2, 0, none⟩ = false := by simp [World.frozen?, sp6.out.txt]
        have sp7 : Hid (Spq (W6.setCell ⟨B2, 0, none⟩ (.string (t.extract (i + 1) t.size))) B1 B2 B3 (t.extract (i + 1) t.size)) := by
          have ks : Kept [B2] W6 (W6.setCell ⟨B2, 0, none⟩ (.string (t.extract (i + 1) t.size))) := (Kept.refl _ _).setCell (p := ⟨B2, 0, none⟩) (Or.inl (by simp)) _
          refine ⟨(ks.block B1 (block_lt sp6.out.sep) (by simp; exact hne.1)).trans sp6.out.sep, by simpa using heap_set (i := 0) (.string (t.extract (i + 1) t.size)) sp6.out.txt, (ks.block B3 (block_lt sp6.out.sav) (by simp; exact fun e => hne.2 e.symm)).trans sp6.out.sav⟩
        have hj7 : Hid (J (pre ++ [t.extract 0 i]) (W6.setCell ⟨B2, 0, none⟩ (.string (t.extract (i + 1) t.size)))) := HJ.out _ _ _ hj6 ((Kept.refl _ _).setCell (p := ⟨B2, 0, none⟩) (Or.inl (by simp)) _)
        have hl7 := leftW_eq sp7.out
        have hsz7 : (t.extract (i + 1) t.size).size = t.size - (i + 1) := by simp
        have HL7 := Lib.hid (And.intro hl7 (And.intro hsz7 hlw))
        clear hy hj6 k6 hS6 hl7 hsz7 hlw
        gi_wp2_with fail
        go_roundw
        case rel => exact ⟨pre ++ [t.extract 0 i], t.extract (i + 1) t.size, hcn, by have := HL7.out.2.1; omega, sp7, hj7⟩
        case measure => obtain ⟨a1, a2, a3⟩ := HL7.out; rw [a1, a3, a2]; omega
      · have hfin : Hid ((∃ xs, (fun xs : List ByteArray => xs.map dl = Nm.cut (dl s)) xs ∧ J xs W6) ∨ ∃ pre, (fun xs : List ByteArray => xs.map dl <+: Nm.cut (dl s)) pre ∧ Jx pre W6) := Or.inr ⟨_, hC.out, hx⟩
        clear hy hx
        gi_wp2_with fail
        exact bodyPost_ret (v := .tuple #[]) (by simp [results, Tryd.f64, go_sem]) rfl ⟨⟨_, rfl⟩, hfin.out⟩
end Go.Proofs.YtjdhgeikbkjnoaaDoor
