/- users: the iterator over a table's accounts. -/
import Derived.Test.YteeheapenfklcaaGreatDoorUcp
import Derived.Test.YteeheapenfklcaaGreatDoorUrf
import Derived.RangeFuncNested
import Derived.RangeFuncBound
import Derived.RangeFuncCalls
import Derived.RangeFuncLeaves
import Derived.Shelf.Abstract
import Derived.Shelf.RegionOpen
import Derived.TacticsInMore
import Derived.LoopNIn
import Derived.LoopIn
namespace Go.Proofs.YteeheapenfklcaaGreatDoor
set_option linter.unusedVariables false
open Go.RowKit Go.Shelf
attribute [local go_sem] Oper.semAt_some
namespace Us
open Go.Proofs.YteeheapenfklcaaGreatDoor.Utf Go.Proofs.YteeheapenfklcaaGreatDoor.Txt Go.PlainAid Go.Proofs.YteeheapenfklcaaGreatDoor.Mpf

theorem accounts_any (w : World) (p : Nat) : Calls Tryz.prog 28 #[.pointer (some ⟨p, 0, none⟩)] w fun e w' => e = .returned (.func (.func 54) #[] #[.pointer (some ⟨w.heap.size, 0, none⟩)]) ∧ w' = w.alloc (.cells #[.pointer (some ⟨p, 0, none⟩)] 29) := by
  have hmf : ∀ (fn : Fn) (first cap : Array Value) (w : World), (Instr.makeFunc fn first cap).run Tryz.prog w = .ok (.func fn first cap) w := fun _ _ _ _ => rfl
  go_enter Tryz.func28, Tryz.ntmps28
  go_wp2_with fail
  go_ret
  exact ⟨rfl, rfl⟩
/-- What is handed over for an account. -/
def EA (W : World) (a : Acc) (args : Array Value) : Prop := ∃ v, args = #[accV a.name a.leader a.key v] ∧ Mem W v a.members
section
variable {p : Nat} {sl : Value} {m1 m2 n2 B : Nat} {f : ByteArray × ByteArray → Bool} {L : List (Acc × Value)}
set_option maxHeartbeats 4000000 in
set_option maxRecDepth 100000 in
theorem accounts1_iter (wx w0 : World) (hx0 : Kept [] wx w0) (R : Nat) (hR : w0.heap[R]? = some (.cells #[.pointer (some ⟨p, 0, none⟩)] 29 (0, 0))) (h : TbX wx B p sl m1 m2 n2 f L) (hL : L.length ≤ 1048576) (hms : ∀ x ∈ L, x.1.members.length ≤ 1048576) :
    IterW Fence.wide 3 Tryz.prog 54 #[.pointer (some ⟨R, 0, none⟩)] EA (accs L) wx.heap.size w0 := by
  intro l J W hW hJ hY hS
  have KW := hW
  have hT := h.kept (hx0.trans hW (fun i hi => by cases hi))
  have hWx : Below wx.heap.size wx W := (hx0.trans hW (fun i hi => by cases hi)).below (fun i hi => by cases hi) (Nat.le_refl _)
  obtain ⟨sa, sc, hsl⟩ : ∃ sa sc, sl = .slice sa L.length sc := by
    rcases hT.row.2 with ⟨rfl, h0⟩ | ⟨g, cap, cur, rfl, _⟩
    · exact ⟨none, 0, by rw [h0]⟩
    · exact ⟨_, _, rfl⟩
  subst hsl
  have rc : W.cell? ⟨R, 0, none⟩ = some (.pointer (some ⟨p, 0, none⟩)) := by rw [cell_of_row W R 0 _ _ (0, 0) ((KW.block _ (block_lt hR) (by simp)).trans hR)]; rfl
  have c0 : W.cell? ⟨p, 0, none⟩ = some (.slice sa L.length sc) := by rw [cell_of_row W p 0 _ _ (0, 0) hT.box]; rfl
  have H0 : Hid (TbX wx B p (.slice sa L.length sc) m1 m2 n2 f L) := h
  have HMS := Lib.hid hms
  refine callsIn_of_wp Tryz.func54 rfl trivial ?_ rfl
  simp only [Tryz.ntmps54, List.size_toArray, List.length_cons, List.length_nil, Nat.reduceAdd, Nat.reduceSub, Array.replicate_succ, Array.replicate_zero, List.push_toArray, List.append_toArray, List.nil_append, List.cons_append]
  have HW := Lib.hid hWx
  clear hR h hT KW hms hW hWx hx0
  gi_wp2_with fail
  gi_loopw [10] (fun iv wr => ∃ k : Nat, iv = .int .i64 k ∧ k ≤ L.length ∧ J (accs (L.take k)) wr ∧ Hid (Below wx.heap.size wx wr)) (fun iv _ => L.length - (intOf iv).toNat)
  case atStart => exact ⟨0, rfl, by omega, hS, HW⟩
  case round =>
    obtain ⟨k, rfl, hk, hJk, hB⟩ := hrel
    clear rc c0 HW hS
    by_cases hlt : k < L.length
    · have j1 : (k : Int) < (L.length : Int) := by omega
      have j0 : (0 : Int) ≤ (k : Int) := by omega
      have hT := H0.out.kept (Kept.of_below hB.out [])
      have hrow := hT.row
      rcases hrow.2 with ⟨_, h0⟩ | ⟨g, cap, cur, e, -⟩
      · omega
      cases e
      obtain ⟨f0, f1, f2, f3⟩ := flat_at L k hlt
      have x0 := (World.ownsRow.cellAt hrow (k * 4) (by omega)).trans f0
      have x1 := (World.ownsRow.cellAt hrow (k * 4 + 1) (by omega)).trans f1
      have x2 := (World.ownsRow.cellAt hrow (k * 4 + 2) (by omega)).trans f2
      have x3 := (World.ownsRow.cellAt hrow (k * 4 + 3) (by omega)).trans f3
      have hme := hT.mem L[k] (List.getElem_mem hlt)
      have hml := HMS.out L[k] (List.getElem_mem hlt)
      obtain ⟨va, vc, hv⟩ := hme.slice
      have hpre : accs (L.take k) ++ [L[k].1] <+: accs L := by
        have : accs (L.take k) ++ [L[k].1] = accs (L.take (k + 1)) := by rw [List.take_succ_eq_append_getElem hlt]; unfold accs; rw [List.map_append]; rfl
        rw [this]
        exact (List.take_prefix _ _).map _
      have hnx : Hid (accs (L.take (k + 1)) = accs (L.take k) ++ [L[k].1]) := by show _ = _; rw [List.take_succ_eq_append_getElem hlt]; unfold accs; rw [List.map_append]; rfl
      obtain ⟨⟨⟨an, al, am, ak⟩, av⟩, hx⟩ : ∃ x, x = L[k] := ⟨_, rfl⟩
      rw [← hx] at x0 x1 x2 x3 hv hme hml hpre hnx
      simp only at x0 x1 x2 x3 hv hme hml hpre hnx
      subst hv
      have CP : Hid (∀ w', Kept [] wr w' → Calls Tryz.prog 55 #[.agg #[.string an, .string al, .slice va am.length vc, .string ak]] w' _) := fun w' kw => copied_any w' ⟨an, al, am, ak⟩ (.slice va am.length vc) (hme.kept0 kw) hml
      have ka : Kept [] wr (wr.alloc (.cells #[.string an, .string al, .slice va am.length vc, .string ak] 35)) := (Kept.refl _ _).alloc _
      have HPRE := Lib.hid hpre
      have HY := Lib.hid hY
      have HJ := Lib.hid hJ
      have JK := Lib.hid hJk
      clear hT hrow f0 f1 f2 f3 hme hx hpre hY hJ hJk
      gi_wp2_with fail
      refine ⟨trivial, (callsIn_wide.2 (CP.out _ ka)).mono ?_⟩
      rintro e w2 ⟨v', rfl, m2', k2, -⟩
      have K2 : Hid (Kept [] wr w2) := ka.trans k2 (fun i hi => by cases hi)
      have J2 := HJ.out _ _ _ JK.out K2.out
      obtain ⟨fn, tmps, assign, body, hy, hR⟩ := HY.out _ _ _ w2 J2 ⟨v', rfl, m2'⟩ HPRE.out
      unfold accV at hy ⊢
      simp only at hy ⊢
      have hRh := Lib.hid hR
      clear hR J2
      gi_wp2_with fail
      refine hRh.out.mono ?_
      rintro e W4 ⟨rfl, hJ4, S, k4, hS4⟩
      have B4 : Hid (Below wx.heap.size wx W4) := by
        have hz := hB.out.size
        have b2 : Below wx.heap.size wx w2 := hB.out.trans (K2.out.below (fun i hi => by cases hi) hz)
        exact b2.trans (k4.below hS4 b2.size)
      have J4 : J (accs (L.take (k + 1))) W4 := by rw [hnx.out]; exact hJ4
      clear hy
      gi_wp2_with fail
      go_roundw
      case rel => exact ⟨k + 1, by go_num, by omega, J4, B4⟩
      case measure => simp [intOf]; omega
    · have j1 : ¬ (k : Int) < (L.length : Int) := by omega
      have JF : J (accs L) wr := by have e : L.take k = L := List.take_of_length_le (by omega); rw [e] at hJk; exact hJk
      clear hJk
      gi_wp2_with fail
      go_end0
      exact ⟨⟨_, rfl⟩, JF⟩
end
end Us
end Go.Proofs.YteeheapenfklcaaGreatDoor
