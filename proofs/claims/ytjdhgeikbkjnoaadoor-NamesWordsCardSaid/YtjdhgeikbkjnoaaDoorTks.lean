/- names' takes walked. -/
import Derived.Test.YtjdhgeikbkjnoaaDoorRpo
namespace Go.Proofs.YtjdhgeikbkjnoaaDoor
set_option linter.unusedVariables false
open Go.RowKit Go.Shelf
attribute [local go_sem] Oper.semAt_some
namespace Nm
open Go.Proofs.YtjdhgeikbkjnoaaDoor.Utf Go.Proofs.YtjdhgeikbkjnoaaDoor.Txt Go.PlainAid

/-- Spans in a row. -/
def spn (sp : List (Int × Int)) : List Value := sp.flatMap fun s => [.int .i32 s.1, .int .i32 s.2]
theorem spn_at : ∀ (sp : List (Int × Int)) (i : Nat) (h : i < sp.length), (spn sp)[i * 2]? = some (.int .i32 sp[i].1) ∧ (spn sp)[i * 2 + 1]? = some (.int .i32 sp[i].2)
  | s :: sp, 0, _ => by simp [spn]
  | s :: sp, i + 1, h => by
    have := spn_at sp i (by simpa using h)
    have e : spn (s :: sp) = .int .i32 s.1 :: .int .i32 s.2 :: spn sp := rfl
    have e1 : (i + 1) * 2 = i * 2 + 2 := by omega
    have e2 : (i + 1) * 2 + 1 = i * 2 + 1 + 2 := by omega
    rw [e, e2, e1]
    exact this
def hit (sp : List (Int × Int)) (c : Int) : Bool := sp.any fun s => decide (s.1 ≤ c) && decide (c ≤ s.2)
def tkb (but : Bool) (sp : List (Int × Int)) (c : Int) : Bool := if hit sp c = true then !but else but
theorem hit_at {sp : List (Int × Int)} {c : Int} {i : Nat} (h : i < sp.length) (h1 : sp[i].1 ≤ c) (h2 : c ≤ sp[i].2) : hit sp c = true := by
  unfold hit
  rw [List.any_eq_true]
  exact ⟨sp[i], List.getElem_mem h, by simp [h1, h2]⟩

set_option maxHeartbeats 8000000 in
set_option maxRecDepth 100000 in
theorem takes_any (w : World) (B : Nat) (row but : Bool) (v : Value) (sp : List (Int × Int)) (c : Int) (ho : w.ownsRow B 102 2 v sp.length (spn sp)) (hn : sp.length ≤ 1000000) :
    Calls Tryd.prog 71 #[.agg #[.bool row, .bool but, v], .int .i32 c] w fun e w' => e = .returned (.bool (tkb but sp c)) ∧ Kept [] w w' := by
  obtain ⟨va, vc, rfl⟩ := own_slice2 ho
  have HO := Lib.hid ho
  have HIT : Hid (∀ i (h : i < sp.length), sp[i].1 ≤ c → c ≤ sp[i].2 → tkb but sp c = !but) := fun i h h1 h2 => by unfold tkb; rw [if_pos (hit_at h h1 h2)]
  have MIS : Hid (hit sp c = false → tkb but sp c = but) := fun h => by unfold tkb; rw [if_neg (by rw [h]; decide)]
  clear ho
  go_enter Tryd.func71, Tryd.ntmps71
  go_wp2_with fail
  obtain ⟨w1, hw1⟩ : ∃ w1, w1 = w.alloc (.cells #[.bool row, .bool but, .slice va sp.length vc] 83) := ⟨_, rfl⟩
  obtain ⟨R1, hR1⟩ : ∃ R, R = w.heap.size := ⟨_, rfl⟩
  have k1 : Kept [] w w1 := by rw [hw1]; exact (Kept.refl _ _).alloc _
  have b1 : w1.heap[R1]? = some (.cells #[.bool row, .bool but, .slice va sp.length vc] 83 (0, 0)) := by rw [hw1, hR1]; exact heap_alloc_new w _
  rw [← hw1, ← hR1]
  have K1 := Lib.hid k1
  have B1 := Lib.hid b1
  clear hw1 hR1 k1 b1
  go_loopw [10] (fun iv wr => ∃ (k : Nat), iv = .int .i64 k ∧ k ≤ sp.length ∧ Hid (hit (sp.take k) c = false) ∧ Hid (Kept [] w1 wr)) (fun iv _ => sp.length - (intOf iv).toNat)
  case atStart => exact ⟨0, rfl, by omega, rfl, Kept.refl _ _⟩
  case round =>
    obtain ⟨k, rfl, hk, hM, hK⟩ := hrel
    have br := (hK.out.block _ (block_lt B1.out) (by simp)).trans B1.out
    have cb : wr.cell? ⟨R1, 1, none⟩ = some (.bool but) := by rw [cell_of_row wr R1 1 _ _ (0, 0) br]; rfl
    have hR1 := block_lt br
    clear br
    by_cases hlt : k < sp.length
    · have j1 : (k : Int) < (sp.length : Int) := by omega
      have hor := own_kept (own_kept HO.out K1.out (fun _ _ hm => by simp at hm)) hK.out (fun _ _ hm => by simp at hm)
      rcases hor.2 with ⟨_, h0⟩ | ⟨g, cap, cur, e, -⟩
      · omega
      cases e
      obtain ⟨s0, s1⟩ := spn_at sp k hlt
      have x0 := (World.ownsRow.cellAt hor (k * 2) (by omega)).trans s0
      have x1 := (World.ownsRow.cellAt hor (k * 2 + 1) (by omega)).trans s1
      have HK1 : Hid (∀ a b : Int, Kept [] w1 (wr.alloc (.cells #[.int .i32 a, .int .i32 b] 102))) := fun a b => hK.out.alloc _
      have HHIT := Lib.hid (HIT.out k hlt)
      have HTK : Hid (¬ (sp[k].1 ≤ c ∧ c ≤ sp[k].2) → hit (sp.take (k + 1)) c = false) := fun h => by
        have hm := hM.out
        unfold hit at hm ⊢
        rw [List.take_succ_eq_append_getElem hlt, List.any_append, hm]
        simp
        intro h1
        exact Int.not_le.1 (fun h2 => h ⟨h1, h2⟩)
      obtain ⟨p, hp⟩ : ∃ p, p = sp[k].1 := ⟨_, rfl⟩
      obtain ⟨q, hq⟩ : ∃ q, q = sp[k].2 := ⟨_, rfl⟩
      rw [← hp, ← hq] at HTK HHIT
      rw [← hp] at x0
      rw [← hq] at x1
      clear hor s0 s1 hp hq HO HIT
      by_cases h1 : p ≤ c
      · by_cases h2 : c ≤ q
        · have HV := Lib.hid (HHIT.out h1 h2)
          go_wp2_with fail
          go_ret
          exact ⟨by rw [HV.out]; rfl, K1.out.trans (HK1.out p q) (fun i hi => by simp at hi)⟩
        · go_wp2_with fail
          go_roundw
          case rel => exact ⟨k + 1, by go_num, by omega, HTK.out (fun h => h2 h.2), HK1.out p q⟩
          case measure => simp [intOf]; omega
      · go_wp2_with fail
        go_roundw
        case rel => exact ⟨k + 1, by go_num, by omega, HTK.out (fun h => h1 h.1), HK1.out p q⟩
        case measure => simp [intOf]; omega
    · have j1 : ¬ (k : Int) < (sp.length : Int) := by omega
      have e0 : sp.take k = sp := List.take_of_length_le (by omega)
      have hv := MIS.out (by have := hM.out; rwa [e0] at this)
      have HV := Lib.hid hv
      clear hv e0
      go_wp2_with fail
      go_ret
      exact ⟨by rw [HV.out]; rfl, K1.out.trans hK.out (fun i hi => by simp at hi)⟩
end Nm
end Go.Proofs.YtjdhgeikbkjnoaaDoor
