/- names' reach: how far one comes by no character. -/
import Derived.Test.YtjdhgeikbkjnoaaDoorArr
import Derived.Test.YtjdhgeikbkjnoaaDoorTks
namespace Go.Proofs.YtjdhgeikbkjnoaaDoor
set_option linter.unusedVariables false
open Go.RowKit Go.Shelf
attribute [local go_sem] Oper.semAt_some
namespace Nm
open Go.Proofs.YtjdhgeikbkjnoaaDoor.Utf Go.Proofs.YtjdhgeikbkjnoaaDoor.Txt Go.PlainAid

theorem pcs_at : ∀ (ps : List Pc) (k : Nat) (h : k < ps.length), (pcs ps)[k * 3]? = some (.bool ps[k].row) ∧ (pcs ps)[k * 3 + 1]? = some (.bool ps[k].but) ∧ (pcs ps)[k * 3 + 2]? = some ps[k].v
  | p :: ps, 0, _ => by simp [pcs, Pc.cells]
  | p :: ps, k + 1, h => by
    have ih := pcs_at ps k (by simpa using h)
    have e : pcs (p :: ps) = .bool p.row :: .bool p.but :: p.v :: pcs ps := rfl
    have e0 : (k + 1) * 3 = k * 3 + 3 := by omega
    have e1 : (k + 1) * 3 + 1 = k * 3 + 1 + 3 := by omega
    have e2 : (k + 1) * 3 + 2 = k * 3 + 2 + 3 := by omega
    rw [e, e2, e1, e0]
    exact ih
/-- The first k rows may be empty. -/
def emk (ps : List Pc) (l : List Bool) : Nat → List Bool
  | 0 => l
  | k + 1 => (emk ps l k).set (k + 1) ((emk ps l k).getD (k + 1) false || ((emk ps l k).getD k false && (ps.map Pc.row).getD k false))
theorem emk_length (ps : List Pc) (l : List Bool) : ∀ k, (emk ps l k).length = l.length
  | 0 => rfl
  | k + 1 => by unfold emk; rw [List.length_set, emk_length ps l k]

set_option maxHeartbeats 8000000 in
set_option maxRecDepth 100000 in
theorem empties_any (w : World) (B : Nat) (v : Value) (ps : List Pc) (l : List Bool) (hl : l.length = 256) (ho : w.ownsRow B 83 3 v ps.length (pcs ps)) (hn : ps.length ≤ 255) (hs : ∀ p ∈ ps, ∃ a n c, p.v = .slice a n c) :
    Calls Tryd.prog 54 #[.agg (bo l), v] w fun e w' => e = .returned (.agg (bo (emk ps l ps.length))) ∧ Kept [] w w' := by
  obtain ⟨va, vc, rfl⟩ := own_slice2 ho
  have HO := Lib.hid ho
  have ZR := zero_rc
  have HS := Lib.hid hs
  clear ho hs
  go_enter Tryd.func54, Tryd.ntmps54
  go_wp2_with fail
  obtain ⟨w1, hw1⟩ : ∃ w1, w1 = (w.alloc (.cells (bo l) 87)).alloc (.cells (bo none256) 87) := ⟨_, rfl⟩
  obtain ⟨R2, hR2⟩ : ∃ R, R = w.heap.size + 1 := ⟨_, rfl⟩
  obtain ⟨R1, hR1⟩ : ∃ R, R = w.heap.size := ⟨_, rfl⟩
  have k0 : Kept [] w (w.alloc (.cells (bo l) 87)) := (Kept.refl _ _).alloc _
  have k00 : Kept [] (w.alloc (.cells (bo l) 87)) w1 := by rw [hw1]; exact (Kept.refl _ _).alloc _
  have k1 : Kept [] w w1 := k0.trans k00 (fun i hi => by simp at hi)
  have m1 : Mk w1 R1 l := by rw [hR1]; exact (Mk.new w hl).kept k00 (by simp)
  have m2 : Mk w1 R2 none256 := by
    have := Mk.new (w.alloc (.cells (bo l) 87)) (l := none256) (by decide)
    rw [hw1, hR2]
    simpa using this
  have HO1 : Hid (w1.ownsRow B 83 3 (.slice va ps.length vc) ps.length (pcs ps)) := own_kept HO.out k1 (fun b hb hm => by simp at hm)
  have NE : Hid (∀ b, (Value.slice va ps.length vc).ownBlock = some b → b ≠ R1) := own_ne HO1.out m1.1 (by decide)
  rw [← hw1, ← hR2, ← hR1]
  have HR := Lib.hid (And.intro hR1 hR2)
  have K1 := Lib.hid k1
  have M1 := Lib.hid m1
  have M2 := Lib.hid m2
  clear hw1 hR1 hR2 k0 k00 k1 m1 m2 HO
  go_loopw [9] (fun iv wr => ∃ (k : Nat), iv = .int .i64 k ∧ k ≤ ps.length ∧ Hid (Mk wr R1 (emk ps l k)) ∧ Hid (Kept [R1] w1 wr)) (fun iv _ => ps.length - (intOf iv).toNat)
  case atStart => exact ⟨0, rfl, by omega, M1.out, Kept.refl _ _⟩
  case round =>
    obtain ⟨k, rfl, hk, hM, hK⟩ := hrel
    by_cases hlt : k < ps.length
    · have j1 : (k : Int) < (ps.length : Int) := by omega
      have hor := own_kept HO1.out hK.out (fun b hb hm => NE.out b hb (by simpa using hm))
      rcases hor.2 with ⟨_, h0⟩ | ⟨g, cap, cur, e, -⟩
      · omega
      cases e
      obtain ⟨s0, s1, s2⟩ := pcs_at ps k hlt
      have x0 := (World.ownsRow.cellAt hor (k * 3) (by omega)).trans s0
      have x1 := (World.ownsRow.cellAt hor (k * 3 + 1) (by omega)).trans s1
      have x2 := (World.ownsRow.cellAt hor (k * 3 + 2) (by omega)).trans s2
      have hR1 := block_lt hM.out.1
      have c0 := hM.out.cell k (by omega)
      have c1 := hM.out.cell (k + 1) (by omega)
      have f1 := hM.out.frozen (k + 1)
      obtain ⟨b0, hb0⟩ : ∃ b, b = (emk ps l k)[k]'(by have := hM.out.2; omega) := ⟨_, rfl⟩
      obtain ⟨b1, hb1⟩ : ∃ b, b = (emk ps l k)[k + 1]'(by have := hM.out.2; omega) := ⟨_, rfl⟩
      rw [← hb0] at c0
      rw [← hb1] at c1
      have ST : Hid (emk ps l (k + 1) = (emk ps l k).set (k + 1) (b1 || (b0 && ps[k].row))) := by
        show emk ps l (k + 1) = _
        conv => lhs; unfold emk
        have hlen := hM.out.2
        rw [hb0, hb1]
        simp [List.getD, hlt, show k < (emk ps l k).length by omega, show k + 1 < (emk ps l k).length by omega]
      obtain ⟨rw', hrw⟩ : ∃ b, b = ps[k].row := ⟨_, rfl⟩
      obtain ⟨bt, hbt⟩ : ∃ b, b = ps[k].but := ⟨_, rfl⟩
      obtain ⟨pva, pvn, pvc, hpv⟩ := HS.out ps[k] (List.getElem_mem hlt)
      rw [← hrw] at x0 ST
      rw [← hbt] at x1
      rw [hpv] at x2
      clear hor s0 s1 s2 hb0 hb1 hrw hbt hpv HO1
      have HP : Hid (∀ b, Mk ((wr.setCell ⟨R1, k + 1, none⟩ (.bool b)).alloc (.cells #[.bool rw', .bool bt, .slice pva pvn pvc] 83)) R1 ((emk ps l k).set (k + 1) b)) := fun b => (hM.out.put (k + 1) b).kept ((Kept.refl [] _).alloc _) (by simp)
      have HK : Hid (∀ b : Bool, Kept [R1] w1 ((wr.setCell ⟨R1, k + 1, none⟩ (.bool b)).alloc (.cells #[.bool rw', .bool bt, .slice pva pvn pvc] 83))) := fun b => (hK.out.setCell (p := ⟨R1, k + 1, none⟩) (Or.inl (by simp)) _).alloc _
      cases b1
      · cases b0
        · go_wp2_with fail
          go_roundw
          case rel => exact ⟨k + 1, by go_num, by omega, by rw [ST.out]; exact HP.out _, HK.out _⟩
          case measure => simp [intOf]; omega
        · go_wp2_with fail
          go_roundw
          case rel => exact ⟨k + 1, by go_num, by omega, by rw [ST.out]; exact HP.out _, HK.out _⟩
          case measure => simp [intOf]; omega
      · go_wp2_with fail
        go_roundw
        case rel => exact ⟨k + 1, by go_num, by omega, by rw [ST.out]; exact HP.out _, HK.out _⟩
        case measure => simp [intOf]; omega
    · have j1 : ¬ (k : Int) < (ps.length : Int) := by omega
      have hkk : k = ps.length := by omega
      subst hkk
      have M2r := Lib.hid (M2.out.kept hK.out (by have := HR.out; simp; omega))
      have M2f := Lib.hid (M2r.out.setRow (m := emk ps l ps.length) hM.out.2)
      have KF : Hid (Kept [R2] wr (wr.setRow R2 (bo (emk ps l ps.length)))) := kept_setRow (w := wr) (R := R2) (emk ps l ps.length)
      go_wp2_with fail
      refine hM.out.wpLoad (.tmp 2) rfl rfl ?_
      have SC := M2r.out.storeCells (m := emk ps l ps.length) hM.out.2
      have SZ : (bo (emk ps l ps.length)).size = 256 := by rw [bo_size, hM.out.2]
      go_wp2_with fail
      refine ⟨rfl, .agg (bo (emk ps l ps.length)), ?_, rfl, ?_⟩
      · exact results_cell_row (p := 4) rfl _ _ R2 _ _ (0, 0) (.array 256 4) rfl M2f.out.1 und_rc rfl (by rw [size_rc, bo_size, M2f.out.2])
      · exact (K1.out.trans hK.out (fun i hi => by have := HR.out; simp at hi; right; omega)).trans KF.out (fun i hi => by have := HR.out; simp at hi; right; omega)
end Nm
end Go.Proofs.YtjdhgeikbkjnoaaDoor
