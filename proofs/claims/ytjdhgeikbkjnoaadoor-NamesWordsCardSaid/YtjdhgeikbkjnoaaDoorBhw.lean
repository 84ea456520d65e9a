/- names' reach: how far one comes by one character more. -/
import Derived.Test.YtjdhgeikbkjnoaaDoorEwr
namespace Go.Proofs.YtjdhgeikbkjnoaaDoor
set_option linter.unusedVariables false
open Go.RowKit Go.Shelf
attribute [local go_sem] Oper.semAt_some
namespace Nm
open Go.Proofs.YtjdhgeikbkjnoaaDoor.Utf Go.Proofs.YtjdhgeikbkjnoaaDoor.Txt Go.PlainAid

/-- A piece, its ranges by their numbers. -/
structure Pz where
  row : Bool
  but : Bool
  v : Value
  sp : List (Int × Int)
def Pz.pc (p : Pz) : Pc := ⟨p.row, p.but, p.v, p.sp.length, spn p.sp⟩
def Pz.tk (p : Pz) (c : Int) : Bool := tkb p.but p.sp c
/-- Pieces in memory. -/
structure PsAt (w : World) (B : Nat) (v : Value) (ps : List Pz) : Prop where
  row : w.ownsRow B 83 3 v ps.length (pcs (ps.map Pz.pc))
  sp : ∀ p ∈ ps, w.ownsRow B 102 2 p.v p.sp.length (spn p.sp)
theorem PsAt.kept {w w' : World} {B : Nat} {v : Value} {ps : List Pz} {S : List Nat} (h : PsAt w B v ps) (k : Kept S w w') (hS : ∀ i ∈ S, ∃ c, w.heap[i]? = some (.cells c 87 (0, 0))) : PsAt w' B v ps :=
  ⟨own_kept h.row k (fun b hb hm => by obtain ⟨c, hc⟩ := hS b hm; exact own_ne h.row hc (by decide) b hb rfl), fun p hp => own_kept (h.sp p hp) k (fun b hb hm => by obtain ⟨c, hc⟩ := hS b hm; exact own_ne (h.sp p hp) hc (by decide) b hb rfl)⟩
/-- Where one can be by a character more. -/
def bhk (ps : List Pz) (l : List Bool) (c : Int) : Nat → List Bool
  | 0 => none256
  | k + 1 => if (l.getD k false && ((ps.map fun p => p.tk c).getD k false)) = true then (if (ps.map Pz.row).getD k false = true then (bhk ps l c k).set k true else (bhk ps l c k).set (k + 1) true) else bhk ps l c k
theorem bhk_length (ps : List Pz) (l : List Bool) (c : Int) : ∀ k, (bhk ps l c k).length = 256
  | 0 => List.length_replicate
  | k + 1 => by
    have ih := bhk_length ps l c k
    unfold bhk
    split
    · split <;> (rw [List.length_set, ih])
    · exact ih
theorem pz_at (ps : List Pz) (k : Nat) (h : k < ps.length) : (pcs (ps.map Pz.pc))[k * 3]? = some (.bool ps[k].row) ∧ (pcs (ps.map Pz.pc))[k * 3 + 1]? = some (.bool ps[k].but) ∧ (pcs (ps.map Pz.pc))[k * 3 + 2]? = some ps[k].v := by
  have := pcs_at (ps.map Pz.pc) k (by simpa using h)
  simpa [Pz.pc] using this

set_option maxHeartbeats 8000000 in
set_option maxRecDepth 100000 in
theorem behind_any (w : World) (B : Nat) (v : Value) (ps : List Pz) (l : List Bool) (c : Int) (hl : l.length = 256) (ho : PsAt w B v ps) (hn : ps.length ≤ 255) (hsl : ∀ p ∈ ps, p.sp.length ≤ 1000000) :
    Calls Tryd.prog 55 #[.agg (bo l), v, .int .i32 c] w fun e w' => e = .returned (.agg (bo (bhk ps l c ps.length))) ∧ Kept [] w w' := by
  obtain ⟨va, vc, rfl⟩ := own_slice2 ho.row
  have HO := Lib.hid ho
  have ZR := zero_rc
  have TK : Hid (∀ w B p, p ∈ ps → w.ownsRow B 102 2 p.v p.sp.length (spn p.sp) → Calls Tryd.prog 71 #[.agg #[.bool p.row, .bool p.but, p.v], .int .i32 c] w fun e w' => e = .returned (.bool (p.tk c)) ∧ Kept [] w w') := fun w B p hp hw => takes_any w B p.row p.but p.v p.sp c hw (hsl p hp)
  clear ho hsl
  go_enter Tryd.func55, Tryd.ntmps55
  go_wp2_with fail
  obtain ⟨wa, hwa⟩ : ∃ wa, wa = w.alloc (.cells (bo l) 87) := ⟨_, rfl⟩
  obtain ⟨wb, hwb⟩ : ∃ wb, wb = wa.alloc (.cells (bo none256) 87) := ⟨_, rfl⟩
  obtain ⟨w1, hw1⟩ : ∃ w1, w1 = wb.alloc (.cells (bo none256) 87) := ⟨_, rfl⟩
  rw [← hwa, ← hwb, ← hw1]
  obtain ⟨R3, hR3⟩ : ∃ R, R = w.heap.size + 1 + 1 := ⟨_, rfl⟩
  obtain ⟨R2, hR2⟩ : ∃ R, R = w.heap.size + 1 := ⟨_, rfl⟩
  obtain ⟨R1, hR1⟩ : ∃ R, R = w.heap.size := ⟨_, rfl⟩
  rw [← hR3, ← hR2, ← hR1]
  have n256 : none256.length = 256 := List.length_replicate
  have ka : Kept [] w wa := by rw [hwa]; exact (Kept.refl _ _).alloc _
  have kb : Kept [] wa wb := by rw [hwb]; exact (Kept.refl _ _).alloc _
  have kc : Kept [] wb w1 := by rw [hw1]; exact (Kept.refl _ _).alloc _
  have za : wa.heap.size = w.heap.size + 1 := by rw [hwa]; simp
  have zb : wb.heap.size = w.heap.size + 1 + 1 := by rw [hwb]; simp [za]
  have m1 : Mk wa R1 l := by rw [hwa, hR1]; exact Mk.new w hl
  have m2 : Mk wb R2 none256 := by rw [hwb, hR2, ← za]; exact Mk.new wa n256
  have m3 : Mk w1 R3 none256 := by rw [hw1, hR3, ← zb]; exact Mk.new wb n256
  have K1 : Hid (Kept [] w w1) := (ka.trans kb (fun i hi => by simp at hi)).trans kc (fun i hi => by simp at hi)
  have M1 : Hid (Mk w1 R1 l) := (m1.kept kb (by simp)).kept kc (by simp)
  have M2 : Hid (Mk w1 R2 none256) := m2.kept kc (by simp)
  have M3 : Hid (Mk w1 R3 none256) := m3
  have HR := Lib.hid (And.intro hR1 (And.intro hR2 hR3))
  have HO1 : Hid (PsAt w1 B (.slice va ps.length vc) ps) := HO.out.kept K1.out (fun i hi => by simp at hi)
  clear hwa hwb hw1 hR1 hR2 hR3 ka kb kc za zb m1 m2 m3 n256 HO
  go_loopw [12] (fun iv wr => ∃ (k : Nat), iv = .int .i64 k ∧ k ≤ ps.length ∧ Hid (Mk wr R3 (bhk ps l c k)) ∧ Hid (Kept [R3] w1 wr)) (fun iv _ => ps.length - (intOf iv).toNat)
  case atStart => exact ⟨0, rfl, by omega, M3.out, Kept.refl _ _⟩
  case round =>
    obtain ⟨k, rfl, hk, hM, hK⟩ := hrel
    have M1r := Lib.hid (M1.out.kept hK.out (by have := HR.out; simp; omega))
    by_cases hlt : k < ps.length
    · have j1 : (k : Int) < (ps.length : Int) := by omega
      have HOr := Lib.hid (HO1.out.kept hK.out (fun i hi => by simp at hi; subst hi; exact ⟨_, M3.out.1⟩))
      have hor := HOr.out.row
      rcases hor.2 with ⟨_, h0⟩ | ⟨g, cap, cur, e, -⟩
      · omega
      cases e
      obtain ⟨s0, s1, s2⟩ := pz_at ps k hlt
      have x0 := (World.ownsRow.cellAt hor (k * 3) (by omega)).trans s0
      have x1 := (World.ownsRow.cellAt hor (k * 3 + 1) (by omega)).trans s1
      have x2 := (World.ownsRow.cellAt hor (k * 3 + 2) (by omega)).trans s2
      have hR1 := block_lt M1r.out.1
      have hR3 := block_lt hM.out.1
      have hl' := M1.out.2
      have c0 := M1r.out.cell k (by omega)
      have c3 := hM.out.cell k (by omega)
      have c4 := hM.out.cell (k + 1) (by omega)
      have f3 := hM.out.frozen k
      have f4 := hM.out.frozen (k + 1)
      obtain ⟨b0, hb0⟩ : ∃ b, b = l[k]'(by omega) := ⟨_, rfl⟩
      rw [← hb0] at c0
      have hsp := HOr.out.sp ps[k] (List.getElem_mem hlt)
      have TKk := Lib.hid (fun w B => TK.out w B ps[k] (List.getElem_mem hlt))
      have SN : Hid (b0 = false → bhk ps l c (k + 1) = bhk ps l c k) := fun h => by
        conv => lhs; unfold bhk
        rw [if_neg (by simp [List.getD, hl', show k < 256 by omega, ← hb0, h])]
      have SF : Hid (ps[k].tk c = false → bhk ps l c (k + 1) = bhk ps l c k) := fun h => by
        conv => lhs; unfold bhk
        rw [if_neg (by simp [List.getD, hlt, h])]
      have SR : Hid (b0 = true → ps[k].tk c = true → ps[k].row = true → bhk ps l c (k + 1) = (bhk ps l c k).set k true) := fun h h2 h3 => by
        conv => lhs; unfold bhk
        rw [if_pos (by simp [List.getD, hl', show k < 256 by omega, ← hb0, h, hlt, h2]), if_pos (by simp [List.getD, hlt, h3])]
      have SO : Hid (b0 = true → ps[k].tk c = true → ps[k].row = false → bhk ps l c (k + 1) = (bhk ps l c k).set (k + 1) true) := fun h h2 h3 => by
        conv => lhs; unfold bhk
        rw [if_pos (by simp [List.getD, hl', show k < 256 by omega, ← hb0, h, hlt, h2]), if_neg (by simp [List.getD, hlt, h3])]
      obtain ⟨rw', hrw⟩ : ∃ b, b = ps[k].row := ⟨_, rfl⟩
      obtain ⟨bt, hbt⟩ : ∃ b, b = ps[k].but := ⟨_, rfl⟩
      obtain ⟨tk, htk⟩ : ∃ b, b = ps[k].tk c := ⟨_, rfl⟩
      obtain ⟨pva, pvc, hpv⟩ := own_slice2 hsp
      obtain ⟨pvn, hpn⟩ : ∃ n, n = ps[k].sp.length := ⟨_, rfl⟩
      rw [← hpn] at hpv
      rw [hpv, ← hrw, ← hbt, ← htk] at TKk
      rw [← hrw] at x0 SR SO
      rw [← htk] at SF SR SO
      rw [← hbt] at x1
      rw [hpv] at x2
      have HSP : Hid (wr.ownsRow B 102 2 (.slice pva pvn pvc) ps[k].sp.length (spn ps[k].sp)) := by rw [← hpv]; exact hsp
      clear hor s0 s1 s2 hb0 hrw hbt hpv htk hsp hpn HO1 HOr TK
      have CALL := Lib.hid (TKk.out (wr.alloc (.cells #[.bool rw', .bool bt, .slice pva pvn pvc] 83)) B (own_kept HSP.out ((Kept.refl [] wr).alloc _) (fun b hb hm => by simp at hm)))
      have HMA : Hid (Mk (wr.alloc (.cells #[.bool rw', .bool bt, .slice pva pvn pvc] 83)) R3 (bhk ps l c k)) := hM.out.kept ((Kept.refl [] wr).alloc _) (by simp)
      have HKA : Hid (Kept [R3] w1 (wr.alloc (.cells #[.bool rw', .bool bt, .slice pva pvn pvc] 83))) := hK.out.alloc _
      have BXA : Hid ((wr.alloc (.cells #[.bool rw', .bool bt, .slice pva pvn pvc] 83)).heap[wr.heap.size]? = some (.cells #[.bool rw', .bool bt, .slice pva pvn pvc] 83 (0, 0))) := heap_alloc_new wr _
      clear TKk HSP
      cases b0
      · have E := Lib.hid (SN.out rfl)
        clear SN SF SR SO CALL
        go_wp2_with fail
        go_roundw
        case rel => exact ⟨k + 1, by go_num, by omega, by rw [E.out]; exact HMA.out, HKA.out⟩
        case measure => simp [intOf]; omega
      · clear SN
        go_wp2_with fail
        refine CALL.out.mono ?_
        rintro e wt ⟨rfl, kt⟩
        have HM2 := Lib.hid (HMA.out.kept kt (by simp))
        have HK2 : Hid (Kept [R3] w1 wt) := HKA.out.trans kt (fun i hi => by simp at hi)
        have bx := (kt.block _ (block_lt BXA.out) (by simp)).trans BXA.out
        obtain ⟨Rb, hRb⟩ : ∃ R, R = wr.heap.size := ⟨_, rfl⟩
        rw [← hRb] at bx
        rw [← hRb]
        have cb0 : wt.cell? ⟨Rb, 0, none⟩ = some (.bool rw') := by rw [cell_of_row wt Rb 0 _ _ (0, 0) bx]; rfl
        have d3 := HM2.out.cell k (by omega)
        have d4 := HM2.out.cell (k + 1) (by omega)
        have g3 := HM2.out.frozen k
        have g4 := HM2.out.frozen (k + 1)
        have HP : Hid (∀ i, Mk (wt.setCell ⟨R3, i, none⟩ (.bool true)) R3 ((bhk ps l c k).set i true)) := fun i => HM2.out.put i true
        have HQ : Hid (∀ i, Kept [R3] w1 (wt.setCell ⟨R3, i, none⟩ (.bool true))) := fun i => HK2.out.setCell (p := ⟨R3, i, none⟩) (Or.inl (by simp)) _
        clear c0 c3 c4 f3 f4 x0 x1 x2 bx hRb kt CALL hR1 hR3 BXA HMA HKA
        cases tk
        · have E := Lib.hid (SF.out rfl)
          clear SF SR SO
          go_wp2_with fail
          go_roundw
          case rel => exact ⟨k + 1, by go_num, by omega, by rw [E.out]; exact HM2.out, HK2.out⟩
          case measure => simp [intOf]; omega
        · cases rw'
          · have E := Lib.hid (SO.out trivial rfl rfl)
            clear SF SR SO
            go_wp2_with fail
            go_roundw
            case rel => exact ⟨k + 1, by go_num, by omega, by rw [E.out]; exact HP.out _, HQ.out _⟩
            case measure => simp [intOf]; omega
          · have E := Lib.hid (SR.out trivial rfl rfl)
            clear SF SR SO
            go_wp2_with fail
            go_roundw
            case rel => exact ⟨k + 1, by go_num, by omega, by rw [E.out]; exact HP.out _, HQ.out _⟩
            case measure => simp [intOf]; omega
    · have j1 : ¬ (k : Int) < (ps.length : Int) := by omega
      have hkk : k = ps.length := by omega
      subst hkk
      have M2r := Lib.hid (M2.out.kept hK.out (by have := HR.out; simp; omega))
      have M2f := Lib.hid (M2r.out.setRow (m := bhk ps l c ps.length) hM.out.2)
      have KF : Hid (Kept [R2] wr (wr.setRow R2 (bo (bhk ps l c ps.length)))) := kept_setRow (w := wr) (R := R2) (bhk ps l c ps.length)
      go_wp2_with fail
      refine hM.out.wpLoad (.tmp 7) rfl rfl ?_
      have SC := M2r.out.storeCells (m := bhk ps l c ps.length) hM.out.2
      have SZ : (bo (bhk ps l c ps.length)).size = 256 := by rw [bo_size, hM.out.2]
      go_wp2_with fail
      refine ⟨rfl, .agg (bo (bhk ps l c ps.length)), ?_, rfl, ?_⟩
      · exact results_cell_row (p := 6) rfl _ _ R2 _ _ (0, 0) (.array 256 4) rfl M2f.out.1 und_rc rfl (by rw [size_rc, bo_size, M2f.out.2])
      · exact (K1.out.trans hK.out (fun i hi => by have := HR.out; simp at hi; right; omega)).trans KF.out (fun i hi => by have := HR.out; simp at hi; right; omega)
end Nm
end Go.Proofs.YtjdhgeikbkjnoaaDoor
