/- names' matches walked. -/
import Derived.Test.YtjdhgeikbkjnoaaDoorBhw
import Derived.Lib.OthersKept
namespace Go.Proofs.YtjdhgeikbkjnoaaDoor
set_option linter.unusedVariables false
open Go.RowKit Go.Shelf
attribute [local go_sem] Oper.semAt_some
namespace Nm
open Go.Proofs.YtjdhgeikbkjnoaaDoor.Utf Go.Proofs.YtjdhgeikbkjnoaaDoor.Txt Go.PlainAid

/-- A text's characters from a place on. -/
def rns (s : ByteArray) : Nat → Nat → List Int
  | 0, _ => []
  | n + 1, p => if p < s.size then ((Utf8.decode s p).1 : Int) :: rns s n (p + (Utf8.decode s p).2) else []
def emp (ps : List Pz) (l : List Bool) : List Bool := emk (ps.map Pz.pc) l ps.length
def stp1 (ps : List Pz) (l : List Bool) (c : Int) : List Bool := emp ps (bhk ps l c ps.length)
def start (ps : List Pz) : List Bool := emp ps (none256.set 0 true)
def mts (ps : List Pz) (s : ByteArray) : Bool := ((rns s s.size 0).foldl (stp1 ps) (start ps)).getD ps.length false
theorem emp_length (ps : List Pz) (l : List Bool) (h : l.length = 256) : (emp ps l).length = 256 := by unfold emp; rw [emk_length, h]
theorem stp1_length (ps : List Pz) (l : List Bool) (c : Int) : (stp1 ps l c).length = 256 := emp_length ps _ (bhk_length _ _ _ _)
theorem start_length (ps : List Pz) : (start ps).length = 256 := emp_length ps _ (by rw [List.length_set]; exact List.length_replicate)
theorem step_size (s : ByteArray) (a : Nat) (h : a < s.size) : 1 ≤ (Utf8.decode s a).2 ∧ a + (Utf8.decode s a).2 ≤ s.size := by
  have h1 := (step_facts s a h).1
  have h2 := piece_le s a h
  omega

set_option maxHeartbeats 8000000 in
set_option maxRecDepth 100000 in
theorem matches_any (w : World) (B : Nat) (v : Value) (ps : List Pz) (s : ByteArray) (ho : PsAt w B v ps) (hn : ps.length ≤ 255) (hsl : ∀ p ∈ ps, p.sp.length ≤ 1000000) (hs : s.size ≤ 140737488355328) :
    Calls Tryd.prog 36 #[v, .string s] w fun e w' => e = .returned (.bool (mts ps s)) ∧ Kept [] w w' := by
  obtain ⟨va, vc, rfl⟩ := own_slice2 ho.row
  have HO := Lib.hid ho
  have ZR := zero_rc
  have n256 : Hid (none256.length = 256) := List.length_replicate
  have EM : Hid (∀ w l, l.length = 256 → PsAt w B (.slice va ps.length vc) ps → Calls Tryd.prog 54 #[.agg (bo l), .slice va ps.length vc] w fun e w' => e = .returned (.agg (bo (emp ps l))) ∧ Kept [] w w') := fun w l hl h => by
    have := empties_any w B (.slice va ps.length vc) (ps.map Pz.pc) l hl (by rw [List.length_map]; exact h.row) (by rw [List.length_map]; exact hn) (fun q hq => by
      obtain ⟨p, hp, rfl⟩ := List.mem_map.1 hq
      obtain ⟨a, c, e⟩ := own_slice2 (h.sp p hp)
      exact ⟨_, _, _, e⟩)
    rw [List.length_map] at this
    exact this
  have BE : Hid (∀ w l c, l.length = 256 → PsAt w B (.slice va ps.length vc) ps → Calls Tryd.prog 55 #[.agg (bo l), .slice va ps.length vc, .int .i32 c] w fun e w' => e = .returned (.agg (bo (bhk ps l c ps.length))) ∧ Kept [] w w') := fun w l c hl h => behind_any w B _ ps l c hl h hn hsl
  obtain ⟨R, hRES⟩ : ∃ R, R = mts ps s := ⟨_, rfl⟩
  have RES := Lib.hid hRES
  rw [← hRES]
  clear ho hsl hRES
  go_enter Tryd.func36, Tryd.ntmps36
  go_wp2_with fail
  rw [bo_set]
  obtain ⟨w1, hw1⟩ : ∃ w1, w1 = w.alloc (.cells (bo (none256.set 0 true)) 87) := ⟨_, rfl⟩
  obtain ⟨R5, hR5⟩ : ∃ R, R = w.heap.size := ⟨_, rfl⟩
  have K1 : Hid (Kept [] w w1) := by rw [hw1]; exact (Kept.refl _ _).alloc _
  have hl0 : (none256.set 0 true).length = 256 := by rw [List.length_set]; exact n256.out
  have M1 : Hid (Mk w1 R5 (none256.set 0 true)) := by rw [hw1, hR5]; exact Mk.new w hl0
  have HO1 : Hid (PsAt w1 B (.slice va ps.length vc) ps) := HO.out.kept K1.out (fun i hi => by simp at hi)
  have HR5 : Hid (w.heap.size ≤ R5) := by show w.heap.size ≤ R5; omega
  have HL0 := Lib.hid hl0
  rw [← hw1, ← hR5]
  clear hw1 hR5 hl0 HO
  refine M1.out.wpLoad (.tmp 5) rfl rfl ?_
  go_wp2_with fail
  refine (EM.out w1 _ HL0.out HO1.out).mono ?_
  rintro e w2 ⟨rfl, k2⟩
  have M2 := Lib.hid (M1.out.kept k2 (by simp))
  have HST : Hid (emp ps (none256.set 0 true) = start ps) := rfl
  rw [HST.out]
  have L2 := Lib.hid (start_length ps)
  have SC := M2.out.storeCells (m := start ps) L2.out
  have SZ : (bo (start ps)).size = 256 := by rw [bo_size, L2.out]
  go_wp2_with fail
  obtain ⟨w3, hw3⟩ : ∃ w3, w3 = w2.setRow R5 (bo (start ps)) := ⟨_, rfl⟩
  obtain ⟨It, hIt⟩ : ∃ R, R = w2.heap.size := ⟨_, rfl⟩
  have hz3 : w3.heap.size = It := by rw [hw3, hIt]; simp [World.setRow]
  have M3 : Hid (Mk w3 R5 (start ps)) := by rw [hw3]; exact M2.out.setRow L2.out
  have K3 : Hid (Kept [] w w3) := by
    rw [hw3]
    exact (K1.out.trans k2 (fun i hi => by simp at hi)).trans (kept_setRow _) (fun i hi => by have := HR5.out; simp at hi; right; omega)
  have HO3 : Hid (PsAt w3 B (.slice va ps.length vc) ps) := by
    have h2 : PsAt w2 B (.slice va ps.length vc) ps := HO1.out.kept k2 (fun i hi => by simp at hi)
    rw [hw3]
    exact h2.kept (kept_setRow _) (fun i hi => by simp at hi; subst hi; exact ⟨_, M2.out.1⟩)
  obtain ⟨w4, hw4⟩ : ∃ w4, w4 = w3.iter s 0 := ⟨_, rfl⟩
  have K4 : Hid (Kept [] w3 w4) := by rw [hw4]; exact (Kept.refl _ _).alloc _
  have I4 : Hid (w4.heap[It]? = some (.stringIter s 0)) := by rw [hw4, ← hz3]; exact heap_alloc_new w3 _
  have HIt : Hid (w.heap.size ≤ It ∧ R5 < It) := ⟨by have := K3.out.size; omega, by have := block_lt M3.out.1; omega⟩
  have M4 : Hid (Mk w4 R5 (start ps)) := M3.out.kept K4.out (by simp)
  have HO4 : Hid (PsAt w4 B (.slice va ps.length vc) ps) := HO3.out.kept K4.out (fun i hi => by simp at hi)
  have KW4 : Hid (Kept [] w w4) := K3.out.trans K4.out (fun i hi => by simp at hi)
  have EO : Hid (∀ wr, Kept [R5, It] w4 wr → PsAt wr B (.slice va ps.length vc) ps) := fun wr k => by
    refine ⟨own_kept HO4.out.row k (fun b hb hm => ?_), fun p hp => own_kept (HO4.out.sp p hp) k (fun b hb hm => ?_)⟩
    · obtain ⟨c, hc⟩ := own_block HO4.out.row b hb
      rcases List.mem_cons.1 hm with rfl | q
      · rw [M4.out.1] at hc; cases hc
      · simp at q; subst q; rw [I4.out] at hc; cases hc
    · obtain ⟨c, hc⟩ := own_block (HO4.out.sp p hp) b hb
      rcases List.mem_cons.1 hm with rfl | q
      · rw [M4.out.1] at hc; cases hc
      · simp at q; subst q; rw [I4.out] at hc; cases hc
  rw [← hw3, ← hw4, ← hIt]
  clear hw3 hw4 hIt hz3 HO3 HO4 HO1 M3 M1 M2 K3 K1 k2 SC SZ HST
  go_loopw [] (fun wr => ∃ (a n : Nat) (l : List Bool), a ≤ s.size ∧ s.size ≤ a + n ∧ Hid (wr.heap[It]? = some (.stringIter s a)) ∧ Hid (Mk wr R5 l) ∧ Hid (((rns s n a).foldl (stp1 ps) l).getD ps.length false = R) ∧ Hid (Kept [R5, It] w4 wr)) (fun wr => s.size - wr.iterPos It)
  case atStart => exact ⟨0, s.size, start ps, by omega, by omega, I4.out, M4.out, RES.out.symm, Kept.refl _ _⟩
  case round =>
    obtain ⟨a, n, l, ha, han, hI, hM, hF, hK⟩ := hrel
    by_cases hlt : a < s.size
    · have hnx : ∀ ty, (Instr.next (.pointer (some ⟨It, 0, none⟩)) true ty).run Tryd.prog wr = _ := fun ty => Lib.run_next_any_at wr It s a ty hI.out hlt
      obtain ⟨d1, d2⟩ := step_size s a hlt
      have NX : Hid (∃ m, n = m + 1 ∧ rns s n a = ((Utf8.decode s a).1 : Int) :: rns s m (a + (Utf8.decode s a).2)) := by
        cases n with
        | zero => omega
        | succ m => exact ⟨m, rfl, by conv => lhs; unfold rns; rw [if_pos hlt]⟩
      go_wp2_with fail
      obtain ⟨c, hc⟩ : ∃ c : Int, c = ((Utf8.decode s a).1 : Int) := ⟨_, rfl⟩
      obtain ⟨a2, ha2⟩ : ∃ a2, a2 = a + (Utf8.decode s a).2 := ⟨_, rfl⟩
      obtain ⟨wx, hwx⟩ : ∃ wx, wx = wr.iterAt It s a2 := ⟨_, rfl⟩
      obtain ⟨m, hn1, hr⟩ := NX.out
      rw [← hc, ← ha2] at hr
      rw [← hc, ← ha2, ← hwx]
      have IX : Hid (wx.heap[It]? = some (.stringIter s a2)) := by rw [hwx]; exact Lib.iterAt_heap wr It s a a2 hI.out
      have KX0 : Kept [It] wr wx := by
        rw [hwx]
        exact ⟨rfl, rfl, rfl, by rw [Lib.iterAt_size]; exact Nat.le_refl _, fun i hi hn => Lib.iterAt_other wr It i s a2 (fun e => hn (by simp [e]))⟩
      have MX : Hid (Mk wx R5 l) := hM.out.kept KX0 (by have := HIt.out.2; simp; omega)
      have KX : Hid (Kept [R5, It] w4 wx) := hK.out.trans KX0 (fun i hi => Or.inl (by simp at hi; simp [hi]))
      have HF : Hid (((rns s m a2).foldl (stp1 ps) (stp1 ps l c)).getD ps.length false = R) := by
        have := hF.out
        rw [hr] at this
        exact this
      have hm2 : s.size ≤ a2 + m := by omega
      have ha2s : a2 ≤ s.size := by omega
      have hmeas : s.size - a2 < s.size - wr.iterPos It := by
        have := hI.out
        unfold World.iterPos
        rw [this]
        show s.size - a2 < s.size - a
        omega
      have MEAS := Lib.hid hmeas
      have AA := Lib.hid (And.intro ha2s hm2)
      clear hwx hc ha2 hr hn1 NX hF hK hM hI d1 d2 KX0 hnx ha han hlt hmeas ha2s hm2
      refine MX.out.wpLoad (.tmp 5) rfl rfl ?_
      go_wp2_with fail
      refine (BE.out wx l c MX.out.2 (EO.out wx KX.out)).mono ?_
      rintro e wy ⟨rfl, ky⟩
      have KY : Hid (Kept [R5, It] w4 wy) := KX.out.trans ky (fun i hi => by simp at hi)
      have MY := Lib.hid (MX.out.kept ky (by simp))
      have IY := Lib.hid ((ky.block It (block_lt IX.out) (by simp)).trans IX.out)
      clear ky
      go_wp2_with fail
      refine (EM.out wy _ (bhk_length ps l c _) (EO.out wy KY.out)).mono ?_
      rintro e wz ⟨rfl, kz⟩
      have e1 : emp ps (bhk ps l c ps.length) = stp1 ps l c := rfl
      rw [e1]
      have KZ : Hid (Kept [R5, It] w4 wz) := KY.out.trans kz (fun i hi => by simp at hi)
      have MZ := Lib.hid (MY.out.kept kz (by simp))
      have IZ := Lib.hid ((kz.block It (block_lt IY.out) (by simp)).trans IY.out)
      have LZ := Lib.hid (stp1_length ps l c)
      have SC := MZ.out.storeCells (m := stp1 ps l c) LZ.out
      have SZ : (bo (stp1 ps l c)).size = 256 := by rw [bo_size, LZ.out]
      clear kz e1
      go_wp2_with fail
      have IF : Hid ((wz.setRow R5 (bo (stp1 ps l c))).heap[It]? = some (.stringIter s a2)) := ((kept_setRow (w := wz) (R := R5) (stp1 ps l c)).block It (block_lt IZ.out) (by have := HIt.out.2; simp; omega)).trans IZ.out
      go_roundw
      case rel => exact ⟨a2, m, stp1 ps l c, AA.out.1, AA.out.2, IF.out, MZ.out.setRow LZ.out, HF.out, KZ.out.trans (kept_setRow _) (fun i hi => Or.inl (by simp at hi; simp [hi]))⟩
      case measure =>
        have h1 := IF.out
        have h2 := MEAS.out
        have e : (wz.setRow R5 (bo (stp1 ps l c))).iterPos It = a2 := by unfold World.iterPos; rw [h1]
        rw [e]
        exact h2
    · have hnx : ∀ ty, (Instr.next (.pointer (some ⟨It, 0, none⟩)) true ty).run Tryd.prog wr = _ := fun ty => Lib.run_next_end_at wr It s a ty hI.out hlt
      have c5 := hM.out.cell ps.length (by omega)
      have hv : R = l[ps.length]'(by have := hM.out.2; omega) := by
        have h := hF.out
        have e : rns s n a = [] := by
          cases n with
          | zero => rfl
          | succ n => unfold rns; rw [if_neg hlt]
        rw [e] at h
        have hl := hM.out.2
        rw [← h]
        simp [List.getD, show ps.length < l.length by omega]
      have HV := Lib.hid hv
      clear hv
      go_wp2_with fail
      go_ret
      exact ⟨by rw [HV.out]; rfl, KW4.out.trans hK.out (fun i hi => by have := HIt.out; have := HR5.out; simp at hi; right; omega)⟩
end Nm
end Go.Proofs.YtjdhgeikbkjnoaaDoor
