/- names' splitClean, beginWith walked. -/
import Derived.Test.YtjdhgeikbkjnoaaDoorMpt
import Derived.Test.YtjdhgeikbkjnoaaDoorRpo
namespace Go.Proofs.YtjdhgeikbkjnoaaDoor
set_option linter.unusedVariables false
open Go.RowKit Go.Shelf
attribute [local go_sem] Oper.semAt_some
namespace Nm
open Go.Proofs.YtjdhgeikbkjnoaaDoor.Utf Go.Proofs.YtjdhgeikbkjnoaaDoor.Txt Go.PlainAid

/-- Is it clean? -/
def ucl (s : ByteArray) : Bool := okl (dl s) && (clf s).toList == s.toList
def SclOut (w : World) (s : ByteArray) (e : Ending) (w' : World) : Prop :=
  (ucl s = true ∧ ∃ pv, e = .returned (.tuple #[.agg #[.bool (rooted (dl s)), pv], .bool true]) ∧ Hid (Row w' w.heap.size pv (pt s)) ∧ Hid (Kept [] w w')) ∨
  (ucl s = false ∧ e = .returned (.tuple #[.agg #[.bool false, .slice none 0 0], .bool false]) ∧ Hid (Kept [] w w'))
theorem ucl_iff (s : ByteArray) : ucl s = true ↔ okl (dl s) = true ∧ clf s = s := by
  unfold ucl
  rw [Bool.and_eq_true, beq_iff_eq, toList_dl, toList_dl]
  exact ⟨fun h => ⟨h.1, dl_inj h.2⟩, fun h => ⟨h.1, by rw [h.2]⟩⟩
theorem pt_length (s : ByteArray) : (pt s).length ≤ s.size + 1 := by
  have := parts_length (dl s)
  rw [← pt_dl, List.length_map, dl_length] at this
  exact this
theorem jin_pt (s : ByteArray) (r : Bool) : (jin (sho r (pt s))).size ≤ s.size + 1 := by
  have h1 := jin_size (sho r (pt s))
  have h2 := wt_sho r (pt s)
  have h3 := wt_parts (dl s)
  rw [pt_dl] at h2
  rw [dl_length] at h3
  omega

theorem path_set {w W : World} {R : Nat} {x0 x1 : Value} {r : Bool} {v : Value} (hb : W.heap[R]? = some (.cells #[x0, x1] 28 (0, 0))) (k : Kept [] w W) (hR : w.heap.size ≤ R) :
    ((W.setCell ⟨R, 0, none⟩ (.bool r)).setCell ⟨R, 1, none⟩ v).heap[R]? = some (.cells #[.bool r, v] 28 (0, 0)) ∧ Kept [] w ((W.setCell ⟨R, 0, none⟩ (.bool r)).setCell ⟨R, 1, none⟩ v) ∧ Kept [R] W ((W.setCell ⟨R, 0, none⟩ (.bool r)).setCell ⟨R, 1, none⟩ v) :=
  ⟨by simpa using heap_set (i := 1) v (heap_set (i := 0) (Value.bool r) hb), (k.setCell (p := ⟨R, 0, none⟩) (Or.inr hR) _).setCell (p := ⟨R, 1, none⟩) (Or.inr hR) _, ((Kept.refl [R] W).setCell (p := ⟨R, 0, none⟩) (Or.inl (by simp)) _).setCell (p := ⟨R, 1, none⟩) (Or.inl (by simp)) _⟩

set_option maxHeartbeats 8000000 in
set_option maxRecDepth 100000 in
theorem splitClean_any (w : World) (s : ByteArray) (hs : s.size ≤ 1073741824) :
    Calls Tryd.prog 30 #[.string s] w (SclOut w s) := by
  have SPL := Lib.hid (fun w => split_any w s hs)
  go_enter Tryd.func30, Tryd.ntmps30
  go_wp2_with fail
  obtain ⟨w1, hw1⟩ : ∃ w1, w1 = w.alloc (.cells #[.bool false, .slice none 0 0] 28) := ⟨_, rfl⟩
  obtain ⟨R2, hR2⟩ : ∃ R, R = w.heap.size := ⟨_, rfl⟩
  have K1 : Hid (Kept [] w w1) := by rw [hw1]; exact (Kept.refl _ _).alloc _
  have B1 : Hid (w1.heap[R2]? = some (.cells #[.bool false, .slice none 0 0] 28 (0, 0))) := by rw [hw1, hR2]; exact heap_alloc_new w _
  have HR2 : Hid (w.heap.size ≤ R2) := by show _ ≤ _; omega
  rw [← hw1, ← hR2]
  clear hw1 hR2
  refine (SPL.out w1).mono ?_
  rintro e w2 (⟨ho, pv, ps, rfl, hR, hE, hK⟩ | ⟨ho, rfl, hK⟩)
  · obtain ⟨pa, pc, rfl⟩ := own_slice hR.out
    have hpt := pt_of hE.out
    have HO := Lib.hid ho
    have hlen : ps.length ≤ s.size + 1 := by rw [hpt]; exact pt_length s
    obtain ⟨r, hr⟩ : ∃ r, r = rooted (dl s) := ⟨_, rfl⟩
    have HRr := Lib.hid hr
    have HPT := Lib.hid hpt
    rw [← hr]
    clear ho hr hpt
    have K1z := Lib.hid K1.out.size
    have K2 : Hid (Kept [] w w2) := K1.out.trans hK.out (fun i hi => by simp at hi)
    have B2 := Lib.hid ((hK.out.block _ (block_lt B1.out) (by simp)).trans B1.out)
    clear hK B1 K1
    have c20 : w2.cell? ⟨R2, 0, none⟩ = some (.bool false) := by rw [cell_of_row w2 R2 0 _ _ (0, 0) B2.out]; rfl
    have c21 : w2.cell? ⟨R2, 1, none⟩ = some (.slice none 0 0) := by rw [cell_of_row w2 R2 1 _ _ (0, 0) B2.out]; rfl
    have f2 : ∀ i, w2.frozen? ⟨R2, i, none⟩ = false := fun i => by have := B2.out; simp [World.frozen?, this]
    have hlt := block_lt B2.out
    obtain ⟨w3, hw3⟩ : ∃ w3, w3 = w2.alloc (.cells #[.bool r, .slice pa ps.length pc] 28) := ⟨_, rfl⟩
    have K3 : Hid (Kept [] w2 w3) := by rw [hw3]; exact (Kept.refl _ _).alloc _
    have LP := Lib.hid (Lst.kept hR.out.lst K3.out (fun _ _ _ _ hm => by simp at hm))
    have SH := Lib.hid (shortened_any w3 r _ ps LP.out (by omega))
    have HW3 := Lib.hid hw3
    go_wp2_with fail
    rw [← HW3.out]
    refine SH.out.mono ?_
    rintro e w4 ⟨v, rfl, hR4, hK4⟩
    obtain ⟨va, vc, rfl⟩ := own_slice hR4.out
    have hj4 : (jin (sho r ps)).size ≤ 4294967296 := by rw [HPT.out]; have := jin_pt s r; omega
    have hl4 := sho_length r ps
    have JN := Lib.hid (join_any w4 r _ (sho r ps) hR4.out.lst (by omega) hj4)
    have K4 : Hid (Kept [] w w4) := (K2.out.trans K3.out (fun i hi => by simp at hi)).trans hK4.out (fun i hi => by simp at hi)
    have K24 : Hid (Kept [] w2 w4) := K3.out.trans hK4.out (fun i hi => by simp at hi)
    have B3 : Hid (w3.heap[w2.heap.size]? = some (.cells #[.bool r, .slice pa ps.length pc] 28 (0, 0))) := by rw [HW3.out]; exact heap_alloc_new w2 _
    have B4 := Lib.hid ((hK4.out.block _ (block_lt B3.out) (by simp)).trans B3.out)
    clear hj4 hl4 c20 c21 f2 hw3 SH LP
    go_wp2_with fail
    refine JN.out.mono ?_
    rintro e w5 ⟨rfl, k5⟩
    have K5 : Hid (Kept [] w w5) := K4.out.trans k5 (fun i hi => by simp at hi)
    have K25 : Hid (Kept [] w2 w5) := K24.out.trans k5 (fun i hi => by simp at hi)
    have B5 := Lib.hid ((k5.block _ (block_lt B4.out) (by simp)).trans B4.out)
    have B52 := Lib.hid ((K25.out.block _ (block_lt B2.out) (by simp)).trans B2.out)
    have R5 : Hid (Row w5 w.heap.size (.slice pa ps.length pc) ps) := Row.kept (B := w.heap.size) (World.ownsRow.mono hR.out K1z.out) K25.out (fun _ _ hm => by simp at hm)
    obtain ⟨Rp, hRp⟩ : ∃ R, R = w2.heap.size := ⟨_, rfl⟩
    rw [← hRp] at B5
    rw [← hRp]
    have NE : Hid (R2 ≠ Rp) := by show R2 ≠ Rp; omega
    have d0 : w5.cell? ⟨Rp, 0, none⟩ = some (.bool r) := by rw [cell_of_row w5 Rp 0 _ _ (0, 0) B5.out]; rfl
    have d1 : w5.cell? ⟨Rp, 1, none⟩ = some (.slice pa ps.length pc) := by rw [cell_of_row w5 Rp 1 _ _ (0, 0) B5.out]; rfl
    have c20 : w5.cell? ⟨R2, 0, none⟩ = some (.bool false) := by rw [cell_of_row w5 R2 0 _ _ (0, 0) B52.out]; rfl
    have c21 : w5.cell? ⟨R2, 1, none⟩ = some (.slice none 0 0) := by rw [cell_of_row w5 R2 1 _ _ (0, 0) B52.out]; rfl
    have f2 : ∀ i, w5.frozen? ⟨R2, i, none⟩ = false := fun i => by have := B52.out; simp [World.frozen?, this]
    have hcl : joi r (sho r ps) = clf s := by rw [HRr.out, HPT.out]; rfl
    rw [hcl]
    have UE : Hid (ucl s = ((clf s).toList == s.toList)) := by show _ = _; unfold ucl; rw [HO.out]; rfl
    have p23 := Lib.hid (path_set (r := r) (v := .slice pa ps.length pc) B52.out K5.out HR2.out)
    have p24 := Lib.hid (path_set (r := false) (v := .slice none 0 0) B52.out K5.out HR2.out)
    have FAR : Hid (∀ b, (Value.slice pa ps.length pc).ownBlock = some b → b ≠ R2) := own_ne R5.out B52.out (by decide)
    clear hRp k5 hlt hcl JN
    cases hb : (clf s).toList == s.toList with
    | true =>
      have U : ucl s = true := by rw [UE.out, hb]
      have UH := Lib.hid U
      clear U UE
      go_wp2_with fail
      clear c20 c21 f2 d0 d1
      obtain ⟨p1, p2, p3⟩ := p23.out
      obtain ⟨WF, hWF⟩ : ∃ WF, WF = (w5.setCell ⟨R2, 0, none⟩ (.bool r)).setCell ⟨R2, 1, none⟩ (.slice pa ps.length pc) := ⟨_, rfl⟩
      rw [← hWF] at p1 p2 p3 ⊢
      have d0 : WF.cell? ⟨R2, 0, none⟩ = some (.bool r) := by rw [cell_of_row WF R2 0 _ _ (0, 0) p1]; rfl
      have d1 : WF.cell? ⟨R2, 1, none⟩ = some (.slice pa ps.length pc) := by rw [cell_of_row WF R2 1 _ _ (0, 0) p1]; rfl
      have RF := R5.out.kept p3 (fun b hb hm => by simp at hm; exact FAR.out b hb hm)
      rw [HPT.out] at RF
      refine ⟨rfl, .tuple #[.agg #[.bool r, .slice pa ps.length pc], .bool true], ?_, Or.inl ⟨UH.out, .slice pa ps.length pc, by rw [← HRr.out], by rw [HPT.out]; exact RF, p2⟩⟩
      simp [results, Tryd.f30, go_sem, d0, d1]
    | false =>
      have U : ucl s = false := by rw [UE.out, hb]
      have UH := Lib.hid U
      clear U UE
      go_wp2_with fail
      clear c20 c21 f2 d0 d1
      obtain ⟨p1, p2, p3⟩ := p24.out
      obtain ⟨WF, hWF⟩ : ∃ WF, WF = (w5.setCell ⟨R2, 0, none⟩ (.bool false)).setCell ⟨R2, 1, none⟩ (.slice none 0 0) := ⟨_, rfl⟩
      rw [← hWF] at p1 p2 p3 ⊢
      have d0 : WF.cell? ⟨R2, 0, none⟩ = some (.bool false) := by rw [cell_of_row WF R2 0 _ _ (0, 0) p1]; rfl
      have d1 : WF.cell? ⟨R2, 1, none⟩ = some (.slice none 0 0) := by rw [cell_of_row WF R2 1 _ _ (0, 0) p1]; rfl
      refine ⟨rfl, .tuple #[.agg #[.bool false, .slice none 0 0], .bool false], ?_, Or.inr ⟨UH.out, rfl, p2⟩⟩
      simp [results, Tryd.f30, go_sem, d0, d1]
  · have U : ucl s = false := by unfold ucl; rw [ho]; rfl
    have UH := Lib.hid U
    have K2 : Hid (Kept [] w w2) := K1.out.trans hK.out (fun i hi => by simp at hi)
    have B2 := Lib.hid ((hK.out.block _ (block_lt B1.out) (by simp)).trans B1.out)
    have c20 : w2.cell? ⟨R2, 0, none⟩ = some (.bool false) := by rw [cell_of_row w2 R2 0 _ _ (0, 0) B2.out]; rfl
    have c21 : w2.cell? ⟨R2, 1, none⟩ = some (.slice none 0 0) := by rw [cell_of_row w2 R2 1 _ _ (0, 0) B2.out]; rfl
    have f2 : ∀ i, w2.frozen? ⟨R2, i, none⟩ = false := fun i => by have := B2.out; simp [World.frozen?, this]
    have hlt := block_lt B2.out
    clear ho U hK B1 K1
    go_wp2_with fail
    obtain ⟨p1, p2, -⟩ := path_set (r := false) (v := .slice none 0 0) B2.out K2.out HR2.out
    obtain ⟨WX, hWX⟩ : ∃ WX, WX = (w2.setCell ⟨R2, 0, none⟩ (.bool false)).setCell ⟨R2, 1, none⟩ (.slice none 0 0) := ⟨_, rfl⟩
    rw [← hWX] at p1 p2 ⊢
    obtain ⟨WF, hWF⟩ : ∃ WF, WF = WX.alloc (.cells #[.bool false, .slice none 0 0] 28) := ⟨_, rfl⟩
    have b3 : WF.heap[R2]? = some (.cells #[.bool false, .slice none 0 0] 28 (0, 0)) := by rw [hWF]; exact (Below.heap_alloc _ _ _ (block_lt p1)).trans p1
    have k3 : Kept [] w WF := by rw [hWF]; exact p2.alloc _
    have d0 : WF.cell? ⟨R2, 0, none⟩ = some (.bool false) := by rw [cell_of_row WF R2 0 _ _ (0, 0) b3]; rfl
    have d1 : WF.cell? ⟨R2, 1, none⟩ = some (.slice none 0 0) := by rw [cell_of_row WF R2 1 _ _ (0, 0) b3]; rfl
    rw [← hWF]
    refine ⟨rfl, .tuple #[.agg #[.bool false, .slice none 0 0], .bool false], ?_, Or.inr ⟨UH.out, rfl, k3⟩⟩
    simp [results, Tryd.f30, go_sem, d0, d1]

/-- Are the first ones these? -/
def bgn (ps fs : List ByteArray) : Bool := decide (fs.length ≤ ps.length ∧ ps.take fs.length = fs)
set_option maxHeartbeats 8000000 in
set_option maxRecDepth 100000 in
theorem beginWith_any (w : World) (v1 v2 : Value) (ps fs : List ByteArray) (h1 : Lst w v1 ps) (h2 : Lst w v2 fs) (hl : ps.length ≤ 1073741825) (hl2 : fs.length ≤ 1073741825) :
    Calls Tryd.prog 31 #[v1, v2] w fun e w' => e = .returned (.bool (bgn ps fs)) ∧ ∃ q, w' = w.drewN q := by
  obtain ⟨a1, c1, rfl, hc1, hh1⟩ := h1
  obtain ⟨a2, c2, rfl, hc2, hh2⟩ := h2
  obtain ⟨z, hz⟩ : ∃ z, z = bgn ps fs := ⟨_, rfl⟩
  have HZ := Lib.hid hz
  rw [← hz]
  clear hz
  by_cases hle : fs.length ≤ ps.length
  · have EQ : Hid (Calls Tryd.prog 50 #[.slice a1 fs.length c1, .slice a2 fs.length c2] w fun e w' => e = .returned (.bool z) ∧ ∃ q, w' = w.drewN q) := by
      show Calls _ _ _ _ _
      by_cases h0 : fs = []
      · have e1 : z = true := by rw [HZ.out, h0]; simp [bgn]
        subst h0
        refine (Tryd.slices_Equal_string_empty a1 a2 c1 0 c2 w (by omega)).mono ?_
        rintro e w2 ⟨rfl, rfl⟩
        exact ⟨by rw [e1]; rfl, 0, rfl⟩
      · have hp0 : ps ≠ [] := fun e => by rw [e] at hle; simp at hle; exact h0 hle
        rcases hh1 with e | ⟨b1, o1, rfl, hb1, g1⟩
        · exact absurd e hp0
        rcases hh2 with e | ⟨b2, o2, rfl, hb2, g2⟩
        · exact absurd e h0
        refine (Tryd.slices_Equal_string b1 o1 fs.length c1 b2 o2 fs.length c2 ps fs w hle (Nat.le_refl _) (by omega) (by omega) (fun j hj => ?_) (fun j hj => ?_)).mono ?_
        · exact g1 j _ (by simp [List.getD, hj])
        · exact g2 j _ (by simp [List.getD, hj])
        · rintro e w2 ⟨rfl, q, rfl⟩
          refine ⟨?_, q, rfl⟩
          rw [HZ.out, List.take_length]
          unfold bgn
          simp [hle]
    clear hh1 hh2
    go_enter Tryd.func31, Tryd.ntmps31
    go_wp2_with fail
    refine EQ.out.mono ?_
    rintro e w2 ⟨rfl, q, rfl⟩
    go_wp2_with fail
    go_ret
    exact ⟨rfl, q, rfl⟩
  · have e1 : z = false := by rw [HZ.out]; unfold bgn; simp; omega
    have E1 := Lib.hid e1
    clear hh1 hh2 e1
    go_enter Tryd.func31, Tryd.ntmps31
    go_wp2_with fail
    go_ret
    exact ⟨by rw [E1.out]; rfl, 0, rfl⟩
end Nm
end Go.Proofs.YtjdhgeikbkjnoaaDoor
