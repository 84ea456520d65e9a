/- names' Split walked. -/
import Derived.Test.YtjdhgeikbkjnoaaDoorSpl
import Derived.Test.YtjdhgeikbkjnoaaDoorLaw
import Derived.Deep.RegionHeld
import Derived.Deep.Onto
import Derived.Outline
namespace Go.Proofs.YtjdhgeikbkjnoaaDoor
set_option linter.unusedVariables false
open Go.RowKit Go.Shelf
attribute [local go_sem] Oper.semAt_some
namespace Nm
open Go.Proofs.YtjdhgeikbkjnoaaDoor.Utf Go.Proofs.YtjdhgeikbkjnoaaDoor.Txt Go.PlainAid

theorem info_s : (Tryd.prog.info? 9).map (fun i => (i.zero, i.size, i.bytes)) = some (some (.string ⟨#[]⟩), 1, 16) := by kernel_rfl
/-- What Split tells. -/
def SplitOut (w : World) (s : ByteArray) (e : Ending) (w' : World) : Prop :=
  (okl (dl s) = true ∧ ∃ pv xs, e = .returned (.tuple #[.agg #[.bool (rooted (dl s)), pv], .int .i64 0]) ∧ Hid (Row w' w.heap.size pv xs) ∧ Hid (xs.map dl = parts (dl s)) ∧ Hid (Kept [] w w')) ∨
  (okl (dl s) = false ∧ e = .returned (.tuple #[.agg #[.bool false, .slice none 0 0], .int .i64 51]) ∧ Hid (Kept [] w w'))
theorem own_slice {w : World} {base : Nat} {e : TypeId} {size : Nat} {v : Value} {n : Nat} {xs : List Value} (h : w.ownsRow base e size v n xs) : ∃ a c, v = .slice a n c := by
  rcases h.2 with ⟨rfl, rfl⟩ | ⟨g, cap, cur, rfl, _⟩
  · exact ⟨_, _, rfl⟩
  · exact ⟨_, _, rfl⟩

set_option maxHeartbeats 8000000 in
set_option maxRecDepth 100000 in
theorem split_any (w : World) (s : ByteArray) (hs : s.size ≤ 1073741824) :
    Calls Tryd.prog 12 #[.string s] w (SplitOut w s) := by
  obtain ⟨i0, hi0, hz00, hz01, hz02⟩ := info_parts info_s
  refine (callsIn_wide (n := 4)).1 ?_
  refine callsIn_of_wp_marks Tryd.func12 rfl trivial ?_ rfl
  simp only [Tryd.ntmps12, List.size_toArray, List.length_cons, List.length_nil, Nat.reduceAdd, Nat.reduceSub, Array.replicate_succ, Array.replicate_zero, List.push_toArray, List.append_toArray, List.nil_append, List.cons_append]
  have PRE := Lib.hid (fun w => Tryd.strings_HasPrefix s ⟨#[47]⟩ w)
  have SEQ := Lib.hid (fun w => splitSeq_any w s)
  gi_wp2_with fail
  obtain ⟨R3, hR3⟩ : ∃ R, R = w.heap.size + 1 := ⟨_, rfl⟩
  obtain ⟨R2, hR2⟩ : ∃ R, R = w.heap.size := ⟨_, rfl⟩
  obtain ⟨w1, hw1⟩ : ∃ w1, w1 = (w.alloc (.cells #[.bool false, .slice none 0 0] 28)).alloc (.cells #[.int .i64 0] 23) := ⟨_, rfl⟩
  have k1 : Kept [] w w1 := by rw [hw1]; exact ((Kept.refl _ _).alloc _).alloc _
  have hz1 : w1.heap.size = w.heap.size + 2 := by rw [hw1]; simp
  have b2 : w1.heap[R2]? = some (.cells #[.bool false, .slice none 0 0] 28 (0, 0)) := by
    rw [hw1, hR2]
    exact (Below.heap_alloc _ _ _ (by simp)).trans (heap_alloc_new w _)
  have b3 : w1.heap[R3]? = some (.cells #[.int .i64 0] 23 (0, 0)) := by
    rw [hw1, hR3]
    have := heap_alloc_new (w.alloc (.cells #[.bool false, .slice none 0 0] 28)) (.cells #[.int .i64 0] 23)
    rwa [World.size_alloc] at this
  rw [← hw1, ← hR3, ← hR2]
  clear hw1
  refine ⟨trivial, (callsIn_wide.2 (PRE.out w1)).mono ?_⟩
  rintro e w2 ⟨rfl, rfl⟩
  obtain ⟨r, hr⟩ : ∃ r, r = Lib.hasPrefix s.data.toList [47] := ⟨_, rfl⟩
  have HR := Lib.hid hr
  rw [← hr]
  have PZ := Lib.hid (And.intro hR2 (And.intro hR3 hz1))
  have K1 := Lib.hid k1
  have B2h := Lib.hid b2
  have B3h := Lib.hid b3
  clear hr PRE hR2 hR3 hz1 k1 b2 b3
  gi_wp2_with fail
  obtain ⟨Pb, hPb⟩ : ∃ P, P = w2.heap.size := ⟨_, rfl⟩
  obtain ⟨w3, hw3⟩ : ∃ w3, w3 = w2.alloc (.cells #[.bool r, .slice none 0 0] 28) := ⟨_, rfl⟩
  have k3 : Kept [] w2 w3 := by rw [hw3]; exact (Kept.refl _ _).alloc _
  have b3p : w3.heap[Pb]? = some (.cells #[.bool r, .slice none 0 0] 28 (0, 0)) := by rw [hw3, hPb]; exact heap_alloc_new w2 _
  rw [← hw3, ← hPb]
  have HPb := Lib.hid hPb
  clear hw3 hPb
  refine ⟨trivial, (callsIn_wide.2 (SEQ.out w3)).mono ?_⟩
  rintro e w8 ⟨B1, B2, B3, rfl, hsp, k8, hB⟩
  have K8 := Lib.hid k8
  have K38 : Hid (Kept [] w2 w8) := k3.trans k8 (fun i hi => by simp at hi)
  have KW8 : Hid (Kept [] w w8) := K1.out.trans K38.out (fun i hi => by simp at hi)
  have bP : w8.heap[Pb]? = some (.cells #[.bool r, .slice none 0 0] 28 (0, 0)) := (k8.block _ (block_lt b3p) (by simp)).trans b3p
  have b2 : w8.heap[R2]? = some (.cells #[.bool false, .slice none 0 0] 28 (0, 0)) := (K38.out.block _ (block_lt B2h.out) (by simp)).trans B2h.out
  have b3 : w8.heap[R3]? = some (.cells #[.int .i64 0] 23 (0, 0)) := (K38.out.block _ (block_lt B3h.out) (by simp)).trans B3h.out
  have SB : Hid (SpB w w8 B1 B2 B3 Pb R2 R3) := by
    obtain ⟨p1, p2, p3⟩ := PZ.out
    obtain ⟨q1, q2, q3, q4, q5⟩ := hB.out
    have hp := HPb.out
    have z8 := k8.size
    have z3 := block_lt b3p
    refine ⟨⟨by omega, block_lt bP⟩, ⟨by omega, block_lt b2⟩, ⟨by omega, block_lt b3⟩, fun i hi => ?_, ⟨by omega, by omega, by omega⟩, KW8.out.size⟩
    have hl : i < w8.heap.size := by
      simp at hi
      rcases hi with rfl | rfl | rfl
      · exact block_lt hsp.out.sep
      · exact block_lt hsp.out.txt
      · exact block_lt hsp.out.sav
    simp at hi
    omega
  have I0 : ∀ W', Kept [] w8 W' → w8.heap.size + 2 ≤ W'.heap.size → SpI w w8 B1 B2 B3 Pb R2 R3 r [] (.slice none 0 0) [] W' := fun W' k hz =>
    ⟨(k.block _ (block_lt bP) (by simp)).trans bP, World.ownsRow_nil _ _ _ _, rfl, rfl, (fun b hb => by cases hb), (k.block _ (block_lt b2) (by simp)).trans b2, (k.block _ (block_lt b3) (by simp)).trans b3, KW8.out.trans k (fun i hi => by simp at hi), hz, Nat.le_refl _⟩
  have HI0 := Lib.hid I0
  have HBb : Hid (∀ i ∈ [B1, B2, B3], i < w8.heap.size) := fun i hi => (SB.out.b i hi).2.1
  have IT := Lib.hid (splitSeq1_iter 0 w8 B1 B2 B3 s (by omega) hsp ⟨hB.out.2.2.2.1, hB.out.2.2.2.2⟩)
  have HSP := hsp
  clear I0 bP b2 b3 k8 k3 b3p K38 K8 B2h B3h PZ K1 hsp hB SEQ
  gi_wp2_with fail
  have hp8 : w.heap.size ≤ w8.heap.size := SB.out.z
  refine wpIn_rangeFunc_boxed1 (vl := fun x => Value.string x) (sl := 5) rfl (by decide) rfl trivial (enters_of Tryd.func64 (by kernel_rfl) rfl) IT.out (Kept.refl [] w8) HBb.out (fun pre W => ∃ pv xs, SpI w w8 B1 B2 B3 Pb R2 R3 r pre pv xs W) (fun c pre W => c = .ret ∧ okl (dl s) = false ∧ SpE w w8 R2 R3 W)
    (fun s A B h k => by obtain ⟨pv, xs, h⟩ := h; exact ⟨pv, xs, h.turn SB.out k⟩) (fun c s A B h k => ?ix) (fun W' k hz => ⟨_, _, HI0.out W' k hz⟩) ?assign ?body ?done ?stop
  case ix =>
    obtain ⟨h1, h2, h3⟩ := h
    have l2 := SB.out.r2.2
    have l3 := SB.out.r3.2
    exact ⟨h1, h2, (k.block _ (block_lt h3.r2) (by simp; omega)).trans h3.r2, (k.block _ (block_lt h3.r3) (by simp; omega)).trans h3.r3, h3.kept.trans k (fun i hi => by simp at hi; right; omega)⟩
  case assign =>
    intro l x W K hK
    gi_wp2_with fail
    exact hK
  case body =>
    rintro l pre x Wb W hz hI hWW hC
    obtain ⟨pv, xs, hI⟩ := hI
    have hiW := hI.turn SB.out (hWW.mono (T := w8.heap.size :: (w8.heap.size + 1) :: [B1, B2, B3]) (fun i hi => Or.inl (by simp at hi; simp [hi])))
    have hxl : (dl x).length ≤ s.size := by
      have hm : dl x ∈ cut (dl s) := by obtain ⟨t, ht⟩ := hC; rw [← ht]; simp
      have := cut_len_le (dl s) (dl x) hm
      rw [dl_length] at this
      exact this
    rw [dl_length] at hxl
    have hpl : pre.length + 1 ≤ s.size + 1 := by
      have h1 := hC.length_le
      have h2 := cut_length (dl s)
      rw [dl_length] at h2
      rw [List.length_map, List.length_append] at h1
      simp at h1
      omega
    have hxs := hiW.len
    obtain ⟨pa, pc, rfl⟩ := own_slice hiW.row
    have cp1 : W.cell? ⟨Pb, 1, none⟩ = some (.slice pa xs.length pc) := by rw [cell_of_row W Pb 1 _ _ (0, 0) hiW.box]; rfl
    have fp : ∀ i, W.frozen? ⟨Pb, i, none⟩ = false := fun i => by simp [World.frozen?, hiW.box]
    have T := toList_dl x
    have CHK := Lib.hid (check_any W x (by omega))
    have HI := Lib.hid hiW
    have HC := Lib.hid hC
    clear hI hWW hz hC hiW
    by_cases h1 : x.toList = []
    · have hk : keep (dl x) = false := by rw [← T, h1]; rfl
      have ST := Lib.hid (HI.out.skip hk)
      clear T hk
      gi_wp2_with fail
      exact ⟨⟨[], Kept.refl _ _, fun i hi => by simp at hi⟩, _, _, ST.out⟩
    by_cases h2 : x.toList = [46]
    · have hk : keep (dl x) = false := by rw [← T, h2]; rfl
      have ST := Lib.hid (HI.out.skip hk)
      clear T hk
      gi_wp2_with fail
      exact ⟨⟨[], Kept.refl _ _, fun i hi => by simp at hi⟩, _, _, ST.out⟩
    have b1 : x.toList.isEmpty = false := by rw [List.isEmpty_eq_false_iff]; exact h1
    have b2 : (x.toList == [46]) = false := by rw [beq_eq_false_iff_ne]; exact h2
    have hk : keep (dl x) = true := by unfold keep; rw [← T, b1, b2]; rfl
    by_cases h3 : x.toList = [46, 46]
    · have ho : okp (dl x) = true := by unfold okp; rw [← T, h3]; rfl
      have b3 : (x.toList == [46, 46]) = true := by rw [beq_iff_eq]; exact h3
      have HII := HI
      obtain ⟨WW, hWW⟩ : ∃ WW, WW = W := ⟨_, rfl⟩
      subst hWW
      clear T h1 h2 CHK
      gi_wp2_with fail
      refine ⟨trivial, ?_⟩
      rename_i Kx hKx
      refine hKx _ _ ?_
      clear hKx
      gi_wp2_with (gi_at_builtin; refine wpListIn_append_src (WW.alloc (.cells #[.string x] 9)) rfl (.tmp 27) (.tmp 29) 26 rfl w.heap.size 9 i0 (.string ⟨#[]⟩) 1 16 Tryd.underlying26 hi0 hz00 hz01 hz02 rfl (by decide) (.slice pa xs.length pc) xs.length (xs.map sv) rfl (HII.out.row.alloc _) (.slice (some ⟨WW.heap.size, 0, none⟩) 1 1) 1 [.string x] rfl (Or.inr ⟨_, _, rfl, World.news_of_block (cs := #[.string x]) (by exact heap_alloc_new WW _)⟩) rfl (by intro u hu; simp at hu; subst hu; rfl) (by unfold maxLen; omega) (by omega) (by have := HII.out.kept.size; simp; omega) ?_; intro v2 w6 hown2 hgrow2 hat2; obtain ⟨qa, qc, rfl⟩ := own_slice hown2; obtain ⟨SI, SK, SH⟩ := HII.out.push SB.out hk ho rfl hown2 hgrow2 hat2; have SIh := Lib.hid SI; have SKh := Lib.hid SK; have fp6 : ∀ i, w6.frozen? ⟨Pb, i, none⟩ = false := (fun i => by simp [World.frozen?, SH]); have f61 := fp6 1; have cq1 : w6.cell? ⟨Pb, 1, none⟩ = some (.slice pa xs.length pc) := (by rw [cell_of_row w6 Pb 1 _ _ (0, 0) SH]; rfl); clear hown2 hgrow2 hat2 SI SK SH fp6)
      exact ⟨SKh.out, _, _, SIh.out⟩
    have b3 : (x.toList == [46, 46]) = false := by rw [beq_eq_false_iff_ne]; exact h3
    cases hc : chk x with
    | true =>
      have ho : okp (dl x) = true := by unfold okp; rw [of_dl, hc]; simp
      rw [hc] at CHK
      have CHK2 : Hid (Calls Tryd.prog 28 #[.string x] W fun e w' => e = .returned (.int .i64 0) ∧ Kept [] W w') := CHK.out
      clear T h1 h2 h3 CHK hc
      gi_wp2_with fail
      refine ⟨trivial, (CallsIn.inRound l (callsIn_wide.2 CHK2.out)).mono ?_⟩
      rintro e WW ⟨rfl, kW⟩
      have HII := Lib.hid (HI.out.pure kW)
      have cp2 : WW.cell? ⟨Pb, 1, none⟩ = some (.slice pa xs.length pc) := by rw [cell_of_row WW Pb 1 _ _ (0, 0) HII.out.box]; rfl
      have KWW := Lib.hid kW
      clear kW cp1 fp CHK2
      gi_wp2_with (gi_at_builtin; refine wpListIn_append_src (WW.alloc (.cells #[.string x] 9)) rfl (.tmp 27) (.tmp 29) 26 rfl w.heap.size 9 i0 (.string ⟨#[]⟩) 1 16 Tryd.underlying26 hi0 hz00 hz01 hz02 rfl (by decide) (.slice pa xs.length pc) xs.length (xs.map sv) rfl (HII.out.row.alloc _) (.slice (some ⟨WW.heap.size, 0, none⟩) 1 1) 1 [.string x] rfl (Or.inr ⟨_, _, rfl, World.news_of_block (cs := #[.string x]) (by exact heap_alloc_new WW _)⟩) rfl (by intro u hu; simp at hu; subst hu; rfl) (by unfold maxLen; omega) (by omega) (by have := HII.out.kept.size; simp; omega) ?_; intro v2 w6 hown2 hgrow2 hat2; obtain ⟨qa, qc, rfl⟩ := own_slice hown2; obtain ⟨SI, SK, SH⟩ := HII.out.push SB.out hk ho rfl hown2 hgrow2 hat2; have SIh := Lib.hid SI; have SKh := Lib.hid SK; have fp6 : ∀ i, w6.frozen? ⟨Pb, i, none⟩ = false := (fun i => by simp [World.frozen?, SH]); have f61 := fp6 1; have cq1 : w6.cell? ⟨Pb, 1, none⟩ = some (.slice pa xs.length pc) := (by rw [cell_of_row w6 Pb 1 _ _ (0, 0) SH]; rfl); clear hown2 hgrow2 hat2 SI SK SH fp6)
      obtain ⟨S, kS, hS⟩ := SKh.out
      exact ⟨⟨S, (KWW.out.mono (fun i hi => by simp at hi)).trans kS (fun i hi => Or.inl hi), hS⟩, _, _, SIh.out⟩
    | false =>
      have ho : okp (dl x) = false := by unfold okp; rw [of_dl, hc, ← T, b3]; rfl
      have HF := Lib.hid (okl_false HC.out hk ho)
      rw [hc] at CHK
      have CHK2 : Hid (Calls Tryd.prog 28 #[.string x] W fun e w' => e = .returned (.int .i64 50) ∧ Kept [] W w') := CHK.out
      clear T h1 h2 h3 CHK hc
      gi_wp2_with fail
      refine ⟨trivial, (CallsIn.inRound l (callsIn_wide.2 CHK2.out)).mono ?_⟩
      rintro e WW ⟨rfl, kW⟩
      have HII := Lib.hid (HI.out.pure kW)
      have KWW := Lib.hid kW
      have l2 := HII.out.r2
      have l3 := HII.out.r3
      have f2 : ∀ i, WW.frozen? ⟨R2, i, none⟩ = false := fun i => by simp [World.frozen?, l2]
      have f3 : ∀ i, WW.frozen? ⟨R3, i, none⟩ = false := fun i => by simp [World.frozen?, l3]
      have c20 : WW.cell? ⟨R2, 0, none⟩ = some (.bool false) := by rw [cell_of_row WW R2 0 _ _ (0, 0) l2]; rfl
      have c21 : WW.cell? ⟨R2, 1, none⟩ = some (.slice none 0 0) := by rw [cell_of_row WW R2 1 _ _ (0, 0) l2]; rfl
      have c30 : WW.cell? ⟨R3, 0, none⟩ = some (.int .i64 0) := by rw [cell_of_row WW R3 0 _ _ (0, 0) l3]; rfl
      have ne23 := SB.out.ne.2.2
      have c32 : (WW.setCell ⟨R2, 0, none⟩ (.bool false)).cell? ⟨R3, 0, none⟩ = some (.int .i64 0) := by rw [World.cell?_setCell_far _ _ _ _ ne23]; exact c30
      have NE := Lib.hid ne23
      have L2h := Lib.hid l2
      have L3h := Lib.hid l3
      clear kW cp1 fp CHK2 l2 l3 ne23
      gi_wp2_with fail
      obtain ⟨r21, r22⟩ := SB.out.r2
      obtain ⟨r31, r32⟩ := SB.out.r3
      have kk : Kept [R2, R3] W (((WW.setCell ⟨R2, 0, none⟩ (.bool false)).setCell ⟨R2, 1, none⟩ (.slice none 0 0)).setCell ⟨R3, 0, none⟩ (.int .i64 51)) :=
        (((KWW.out.mono (T := [R2, R3]) (fun i hi => by simp at hi)).setCell (p := ⟨R2, 0, none⟩) (Or.inl (by simp)) _).setCell (p := ⟨R2, 1, none⟩) (Or.inl (by simp)) _).setCell (p := ⟨R3, 0, none⟩) (Or.inl (by simp)) _
      have kk0 : Kept [] w (((WW.setCell ⟨R2, 0, none⟩ (.bool false)).setCell ⟨R2, 1, none⟩ (.slice none 0 0)).setCell ⟨R3, 0, none⟩ (.int .i64 51)) :=
        ((HII.out.kept.setCell (p := ⟨R2, 0, none⟩) (Or.inr r21) _).setCell (p := ⟨R2, 1, none⟩) (Or.inr r21) _).setCell (p := ⟨R3, 0, none⟩) (Or.inr r31) _
      have e2 := heap_set (i := 1) (Value.slice none 0 0) (heap_set (i := 0) (Value.bool false) L2h.out)
      have e3 : ((WW.setCell ⟨R2, 0, none⟩ (.bool false)).setCell ⟨R2, 1, none⟩ (.slice none 0 0)).heap[R3]? = some (.cells #[.int .i64 0] 23 (0, 0)) :=
        (Below.heap_setCell _ _ _ _ (fun h => NE.out h.symm)).trans ((Below.heap_setCell _ _ _ _ (fun h => NE.out h.symm)).trans L3h.out)
      refine ⟨⟨[R2, R3], kk, fun i hi => ?_⟩, rfl, HF.out, ⟨(Below.heap_setCell _ _ _ _ NE.out).trans (by simpa using e2), by simpa using heap_set (i := 0) (Value.int .i64 51) e3, kk0⟩⟩
      simp at hi
      omega
  case done =>
    rintro ps W ⟨pv, xs, hI⟩ hS hD
    obtain ⟨pa, pc, rfl⟩ := own_slice hI.row
    have l1 := hI.box
    have l2 := hI.r2
    have l3 := hI.r3
    have f1 : ∀ i, W.frozen? ⟨Pb, i, none⟩ = false := fun i => by simp [World.frozen?, l1]
    have f2 : ∀ i, W.frozen? ⟨R2, i, none⟩ = false := fun i => by simp [World.frozen?, l2]
    have f3 : ∀ i, W.frozen? ⟨R3, i, none⟩ = false := fun i => by simp [World.frozen?, l3]
    have c10 : W.cell? ⟨Pb, 0, none⟩ = some (.bool r) := by rw [cell_of_row W Pb 0 _ _ (0, 0) l1]; rfl
    have c11 : W.cell? ⟨Pb, 1, none⟩ = some (.slice pa xs.length pc) := by rw [cell_of_row W Pb 1 _ _ (0, 0) l1]; rfl
    have c20 : W.cell? ⟨R2, 0, none⟩ = some (.bool false) := by rw [cell_of_row W R2 0 _ _ (0, 0) l2]; rfl
    have c21 : W.cell? ⟨R2, 1, none⟩ = some (.slice none 0 0) := by rw [cell_of_row W R2 1 _ _ (0, 0) l2]; rfl
    have c30 : W.cell? ⟨R3, 0, none⟩ = some (.int .i64 0) := by rw [cell_of_row W R3 0 _ _ (0, 0) l3]; rfl
    have ne23 := SB.out.ne.2.2
    have c32 : (W.setCell ⟨R2, 0, none⟩ (.bool r)).cell? ⟨R3, 0, none⟩ = some (.int .i64 0) := by rw [World.cell?_setCell_far _ _ _ _ ne23]; exact c30
    have HI := Lib.hid hI
    have HS := Lib.hid hS
    have HD := Lib.hid hD
    have NE := Lib.hid ne23
    have R2h := Lib.hid SB.out.r2
    have R3h := Lib.hid SB.out.r3
    clear hI hS hD l1 l2 l3 ne23
    gi_wp2_with fail
    clear c10 c11 c20 c21 c30 c32 f1 f2 f3
    obtain ⟨r21, r22⟩ := R2h.out
    obtain ⟨r31, r32⟩ := R3h.out
    have l2 := HI.out.r2
    have l3 := HI.out.r3
    obtain ⟨WF, hWF⟩ : ∃ WF, WF = ((W.setCell ⟨R2, 0, none⟩ (.bool r)).setCell ⟨R2, 1, none⟩ (.slice pa xs.length pc)).setCell ⟨R3, 0, none⟩ (.int .i64 0) := ⟨_, rfl⟩
    have kW : Kept [R2, R3] W WF := by
      rw [hWF]
      exact (((Kept.refl _ W).setCell (p := ⟨R2, 0, none⟩) (Or.inl (by simp)) _).setCell (p := ⟨R2, 1, none⟩) (Or.inl (by simp)) _).setCell (p := ⟨R3, 0, none⟩) (Or.inl (by simp)) _
    have e2 : WF.heap[R2]? = some (.cells #[.bool r, .slice pa xs.length pc] 28 (0, 0)) := by
      rw [hWF]
      exact (Below.heap_setCell _ _ _ _ NE.out).trans (by simpa using heap_set (i := 1) (Value.slice pa xs.length pc) (heap_set (i := 0) (Value.bool r) l2))
    have e3 : WF.heap[R3]? = some (.cells #[.int .i64 0] 23 (0, 0)) := by
      rw [hWF]
      have e3 : ((W.setCell ⟨R2, 0, none⟩ (.bool r)).setCell ⟨R2, 1, none⟩ (.slice pa xs.length pc)).heap[R3]? = some (.cells #[.int .i64 0] 23 (0, 0)) :=
        (Below.heap_setCell _ _ _ _ (fun h => NE.out h.symm)).trans ((Below.heap_setCell _ _ _ _ (fun h => NE.out h.symm)).trans l3)
      simpa using heap_set (i := 0) (Value.int .i64 0) e3
    have hDF : WF.heap[w8.heap.size]? = some (.deferred (some [])) := (kW.block _ (block_lt HD.out) (by simp; omega)).trans HD.out
    rw [← hWF]
    refine ⟨by simp, .inl ⟨_, _, rfl, run_takeDeferred hDF, ?_⟩⟩
    obtain ⟨WG, hWG⟩ : ∃ WG, WG = WF.putObj w8.heap.size (.deferred none) := ⟨_, rfl⟩
    have kG : Kept [w8.heap.size] WF WG := by rw [hWG]; exact (Kept.refl _ WF).putObj _ (Or.inl (by simp))
    have g2 := (kG.block _ (block_lt e2) (by simp; omega)).trans e2
    have g3 := (kG.block _ (block_lt e3) (by simp; omega)).trans e3
    have c20 : WG.cell? ⟨R2, 0, none⟩ = some (.bool r) := by rw [cell_of_row WG R2 0 _ _ (0, 0) g2]; rfl
    have c21 : WG.cell? ⟨R2, 1, none⟩ = some (.slice pa xs.length pc) := by rw [cell_of_row WG R2 1 _ _ (0, 0) g2]; rfl
    have c30 : WG.cell? ⟨R3, 0, none⟩ = some (.int .i64 0) := by rw [cell_of_row WG R3 0 _ _ (0, 0) g3]; rfl
    rw [← hWG]
    clear hWG hWF
    refine ⟨.tuple #[.agg #[.bool r, .slice pa xs.length pc], .int .i64 0], ?_, Or.inl ⟨?_, .slice pa xs.length pc, xs, ?_, ?_, ?_, ?_⟩⟩
    · simp [results, Tryd.f12, go_sem, c20, c21, c30]
    · have := HI.out.ok
      rw [HS.out] at this
      exact this
    · have e : rooted (dl s) = r := HR.out.symm
      rw [e]
    · exact (HI.out.row.kept kW (fun b hb => by have := HI.out.far b hb; simp; omega)).kept kG (fun b hb => by have := HI.out.far b hb; simp; omega)
    · have := HI.out.eq
      rw [HS.out] at this
      exact this
    · have hz := SB.out.z
      exact (HI.out.kept.trans kW (fun i hi => by simp at hi; right; omega)).trans kG (fun i hi => by simp at hi; right; omega)
  case stop =>
    rintro c pre W ⟨rfl, hF, hE⟩ hC hD
    have HF := Lib.hid hF
    have HE := Lib.hid hE
    have HD := Lib.hid hD
    have R2h := Lib.hid SB.out.r2
    have R3h := Lib.hid SB.out.r3
    clear hF hE hD
    gi_wp2_with fail
    obtain ⟨r21, r22⟩ := R2h.out
    obtain ⟨r31, r32⟩ := R3h.out
    refine ⟨by simp, .inl ⟨_, _, rfl, run_takeDeferred HD.out, ?_⟩⟩
    obtain ⟨WG, hWG⟩ : ∃ WG, WG = W.putObj w8.heap.size (.deferred none) := ⟨_, rfl⟩
    have kG : Kept [w8.heap.size] W WG := by rw [hWG]; exact (Kept.refl _ W).putObj _ (Or.inl (by simp))
    have g2 := (kG.block _ (block_lt HE.out.r2) (by simp; omega)).trans HE.out.r2
    have g3 := (kG.block _ (block_lt HE.out.r3) (by simp; omega)).trans HE.out.r3
    have c20 : WG.cell? ⟨R2, 0, none⟩ = some (.bool false) := by rw [cell_of_row WG R2 0 _ _ (0, 0) g2]; rfl
    have c21 : WG.cell? ⟨R2, 1, none⟩ = some (.slice none 0 0) := by rw [cell_of_row WG R2 1 _ _ (0, 0) g2]; rfl
    have c30 : WG.cell? ⟨R3, 0, none⟩ = some (.int .i64 51) := by rw [cell_of_row WG R3 0 _ _ (0, 0) g3]; rfl
    rw [← hWG]
    clear hWG
    refine ⟨.tuple #[.agg #[.bool false, .slice none 0 0], .int .i64 51], ?_, Or.inr ⟨HF.out, rfl, ?_⟩⟩
    · simp [results, Tryd.f12, go_sem, c20, c21, c30]
    · have hz := SB.out.z
      exact HE.out.kept.trans kG (fun i hi => by simp at hi; right; omega)
end Nm
end Go.Proofs.YtjdhgeikbkjnoaaDoor
