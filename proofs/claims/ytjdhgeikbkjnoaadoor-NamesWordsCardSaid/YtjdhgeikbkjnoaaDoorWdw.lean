/- names' Words, where the line is one. -/
import Derived.Test.YtjdhgeikbkjnoaaDoorTrl
import Derived.Test.YtjdhgeikbkjnoaaDoorRdc
import Derived.Defers
import Derived.Recover
import Derived.Laws.Pointers
namespace Go.Proofs.YtjdhgeikbkjnoaaDoor
set_option linter.unusedVariables false
open Go.RowKit Go.Shelf
attribute [local go_sem] Oper.semAt_some
namespace Nm
open Go.Proofs.YtjdhgeikbkjnoaaDoor.Utf Go.Proofs.YtjdhgeikbkjnoaaDoor.Txt Go.PlainAid

theorem words1_idle (p q : Value) (w : World) :
    CallsD Tryd.prog 42 #[p, q] .returning w fun e u' w' => e = .returned (.tuple #[]) ∧ u' = .returning ∧ w' = w := by
  refine callsD_of_wpS Tryd.func42 rfl fun c₀ cs hu => ?_
  apply wpS_seq
  apply wpS_region
  simp [wpOpsS, go_sem, recoverD, hu, Tryd.ntmps42, Exit.thenS]
  refine wpS_cond (t := false) (by simp [Act.eval, Array.replicate]) ?_
  simp only [Bool.false_eq_true, if_false]
  refine wpS_of_wp (wp_skip ?_)
  cases c₀
  simp_all [bodyPostS, results, Tryd.results42]

set_option maxHeartbeats 8000000 in
set_option maxRecDepth 100000 in
theorem skipBlanks_any (w : World) (R : Nat) (s : ByteArray) (h : Rdg w R s) :
    Calls Tryd.prog 43 #[.pointer (some ⟨R, 0, none⟩)] w fun e w' => e = .returned (.tuple #[]) ∧ Kept [R] w w' ∧ ∃ t, dl t = trim (dl s) ∧ Rdg w' R t := by
  have HR := Lib.hid h
  have TL := Lib.hid (fun w => trimLeft_blanks w s)
  obtain ⟨h1, h2, h3⟩ := h.facts
  clear h
  go_enter Tryd.func43, Tryd.ntmps43
  go_wp2_with fail
  refine (TL.out w).mono ?_
  rintro e w2 ⟨rfl, k2⟩
  have H2 := Lib.hid (HR.out.kept k2 (by simp))
  obtain ⟨g1, g2, g3⟩ := H2.out.facts
  have K2 := Lib.hid k2
  clear h1 h2 h3 k2
  go_wp2_with fail
  refine ⟨rfl, .tuple #[], ?_, rfl, (K2.out.mono (T := [R]) (fun i hi => by simp at hi)).setCell (p := ⟨R, 0, none⟩) (Or.inl (by simp)) _, _, dl_toB _, H2.out.set _⟩
  simp [results, Tryd.f43, go_sem]

theorem Wrd.pos {c : UInt8} {l b r : List UInt8} (h : Wrd (c :: l) b r) (hc : blank c = false) : r.length ≤ l.length := by
  cases h with
  | stop _ _ h => rw [h] at hc; cases hc
  | quo l m _ a b hq hw => have := hq.len; have := hw.len; omega
  | byte l _ b _ _ _ hw => have := hw.len; omega
theorem trim_head (l : List UInt8) : ∀ c m, trim l = c :: m → blank c = false := by
  intro c m h
  have := List.head?_dropWhile_not blank l
  unfold trim at h
  rw [h] at this
  simpa using this
theorem trim_length (l : List UInt8) : (trim l).length ≤ l.length := (List.dropWhile_sublist _).length_le

/-- Between two words. -/
structure Wdi (w : World) (R R2 R3 : Nat) (v : Value) (xs : List ByteArray) (s : ByteArray) (W : World) : Prop where
  box : W.heap[R2]? = some (.cells #[v] 26 (0, 0))
  r3 : W.heap[R3]? = some (.cells #[.int .i64 0] 23 (0, 0))
  row : Row W w.heap.size v xs
  rd : Rdg W R s
  kept : Kept [] w W
  lo : w.heap.size ≤ R2 ∧ R2 < R3 ∧ R3 < R
  far : ∀ b, v.ownBlock = some b → R < b
section
variable {w W W1 : World} {R R2 R3 : Nat} {v v' : Value} {xs : List ByteArray} {s t : ByteArray}
theorem Wdi.call0 (h : Wdi w R R2 R3 v xs s W) (k : Kept [R] W W1) (hr : Rdg W1 R t) : Wdi w R R2 R3 v xs t W1 := by
  have h1 := h.lo
  exact ⟨(k.block R2 (block_lt h.box) (by simp; omega)).trans h.box, (k.block R3 (block_lt h.r3) (by simp; omega)).trans h.r3, h.row.kept k (fun b hb hm => by have := h.far b hb; simp at hm; omega), hr, h.kept.trans k (fun i hi => by simp at hi; right; omega), h.lo, h.far⟩
theorem Wdi.call (h : Wdi w R R2 R3 v xs s W) (k : Kept [R] W.drew W1) (hr : Rdg W1 R t) : Wdi w R R2 R3 v xs t W1 := h.call0 (((Kept.refl [R] W).drew).trans k (fun i hi => Or.inl hi)) hr
theorem Wdi.facts (h : Wdi w R R2 R3 v xs s W) : W.cell? ⟨R2, 0, none⟩ = some v ∧ ∀ i, W.frozen? ⟨R2, i, none⟩ = false :=
  ⟨by rw [cell_of_row W R2 0 _ _ (0, 0) h.box]; rfl, fun i => by have := h.box; simp [World.frozen?, this]⟩
theorem Wdi.push (h : Wdi w R R2 R3 v xs s W) {x : ByteArray} {n : Nat} (hn : n = xs.length) (hown : W1.ownsRow w.heap.size 9 1 v' (n + 1) (xs.map sv ++ [sv x])) (hg : (W.alloc (.cells #[sv x] 9)).grownBy W1 v.ownBlock)
    (hat : v'.ownBlock = v.ownBlock ∨ v'.ownBlock = some (W.alloc (.cells #[sv x] 9)).heap.size) :
    Wdi w R R2 R3 v' (xs ++ [x]) s (W1.setCell ⟨R2, 0, none⟩ v') ∧ W1.cell? ⟨R2, 0, none⟩ = some v ∧ ∀ i, W1.frozen? ⟨R2, i, none⟩ = false := by
  subst hn
  have ka : Kept [] W (W.alloc (.cells #[sv x] 9)) := (Kept.refl _ _).alloc _
  have kg : Kept v.ownBlock.toList (W.alloc (.cells #[sv x] 9)) W1 := (Kept.refl _ _).grown hg (fun k e => Or.inl (by rw [e]; simp))
  have k1 : Kept v.ownBlock.toList W W1 := (ka.mono (fun i hi => by simp at hi)).trans kg (fun i hi => Or.inl hi)
  have h1 := h.lo
  have nf : ∀ i, i ≤ R → i ∉ v.ownBlock.toList := fun i hi hm => by have := h.far i (by simpa using hm); omega
  have b2 := (k1.block R2 (block_lt h.box) (nf _ (by omega))).trans h.box
  have b3 := (k1.block R3 (block_lt h.r3) (nf _ (by omega))).trans h.r3
  have br : Rdg W1 R s := (k1.block R (block_lt h.rd) (nf _ (by omega))).trans h.rd
  have hset := heap_set (i := 0) v' b2
  have hfar : ∀ b, v'.ownBlock = some b → R < b := fun b hb => by
    rcases hat with q | q
    · exact h.far b (by rw [← q]; exact hb)
    · rw [q] at hb; cases hb; have := block_lt h.rd; simp; omega
  have ks : Kept [R2] W1 (W1.setCell ⟨R2, 0, none⟩ v') := (Kept.refl _ _).setCell (p := ⟨R2, 0, none⟩) (Or.inl (by simp)) _
  have hrow : Row W1 w.heap.size v' (xs ++ [x]) := by unfold Row; rw [List.length_append, List.map_append]; exact hown
  refine ⟨⟨by simpa using hset, (ks.block R3 (block_lt b3) (by simp; omega)).trans b3, hrow.kept ks (fun b hb hm => by have := hfar b hb; simp at hm; omega), (ks.block R (block_lt br) (by simp; omega)).trans br, ?_, h.lo, hfar⟩, by rw [cell_of_row W1 R2 0 _ _ (0, 0) b2]; rfl, fun i => by simp [World.frozen?, b2]⟩
  refine (h.kept.trans k1 (fun i hi => Or.inr ?_)).trans ks (fun i hi => by simp at hi; right; omega)
  have := h.far i (by simpa using hi)
  omega
end
/-- A piece of code that never panics (for a region that draws). -/
theorem wp_only {P : Program} {c : Code} {K : Act → World → Prop} {Q : Exit → Act → World → Prop} {a : Act} {w : World} (hK : ∀ a w, K a w → Q .normal a w) (h : c.wp P (Exit.then K (fun _ _ _ => False)) a w) : c.wp P Q a w :=
  wp_mono h (fun e a w h => by cases e <;> first | exact hK _ _ h | exact h.elim)
def WdsOut (w : World) (ws : List (List UInt8)) (e : Ending) (w' : World) : Prop := ∃ v, e = .returned (.tuple #[v, .int .i64 0]) ∧ Hid (Row w' w.heap.size v (ws.map toB)) ∧ Hid (Kept [] w w')

set_option maxHeartbeats 8000000 in
set_option maxRecDepth 100000 in
theorem words_ok (w : World) (line : ByteArray) (ws : List (List UInt8)) (hq : Wds (dl line) ws) (hs : line.size ≤ 1073741824) :
    Calls Tryd.prog 23 #[.string line] w (WdsOut w ws) := by
  obtain ⟨i0, hi0, hz00, hz01, hz02⟩ := info_parts info_s
  have hmf : ∀ (fn : Fn) (first cap : Array Value) (w : World), (Instr.makeFunc fn first cap).run Tryd.prog w = .ok (.func fn first cap) w := fun _ _ _ _ => rfl
  have SB := Lib.hid (fun w R s h => skipBlanks_any w R s h)
  have EN := Lib.hid (fun w R s h => ends_any w R s h)
  have WD := Lib.hid (fun w R s h b r hq hb => word_any w R s h b r hq hb)
  have HQ := Lib.hid hq
  clear hq
  go_enter_defers Tryd.func23, Tryd.ntmps23
  go_wp2_with fail
  obtain ⟨w1, hw1⟩ : ∃ w1, w1 = ((w.alloc (.cells #[.slice none 0 0] 26)).alloc (.cells #[.int .i64 0] 23)).alloc (.cells #[.string line] 78) := ⟨_, rfl⟩
  obtain ⟨R, hR⟩ : ∃ R, R = w.heap.size + 1 + 1 := ⟨_, rfl⟩
  obtain ⟨R3, hR3⟩ : ∃ R, R = w.heap.size + 1 := ⟨_, rfl⟩
  obtain ⟨R2, hR2⟩ : ∃ R, R = w.heap.size := ⟨_, rfl⟩
  have I1 : Hid (Wdi w R R2 R3 (.slice none 0 0) [] line w1) := by
    refine ⟨?_, ?_, World.ownsRow_nil _ _ _ _, ?_, by rw [hw1]; exact (((Kept.refl _ _).alloc _).alloc _).alloc _, by omega, fun b hb => by cases hb⟩
    · rw [hw1, hR2]
      exact (Below.heap_alloc _ _ _ (by simp; omega)).trans ((Below.heap_alloc _ _ _ (by simp)).trans (heap_alloc_new w _))
    · rw [hw1, hR3]
      refine (Below.heap_alloc _ _ _ (by simp)).trans ?_
      have := heap_alloc_new (w.alloc (.cells #[.slice none 0 0] 26)) (.cells #[.int .i64 0] 23)
      rwa [World.size_alloc] at this
    · rw [hw1, hR]
      have := heap_alloc_new ((w.alloc (.cells #[.slice none 0 0] 26)).alloc (.cells #[.int .i64 0] 23)) (.cells #[.string line] 78)
      rwa [World.size_alloc, World.size_alloc] at this
  rw [← hw1, ← hR, ← hR3, ← hR2]
  clear hw1 hR hR3 hR2
  refine (SB.out w1 R line I1.out.rd).mono ?_
  rintro e w2 ⟨rfl, k2, t2, ht2, hr2⟩
  have I2 := Lib.hid (I1.out.call0 k2 hr2)
  have T2 := Lib.hid ht2
  have hL2 : (dl t2).length ≤ line.size := by rw [ht2]; have := trim_length (dl line); rw [dl_length] at this; exact this
  clear k2 ht2 hr2 I1
  go_wp2_with fail
  go_loopw [] (fun wr => ∃ (s' : ByteArray) (xs : List ByteArray) (v : Value) (l : List UInt8) (ws' : List (List UInt8)), Hid (Wdi w R R2 R3 v xs s' wr) ∧ Hid (dl s' = trim l) ∧ Hid (Wds l ws') ∧ Hid (xs ++ ws'.map toB = ws.map toB) ∧ Hid (xs.length + (dl s').length ≤ line.size)) (fun wr => lft wr R)
  case atStart => exact ⟨t2, [], _, _, ws, I2.out, T2.out, HQ.out, rfl, by show [].length + _ ≤ _; simpa using hL2⟩
  case round =>
    obtain ⟨s', xs, v, l, ws', hI, hT, hW, hX, hN⟩ := hrel
    obtain ⟨va, vc, rfl⟩ := own_slice hI.out.row
    have EN1 := EN.out wr R s' hI.out.rd
    have MLh := Lib.hid (lft_rd hI.out.rd)
    have hW2 := hW.out
    clear hW
    cases hW2 with
    | done _ h0 =>
      have e1 : dl s' = [] := hT.out.trans h0
      rw [e1] at EN1
      have e2 : xs = ws.map toB := by simpa using hX.out
      obtain ⟨c2, f2⟩ := hI.out.facts
      have f20 := f2 0
      have l3 := hI.out.r3
      have f3 : ∀ i, wr.frozen? ⟨R3, i, none⟩ = false := fun i => by simp [World.frozen?, l3]
      have c3 : wr.cell? ⟨R3, 0, none⟩ = some (.int .i64 0) := by rw [cell_of_row wr R3 0 _ _ (0, 0) l3]; rfl
      have NE : R2 ≠ R3 := by have := hI.out.lo; omega
      have c32 : (wr.setCell ⟨R2, 0, none⟩ (.slice va xs.length vc)).cell? ⟨R3, 0, none⟩ = some (.int .i64 0) := by rw [World.cell?_setCell_far _ _ _ _ NE]; exact c3
      have E2 := Lib.hid e2
      have NEh := Lib.hid NE
      clear e1 h0 f2 l3 NE e2
      go_wp2_with fail
      refine EN1.mono ?_
      rintro e w2 ⟨rfl, rfl⟩
      go_wp2_with fail
      clear c2 f20 f3 c3 c32
      obtain ⟨WF, hWF⟩ : ∃ WF, WF = (w2.setCell ⟨R2, 0, none⟩ (.slice va xs.length vc)).setCell ⟨R3, 0, none⟩ (.int .i64 0) := ⟨_, rfl⟩
      have kW : Kept [R2, R3] w2 WF := by
        rw [hWF]
        exact ((Kept.refl _ w2).setCell (p := ⟨R2, 0, none⟩) (Or.inl (by simp)) _).setCell (p := ⟨R3, 0, none⟩) (Or.inl (by simp)) _
      have e2 : WF.heap[R2]? = some (.cells #[.slice va xs.length vc] 26 (0, 0)) := by
        rw [hWF]
        exact (Below.heap_setCell _ _ _ _ NEh.out).trans (by simpa using heap_set (i := 0) (Value.slice va xs.length vc) hI.out.box)
      have e3 : WF.heap[R3]? = some (.cells #[.int .i64 0] 23 (0, 0)) := by
        rw [hWF]
        have e3 : (w2.setCell ⟨R2, 0, none⟩ (.slice va xs.length vc)).heap[R3]? = some (.cells #[.int .i64 0] 23 (0, 0)) := (Below.heap_setCell _ _ _ _ (fun h => NEh.out h.symm)).trans hI.out.r3
        simpa using heap_set (i := 0) (Value.int .i64 0) e3
      have c2 : WF.cell? ⟨R2, 0, none⟩ = some (.slice va xs.length vc) := by rw [cell_of_row WF R2 0 _ _ (0, 0) e2]; rfl
      have c3 : WF.cell? ⟨R3, 0, none⟩ = some (.int .i64 0) := by rw [cell_of_row WF R3 0 _ _ (0, 0) e3]; rfl
      have KF : Hid (Kept [] w WF) := hI.out.kept.trans kW (fun i hi => by have := hI.out.lo; simp at hi; right; omega)
      have RF : Hid (Row WF w.heap.size (.slice va xs.length vc) xs) := hI.out.row.kept kW (fun b hb hm => by have := hI.out.far b hb; have := hI.out.lo; simp at hm; omega)
      rw [← hWF]
      clear hWF kW e2 e3
      refine leaves_cons (f := 42) (args := #[.pointer (some ⟨R2, 0, none⟩), .pointer (some ⟨R3, 0, none⟩)]) (by simp) (by simp [go_sem]) ?_
      refine (words1_idle _ _ _).mono ?_
      rintro e u' w'' ⟨rfl, rfl, rfl⟩
      have OUT : WdsOut w ws (.returned (.tuple #[.slice va xs.length vc, .int .i64 0])) w'' := ⟨_, rfl, by rw [← E2.out]; exact RF.out, KF.out⟩
      simp [Leaves, settle, results, Tryd.f23, go_sem, c2, c3]
      exact OUT
    | word _ r b ws2 h0 hw hwr =>
      obtain ⟨c, m, hcm⟩ : ∃ c m, trim l = c :: m := by
        cases h : trim l with
        | nil => exact absurd h h0
        | cons c m => exact ⟨c, m, rfl⟩
      have hbl := trim_head l c m hcm
      rw [hcm] at hw
      have hrm := hw.pos hbl
      have hwl := hw.len
      have D1 : Hid (dl s' = c :: m) := hT.out.trans hcm
      have HWw := Lib.hid hw
      have HWR := Lib.hid hwr
      have hb30 : Hid (b.length ≤ 1073741824) := by
        show _ ≤ _
        have h1 := hN.out
        rw [D1.out] at h1
        simp at hwl h1
        omega
      have hx30 : Hid (xs.length + 1 ≤ 1073741824) := by
        show _ ≤ _
        have h1 := hN.out
        rw [D1.out] at h1
        simp at h1
        omega
      have HRM := Lib.hid hrm
      rw [D1.out] at EN1
      clear h0 hw hwr hcm hbl hrm hwl
      go_wp2_with fail
      refine EN1.mono ?_
      rintro e w2 ⟨rfl, rfl⟩
      have CALL := Lib.hid (WD.out w2.drew R s' hI.out.rd b r (by rw [D1.out]; exact HWw.out) hb30.out)
      obtain ⟨c2, f2⟩ := hI.out.facts
      have f20 := f2 0
      have hz2 := hI.out.kept.size
      clear f2 EN1
      go_wp2_with fail
      refine wp_only (fun _ _ h => h) ?_
      go_region_law (first | (refine step_call rfl 45 #[.pointer (some ⟨R, 0, none⟩)] (by simp [go_sem]) CALL.out ?_; rintro e w4 ⟨t4, rfl, kk4, hr4, ht4⟩; refine ⟨_, rfl, ?_⟩; have C4 := Lib.hid (hI.out.call kk4.out hr4.out); have T4 := Lib.hid ht4.out; obtain ⟨g4, fg4⟩ := C4.out.facts; have gf4 := fg4 0; have A4 : Hid (Kept [] w4 (w4.alloc (.cells #[.string (toB b)] 9))) := (Kept.refl [] w4).alloc _; have ga4 : (w4.alloc (.cells #[.string (toB b)] 9)).cell? ⟨R2, 0, none⟩ = some (.slice va xs.length vc) := (World.cell?_of_block (A4.out.block R2 (block_lt C4.out.box) (by simp))).trans g4; have hzz4 := C4.out.kept.size; clear kk4 hr4 ht4 fg4) | (refine step_append_src (w4.alloc (.cells #[.string (toB b)] 9)) rfl (.tmp 16) (.tmp 19) 26 rfl w.heap.size 9 i0 (.string ⟨#[]⟩) 1 16 Tryd.underlying26 hi0 hz00 hz01 hz02 rfl (by decide) (.slice va xs.length vc) xs.length (xs.map sv) (by simp [Act.eval]) (World.ownsRow.alloc C4.out.row _) (.slice (some ⟨w4.heap.size, 0, none⟩) 1 1) 1 [.string (toB b)] (by simp [Act.eval]) (Or.inr ⟨_, _, rfl, World.news_of_block (cs := #[.string (toB b)]) (by exact heap_alloc_new w4 _)⟩) rfl (by intro u hu; simp at hu; subst hu; rfl) (by have := hx30.out; unfold maxLen; omega) (by have := hx30.out; omega) (by simp; omega) ?_; intro v4 w5 hown4 hgrow4 hat4; obtain ⟨PU, PC, PF⟩ := C4.out.push (x := toB b) rfl hown4 hgrow4 hat4; have P4 := Lib.hid PU; have PF2 := PF 0; obtain ⟨a4, cc4, rfl⟩ := own_slice hown4; clear PU PF hown4 hgrow4 hat4))
      all_goals
        obtain ⟨w6, hw6⟩ : ∃ w6, w6 = w5.setCell ⟨R2, 0, none⟩ (.slice a4 (xs.length + 1) cc4) := ⟨_, rfl⟩
        have C6 : Hid (Wdi w R R2 R3 (.slice a4 (xs.length + 1) cc4) (xs ++ [toB b]) t4 w6) := by rw [hw6]; exact P4.out
        rw [← hw6]
        clear hw6 P4 PC PF2 g4 gf4 A4 ga4 hzz4 C4 CALL c2 f20
        go_wp2_with fail
        refine (SB.out w6 R t4 C6.out.rd).mono ?_
        rintro e w7 ⟨rfl, k7, t7, ht7, hr7⟩
        have C7 := Lib.hid (C6.out.call0 k7 hr7)
        have T7 : Hid (dl t7 = trim r) := by show dl t7 = trim r; rw [ht7, T4.out]
        clear k7 ht7 hr7
        go_wp2_with fail
        go_roundw
        case rel =>
          refine ⟨t7, xs ++ [toB b], _, r, ws2, C7.out, T7.out, HWR.out, ?_, ?_⟩
          · show _ = _
            have := hX.out
            rw [← this]
            simp
          · show _ ≤ _
            have h1 := hN.out
            have h2 := trim_length r
            have h3 := HRM.out
            rw [T7.out]
            rw [D1.out] at h1
            simp at h1 ⊢
            omega
        case measure =>
          have h1 := lft_rd C7.out.rd
          have h2 := MLh.out
          have h3 := trim_length r
          have h4 := HRM.out
          rw [T7.out] at h1
          rw [D1.out] at h2
          simp at h2
          omega
end Nm
end Go.Proofs.YtjdhgeikbkjnoaaDoor
