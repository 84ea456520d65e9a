/- names' piecesOf of one pattern. -/
import Derived.Test.YtjdhgeikbkjnoaaDoorRpd
namespace Go.Proofs.YtjdhgeikbkjnoaaDoor
set_option linter.unusedVariables false
open Go.RowKit Go.Shelf
attribute [local go_sem] Oper.semAt_some
namespace Nm
open Go.Proofs.YtjdhgeikbkjnoaaDoor.Utf Go.Proofs.YtjdhgeikbkjnoaaDoor.Txt Go.PlainAid

theorem info_pc : (Tryd.prog.info? 83).map (fun i => (i.zero, i.size, i.bytes)) = some (some (.agg #[.bool false, .bool false, .slice none 0 0]), 3, 32) := by kernel_rfl
/-- A piece: its two marks; its row of spans. -/
structure Pc where
  row : Bool
  but : Bool
  v : Value
  n : Nat
  cs : List Value
def Pc.cells (p : Pc) : List Value := [.bool p.row, .bool p.but, p.v]
def pcs (ps : List Pc) : List Value := ps.flatMap Pc.cells
theorem pcs_length (ps : List Pc) : (pcs ps).length = ps.length * 3 := by
  induction ps with
  | nil => rfl
  | cons p ps ih => unfold pcs at ih ⊢; rw [List.flatMap_cons, List.length_append, ih]; simp [Pc.cells]; omega
theorem own_ne {W : World} {base size n g : Nat} {e e' : TypeId} {v : Value} {xs : List Value} {c : Array Value} {fz : Nat × Nat} (h : W.ownsRow base e size v n xs) (hg : W.heap[g]? = some (.cells c e' fz)) (hne : e ≠ e') : ∀ b, v.ownBlock = some b → b ≠ g := by
  intro b hb e1
  subst e1
  rcases h.2 with ⟨rfl, _⟩ | ⟨g', cap, cur, rfl, a1, a2, _⟩
  · cases hb
  · cases hb
    rw [a2] at hg
    cases hg
    exact hne rfl
theorem own_kept {W W1 : World} {base size n : Nat} {e : TypeId} {v : Value} {xs : List Value} {S : List Nat} (h : W.ownsRow base e size v n xs) (k : Kept S W W1) (hd : ∀ b, v.ownBlock = some b → b ∉ S) : W1.ownsRow base e size v n xs := by
  refine ⟨h.1, ?_⟩
  rcases h.2 with h2 | ⟨g, cap, cur, rfl, a1, a2, a3, a4, a5, a6⟩
  · exact Or.inl h2
  · exact Or.inr ⟨g, cap, cur, rfl, a1, (k.block g (block_lt a2) (hd g rfl)).trans a2, a3, a4, a5, a6⟩
theorem own_block {W : World} {base size n : Nat} {e : TypeId} {v : Value} {xs : List Value} (h : W.ownsRow base e size v n xs) : ∀ b, v.ownBlock = some b → ∃ c, W.heap[b]? = some (.cells c e (0, 0)) := by
  intro b hb
  rcases h.2 with ⟨rfl, _⟩ | ⟨g', cap, cur, rfl, a1, a2, _⟩
  · cases hb
  · cases hb
    exact ⟨_, a2⟩

/-- Pieces as far as they are read. -/
structure Pof (w : World) (R : Nat) (v : Value) (ps : List Pc) (t : ByteArray) (W : World) : Prop where
  row : W.ownsRow w.heap.size 83 3 v ps.length (pcs ps)
  sp : ∀ p ∈ ps, W.ownsRow w.heap.size 102 2 p.v p.n p.cs
  rd : Rdg W R t
  kept : Kept [] w W
  lo : w.heap.size ≤ R
section
variable {w W W1 : World} {R : Nat} {v v' : Value} {ps : List Pc} {t t' : ByteArray}
theorem Pof.call (h : Pof w R v ps t W) {p : Pc} (k : Kept [R] W W1) (hr : Rdg W1 R t') (ho : W1.ownsRow W.heap.size 102 2 p.v p.n p.cs) :
    Pof w R v ps t' W1 ∧ ∀ q ∈ ps ++ [p], W1.ownsRow w.heap.size 102 2 q.v q.n q.cs := by
  have hs : ∀ q ∈ ps, W1.ownsRow w.heap.size 102 2 q.v q.n q.cs := fun q hq => own_kept (h.sp q hq) k (fun b hb hm => own_ne (h.sp q hq) h.rd (by decide) b hb (by simpa using hm))
  refine ⟨⟨own_kept h.row k (fun b hb hm => own_ne h.row h.rd (by decide) b hb (by simpa using hm)), hs, hr, h.kept.trans k (fun i hi => by have := h.lo; simp at hi; right; omega), h.lo⟩, fun q hq => ?_⟩
  rcases List.mem_append.1 hq with q1 | q1
  · exact hs q q1
  · simp at q1
    subst q1
    exact World.ownsRow.mono ho h.kept.size
theorem Pof.call0 (h : Pof w R v ps t W) (k : Kept [R] W W1) (hr : Rdg W1 R t') : Pof w R v ps t' W1 :=
  ⟨own_kept h.row k (fun b hb hm => own_ne h.row h.rd (by decide) b hb (by simpa using hm)), fun q hq => own_kept (h.sp q hq) k (fun b hb hm => own_ne (h.sp q hq) h.rd (by decide) b hb (by simpa using hm)), hr, h.kept.trans k (fun i hi => by have := h.lo; simp at hi; right; omega), h.lo⟩
theorem Pof.push (h : Pof w R v ps t W) {p : Pc} (hs : ∀ q ∈ ps ++ [p], W.ownsRow w.heap.size 102 2 q.v q.n q.cs)
    (hown : W1.ownsRow w.heap.size 83 3 v' (ps.length + 1) (pcs ps ++ p.cells)) (hg : (W.alloc (.cells #[.bool p.row, .bool p.but, p.v] 83)).grownBy W1 v.ownBlock) : Pof w R v' (ps ++ [p]) t W1 := by
  have ka : Kept [] W (W.alloc (.cells #[.bool p.row, .bool p.but, p.v] 83)) := (Kept.refl _ _).alloc _
  have kg : Kept v.ownBlock.toList (W.alloc (.cells #[.bool p.row, .bool p.but, p.v] 83)) W1 := (Kept.refl _ _).grown hg (fun k e => Or.inl (by rw [e]; simp))
  have k1 : Kept v.ownBlock.toList W W1 := (ka.mono (fun i hi => by simp at hi)).trans kg (fun i hi => Or.inl hi)
  refine ⟨by rw [List.length_append]; unfold pcs at hown ⊢; rw [List.flatMap_append]; simpa using hown, fun q hq => own_kept (hs q hq) k1 (fun b hb hm => ?_), (k1.block R (block_lt h.rd) (fun hm => ?_)).trans h.rd, h.kept.trans k1 (fun i hi => ?_), h.lo⟩
  · obtain ⟨c, hc⟩ := own_block h.row b (by simpa using hm)
    exact own_ne (hs q hq) hc (by decide) b hb rfl
  · exact own_ne h.row h.rd (by decide) R (by simpa using hm) rfl
  · right
    exact (World.ownsRow.lt h.row i (by simpa using hi)).1
end
/-- What comes out of the pattern of the example. -/
def PofOut (w : World) (e : Ending) (w' : World) : Prop :=
  ∃ v v1 v2 v3, e = .returned v ∧ Hid (w'.ownsRow w.heap.size 83 3 v 3 (pcs [⟨true, true, v1, 0, []⟩, ⟨false, false, v2, 1, spc 46⟩, ⟨false, false, v3, 2, spc 99 ++ spc 104⟩])) ∧
    Hid (∀ p ∈ ([⟨true, true, v1, 0, []⟩, ⟨false, false, v2, 1, spc 46⟩, ⟨false, false, v3, 2, spc 99 ++ spc 104⟩] : List Pc), w'.ownsRow w.heap.size 102 2 p.v p.n p.cs) ∧ Hid (Kept [] w w')
def pat : ByteArray := ⟨#[42, 46, 91, 99, 104, 93]⟩

set_option maxHeartbeats 8000000 in
set_option maxRecDepth 100000 in
theorem piecesOf_pat (w : World) : Calls Tryd.prog 34 #[.string pat] w (PofOut w) := by
  obtain ⟨i0, hi0, hz00, hz01, hz02⟩ := info_parts info_pc
  have GOOD := Lib.hid (good_any pat w (by decide))
  have EN := Lib.hid (fun w R s h => ends_any w R s h)
  obtain ⟨s0, hs0⟩ : ∃ s, s = pat := ⟨_, rfl⟩
  have HS0 := Lib.hid hs0
  have hsz : s0.size = 6 := by rw [hs0]; rfl
  rw [← hs0] at GOOD ⊢
  clear hs0
  go_enter Tryd.func34, Tryd.ntmps34
  go_wp2_with fail
  have hg : good s0 = true := by rw [HS0.out]; decide +kernel
  rw [hg] at GOOD
  refine GOOD.out.mono ?_
  rintro e w1 ⟨rfl, hB⟩
  have K1 := Lib.hid (Kept.of_below hB [])
  clear hB hg
  go_wp2_with fail
  obtain ⟨w2, hw2⟩ : ∃ w2, w2 = w1.alloc (.cells #[.string s0] 78) := ⟨_, rfl⟩
  obtain ⟨R, hR⟩ : ∃ R, R = w1.heap.size := ⟨_, rfl⟩
  have P0 : Hid (Pof w R (.slice none 0 0) [] s0 w2) := by
    have hk : Kept [] w1 w2 := by rw [hw2]; exact (Kept.refl _ _).alloc _
    exact ⟨World.ownsRow_nil _ _ _ _, fun p hp => by simp at hp, by rw [hw2, hR]; exact heap_alloc_new w1 _, K1.out.trans hk (fun i hi => by simp at hi), by have := K1.out.size; omega⟩
  have D0 : Hid (dl s0 = [42, 46, 91, 99, 104, 93]) := by
    have h : dl s0 = [42, 46, 91, 99, 104, 93] := by rw [HS0.out]; rfl
    exact h
  rw [← hw2, ← hR]
  clear hw2 hR
  refine wp_loop_rounds 4 ?_
  rw [rounds_succ]
  go_wp2_with fail
  have E1 := EN.out w2 R s0 P0.out.rd
  rw [D0.out] at E1
  refine E1.mono ?_
  rintro e x1 ⟨rfl, rfl⟩
  clear E1
  have CALL := piece_star x1 R s0 P0.out.rd [46, 91, 99, 104, 93] D0.out
  go_wp2_with fail
  refine CALL.mono ?_
  rintro e y1 ⟨pv1, rfl, ho, hk, t1, ht, hr⟩
  obtain ⟨pa1, pc1, rfl⟩ := own_slice2 ho.out
  obtain ⟨C1, S1⟩ := Pof.call (p := (⟨true, true, .slice pa1 0 pc1, 0, []⟩ : Pc)) P0.out hk.out hr.out ho.out
  have CC1 := Lib.hid C1
  have SS1 := Lib.hid S1
  have D1 : Hid (dl t1 = [46, 91, 99, 104, 93]) := ht
  have hz1 := C1.kept.size
  clear ho hk ht hr C1 S1 CALL
  go_wp2_with (at_builtin; refine wpList_append_src (y1.alloc (.cells #[.bool true, .bool true, .slice pa1 0 pc1] 83)) rfl (.tmp 20) (.tmp 23) 62 rfl w.heap.size 83 i0 (.agg #[.bool false, .bool false, .slice none 0 0]) 3 32 Tryd.underlying62 hi0 hz00 hz01 hz02 rfl (by decide) (.slice none 0 0) 0 (pcs ([] : List Pc)) rfl (CC1.out.row.alloc _) (.slice (some ⟨y1.heap.size, 0, none⟩) 1 1) 1 [.bool true, .bool true, .slice pa1 0 pc1] rfl (Or.inr ⟨_, _, rfl, World.news_of_block (cs := #[.bool true, .bool true, .slice pa1 0 pc1]) (by exact heap_alloc_new y1 _)⟩) rfl (by intro u hu; simp at hu; rcases hu with rfl | rfl | rfl <;> rfl) (by unfold maxLen; omega) (by omega) (by simp; omega) ?_; intro v z1 hown hgrow hat; obtain ⟨qa1, qc1, rfl⟩ := own_slice2 hown; have Q1 : Hid (Pof w R (.slice qa1 1 qc1) (([] : List Pc) ++ [(⟨true, true, .slice pa1 0 pc1, 0, []⟩ : Pc)]) t1 z1) := CC1.out.push SS1.out hown hgrow; clear hown hgrow hat)
  clear CC1 SS1 hz1
  rw [rounds_succ]
  go_wp2_with fail
  have E1 := EN.out z1 R t1 Q1.out.rd
  rw [D1.out] at E1
  refine E1.mono ?_
  rintro e x2 ⟨rfl, rfl⟩
  clear E1
  have CALL := piece_char x2 R t1 Q1.out.rd 46 [91, 99, 104, 93] D1.out (by decide) (by decide) (by decide) (by decide) (by decide)
  go_wp2_with fail
  refine CALL.mono ?_
  rintro e y2 ⟨pv2, rfl, ho, hk, t2, ht, hr⟩
  obtain ⟨pa2, pc2, rfl⟩ := own_slice2 ho.out
  obtain ⟨C2, S2⟩ := Pof.call (p := (⟨false, false, .slice pa2 1 pc2, 1, spc 46⟩ : Pc)) Q1.out hk.out hr.out ho.out
  have CC2 := Lib.hid C2
  have SS2 := Lib.hid S2
  have D2 : Hid (dl t2 = [91, 99, 104, 93]) := ht
  have hz2 := C2.kept.size
  clear ho hk ht hr C2 S2 CALL
  go_wp2_with (at_builtin; refine wpList_append_src (y2.alloc (.cells #[.bool false, .bool false, .slice pa2 1 pc2] 83)) rfl (.tmp 20) (.tmp 23) 62 rfl w.heap.size 83 i0 (.agg #[.bool false, .bool false, .slice none 0 0]) 3 32 Tryd.underlying62 hi0 hz00 hz01 hz02 rfl (by decide) (.slice qa1 1 qc1) 1 (pcs ([] ++ [(⟨true, true, .slice pa1 0 pc1, 0, []⟩ : Pc)])) rfl (CC2.out.row.alloc _) (.slice (some ⟨y2.heap.size, 0, none⟩) 1 1) 1 [.bool false, .bool false, .slice pa2 1 pc2] rfl (Or.inr ⟨_, _, rfl, World.news_of_block (cs := #[.bool false, .bool false, .slice pa2 1 pc2]) (by exact heap_alloc_new y2 _)⟩) rfl (by intro u hu; simp at hu; rcases hu with rfl | rfl | rfl <;> rfl) (by unfold maxLen; omega) (by omega) (by simp; omega) ?_; intro v z2 hown hgrow hat; obtain ⟨qa2, qc2, rfl⟩ := own_slice2 hown; have Q2 : Hid (Pof w R (.slice qa2 2 qc2) (([] ++ [(⟨true, true, .slice pa1 0 pc1, 0, []⟩ : Pc)]) ++ [(⟨false, false, .slice pa2 1 pc2, 1, spc 46⟩ : Pc)]) t2 z2) := CC2.out.push SS2.out hown hgrow; clear hown hgrow hat)
  clear CC2 SS2 hz2
  rw [rounds_succ]
  go_wp2_with fail
  have E1 := EN.out z2 R t2 Q2.out.rd
  rw [D2.out] at E1
  refine E1.mono ?_
  rintro e x3 ⟨rfl, rfl⟩
  clear E1
  have CALL := piece_class x3 R t2 Q2.out.rd 99 104 [] D2.out (by decide) (by decide) (by decide) (by decide) (by decide) (by decide) (by decide) (by decide) (by decide)
  go_wp2_with fail
  refine CALL.mono ?_
  rintro e y3 ⟨pv3, rfl, ho, hk, t3, ht, hr⟩
  obtain ⟨pa3, pc3, rfl⟩ := own_slice2 ho.out
  obtain ⟨C3, S3⟩ := Pof.call (p := (⟨false, false, .slice pa3 2 pc3, 2, spc 99 ++ spc 104⟩ : Pc)) Q2.out hk.out hr.out ho.out
  have CC3 := Lib.hid C3
  have SS3 := Lib.hid S3
  have D3 : Hid (dl t3 = []) := ht
  have hz3 := C3.kept.size
  clear ho hk ht hr C3 S3 CALL
  go_wp2_with (at_builtin; refine wpList_append_src (y3.alloc (.cells #[.bool false, .bool false, .slice pa3 2 pc3] 83)) rfl (.tmp 20) (.tmp 23) 62 rfl w.heap.size 83 i0 (.agg #[.bool false, .bool false, .slice none 0 0]) 3 32 Tryd.underlying62 hi0 hz00 hz01 hz02 rfl (by decide) (.slice qa2 2 qc2) 2 (pcs ([] ++ [(⟨true, true, .slice pa1 0 pc1, 0, []⟩ : Pc)] ++ [(⟨false, false, .slice pa2 1 pc2, 1, spc 46⟩ : Pc)])) rfl (CC3.out.row.alloc _) (.slice (some ⟨y3.heap.size, 0, none⟩) 1 1) 1 [.bool false, .bool false, .slice pa3 2 pc3] rfl (Or.inr ⟨_, _, rfl, World.news_of_block (cs := #[.bool false, .bool false, .slice pa3 2 pc3]) (by exact heap_alloc_new y3 _)⟩) rfl (by intro u hu; simp at hu; rcases hu with rfl | rfl | rfl <;> rfl) (by unfold maxLen; omega) (by omega) (by simp; omega) ?_; intro v z3 hown hgrow hat; obtain ⟨qa3, qc3, rfl⟩ := own_slice2 hown; have Q3 : Hid (Pof w R (.slice qa3 3 qc3) (([] ++ [(⟨true, true, .slice pa1 0 pc1, 0, []⟩ : Pc)] ++ [(⟨false, false, .slice pa2 1 pc2, 1, spc 46⟩ : Pc)]) ++ [(⟨false, false, .slice pa3 2 pc3, 2, spc 99 ++ spc 104⟩ : Pc)]) t3 z3) := CC3.out.push SS3.out hown hgrow; clear hown hgrow hat)
  clear CC3 SS3 hz3
  rw [rounds_succ]
  go_wp2_with fail
  have E1 := EN.out z3 R t3 Q3.out.rd
  rw [D3.out] at E1
  refine E1.mono ?_
  rintro e x4 ⟨rfl, rfl⟩
  clear E1
  go_wp2_with fail
  go_ret
  exact ⟨_, _, _, _, rfl, Q3.out.row, Q3.out.sp, Q3.out.kept⟩
end Nm
end Go.Proofs.YtjdhgeikbkjnoaaDoor
