/- names' reading: a class of two characters. -/
import Derived.Test.YtjdhgeikbkjnoaaDoorRdp
import Derived.Deep.RegionWith
import Derived.Deep.RegionLaw
namespace Go.Proofs.YtjdhgeikbkjnoaaDoor
set_option linter.unusedVariables false
open Go.RowKit Go.Shelf
attribute [local go_sem] Oper.semAt_some
/-- A call of a Go function as a step of a region. -/
theorem step_call {P : Program} {ops : Array Oper} {o : Oper} {a : Act} {w : World} {K : Act → World → Prop} {Q : Exit → Act → World → Prop} {E : Prop} (hg : o.guard = none) (f : FuncId) (args : Array Value)
    (hrun : (execOp a.eval o).run P w = .ok (.enter f args) w) {R : Ending → World → Prop} (hc : Calls P f args w R) (hR : ∀ e w', R e w' → ∃ v, e = .returned v ∧ K (a.put o.dst v) w') :
    if Region.wanted o (yielded ops a.tmps) = true then Oper.wp P o a w K Q else E := by
  have hw : Region.wanted o (yielded ops a.tmps) = true := by simp [Region.wanted, hg]
  rw [if_pos hw]
  unfold Oper.wp
  rw [hrun, Oper.upon_enter]
  exact hc.mono fun e w' r => by obtain ⟨v, rfl, hk⟩ := hR e w' r; exact hk
namespace Nm
open Go.Proofs.YtjdhgeikbkjnoaaDoor.Utf Go.Proofs.YtjdhgeikbkjnoaaDoor.Txt Go.PlainAid

theorem info_sp : (Tryd.prog.info? 102).map (fun i => (i.zero, i.size, i.bytes)) = some (some (.agg #[.int .i32 0, .int .i32 0]), 2, 8) := by kernel_rfl
def spc (c : UInt8) : List Value := [.int .i32 c.toNat, .int .i32 c.toNat]

/-- A class as far as it is read. -/
structure Cls (w : World) (R R2 R3 : Nat) (v : Value) (n : Nat) (xs : List Value) (s : ByteArray) (W : World) : Prop where
  box : W.heap[R3]? = some (.cells #[.bool false, .bool false, v] 83 (0, 0))
  r2 : W.heap[R2]? = some (.cells #[.bool false, .bool false, .slice none 0 0] 83 (0, 0))
  row : W.ownsRow w.heap.size 102 2 v n xs
  rd : Rdg W R s
  kept : Kept [R] w W
  lo : w.heap.size ≤ R2 ∧ R2 < R3
  lr : R < w.heap.size
  far : ∀ b, v.ownBlock = some b → R3 < b
section
variable {w W W1 : World} {R R2 R3 n : Nat} {v v' : Value} {xs : List Value} {s t : ByteArray}
theorem own_turn2 {Q : Nat} (k : Kept [Q] W W1) (h : W.ownsRow w.heap.size 102 2 v n xs) (hd : ∀ b, v.ownBlock = some b → b ≠ Q) : W1.ownsRow w.heap.size 102 2 v n xs := by
  refine ⟨h.1, ?_⟩
  rcases h.2 with h2 | ⟨g, cap, cur, rfl, a1, a2, a3, a4, a5, a6⟩
  · exact Or.inl h2
  · exact Or.inr ⟨g, cap, cur, rfl, a1, (k.block g (block_lt a2) (by simpa using hd g rfl)).trans a2, a3, a4, a5, a6⟩
theorem own_turn {k : Kept [R] W W1} (h : W.ownsRow w.heap.size 102 2 v n xs) (hd : ∀ b, v.ownBlock = some b → b ≠ R) : W1.ownsRow w.heap.size 102 2 v n xs := by
  refine ⟨h.1, ?_⟩
  rcases h.2 with h2 | ⟨g, cap, cur, rfl, a1, a2, a3, a4, a5, a6⟩
  · exact Or.inl h2
  · exact Or.inr ⟨g, cap, cur, rfl, a1, (k.block g (block_lt a2) (by simpa using hd g rfl)).trans a2, a3, a4, a5, a6⟩
theorem Cls.call (h : Cls w R R2 R3 v n xs s W) (k : Kept [R] W.drew W1) (hr : Rdg W1 R t) : Cls w R R2 R3 v n xs t W1 := by
  have k2 : Kept [R] W W1 := ((Kept.refl [R] W).drew).trans k (fun i hi => Or.inl hi)
  have h1 := h.lo
  have h2 := h.lr
  exact ⟨(k2.block R3 (block_lt h.box) (by simp; omega)).trans h.box, (k2.block R2 (block_lt h.r2) (by simp; omega)).trans h.r2, own_turn (k := k2) h.row (fun b hb => by have := h.far b hb; omega), hr, h.kept.trans k2 (fun i hi => Or.inl hi), h.lo, h.lr, h.far⟩
theorem Cls.call0 (h : Cls w R R2 R3 v n xs s W) (k : Kept [R] W W1) (hr : Rdg W1 R t) : Cls w R R2 R3 v n xs t W1 := h.call (W := W) (by exact ⟨k.os, k.tape, k.output, k.size, k.block⟩) hr
theorem Cls.facts (h : Cls w R R2 R3 v n xs s W) : W.cell? ⟨R3, 2, none⟩ = some v ∧ ∀ i, W.frozen? ⟨R3, i, none⟩ = false :=
  ⟨by rw [cell_of_row W R3 2 _ _ (0, 0) h.box]; rfl, fun i => by have := h.box; simp [World.frozen?, this]⟩
theorem Cls.push (h : Cls w R R2 R3 v n xs s W) {c : UInt8} (hown : W1.ownsRow w.heap.size 102 2 v' (n + 1) (xs ++ spc c)) (hg : (W.alloc (.cells #[.int .i32 c.toNat, .int .i32 c.toNat] 102)).grownBy W1 v.ownBlock)
    (hat : v'.ownBlock = v.ownBlock ∨ v'.ownBlock = some (W.alloc (.cells #[.int .i32 c.toNat, .int .i32 c.toNat] 102)).heap.size) :
    Cls w R R2 R3 v' (n + 1) (xs ++ spc c) s (W1.setCell ⟨R3, 2, none⟩ v') ∧ W1.cell? ⟨R3, 2, none⟩ = some v ∧ ∀ i, W1.frozen? ⟨R3, i, none⟩ = false := by
  have ka : Kept [] W (W.alloc (.cells #[.int .i32 c.toNat, .int .i32 c.toNat] 102)) := (Kept.refl _ _).alloc _
  have kg : Kept v.ownBlock.toList (W.alloc (.cells #[.int .i32 c.toNat, .int .i32 c.toNat] 102)) W1 := (Kept.refl _ _).grown hg (fun k e => Or.inl (by rw [e]; simp))
  have k1 : Kept v.ownBlock.toList W W1 := (ka.mono (fun i hi => by simp at hi)).trans kg (fun i hi => Or.inl hi)
  have h1 := h.lo
  have h2 := h.lr
  have nf : ∀ i, i ≤ R3 → i ∉ v.ownBlock.toList := fun i hi hm => by have := h.far i (by simpa using hm); omega
  have b3 := (k1.block R3 (block_lt h.box) (nf _ (by omega))).trans h.box
  have b2 := (k1.block R2 (block_lt h.r2) (nf _ (by omega))).trans h.r2
  have br : Rdg W1 R s := (k1.block R (block_lt h.rd) (nf _ (by omega))).trans h.rd
  have hset := heap_set (i := 2) v' b3
  have hfar : ∀ b, v'.ownBlock = some b → R3 < b := fun b hb => by
    rcases hat with q | q
    · exact h.far b (by rw [← q]; exact hb)
    · rw [q] at hb; cases hb; have := block_lt h.box; simp; omega
  refine ⟨⟨by simpa using hset, (Below.heap_setCell _ _ _ _ (by show R2 ≠ R3; omega)).trans b2, ?_, (Below.heap_setCell _ _ _ _ (by show R ≠ R3; omega)).trans br, ?_, h.lo, h.lr, hfar⟩, by rw [cell_of_row W1 R3 2 _ _ (0, 0) b3]; rfl, fun i => by simp [World.frozen?, b3]⟩
  · refine ⟨hown.1, ?_⟩
    rcases hown.2 with q | ⟨g, cap, cur, rfl, a1, a2, a3, a4, a5, a6⟩
    · exact Or.inl q
    · exact Or.inr ⟨g, cap, cur, rfl, a1, (Below.heap_setCell _ _ _ _ (by have := hfar g rfl; show g ≠ R3; omega)).trans a2, a3, a4, a5, a6⟩
  · refine (h.kept.trans k1 (fun i hi => Or.inr ?_)).setCell (p := ⟨R3, 2, none⟩) (Or.inr (by show w.heap.size ≤ R3; omega)) _
    have := h.far i (by simpa using hi)
    omega
end

theorem own_slice2 {w : World} {base : Nat} {e : TypeId} {size : Nat} {v : Value} {n : Nat} {xs : List Value} (h : w.ownsRow base e size v n xs) : ∃ a c, v = .slice a n c := by
  rcases h.2 with ⟨rfl, rfl⟩ | ⟨g, cap, cur, rfl, _⟩
  · exact ⟨_, _, rfl⟩
  · exact ⟨_, _, rfl⟩
set_option maxHeartbeats 8000000 in
set_option maxRecDepth 100000 in
theorem class_two (w : World) (R : Nat) (s : ByteArray) (h : Rdg w R s) (c d : UInt8) (l : List UInt8) (h0 : dl s = c :: d :: 93 :: l) (hc : c.toNat < 128) (h9 : c ≠ 92) (h8 : c ≠ 93) (h7 : c ≠ 45) (h6 : c ≠ 94)
    (gc : d.toNat < 128) (g9 : d ≠ 92) (g8 : d ≠ 93) (g7 : d ≠ 45) :
    Calls Tryd.prog 68 #[.pointer (some ⟨R, 0, none⟩)] w fun e w' => ∃ v, e = .returned (.agg #[.bool false, .bool false, v]) ∧ w'.ownsRow w.heap.size 102 2 v 2 (spc c ++ spc d) ∧ Kept [R] w w' ∧ ∃ t, dl t = l ∧ Rdg w' R t := by
  obtain ⟨i0, hi0, hz00, hz01, hz02⟩ := info_parts info_sp
  have HR := Lib.hid h
  have SK1 := Lib.hid (fun w h => skips_any w R s ⟨#[94]⟩ h)
  have e1 : see ⟨#[94]⟩ (dl s) = false := by rw [h0]; simp [see, dl, Lib.indexByte, Ne.symm h6]
  rw [e1] at SK1
  have SP1 : Hid (∀ w s, Rdg w R s → dl s = c :: d :: 93 :: l → Calls Tryd.prog 83 #[.pointer (some ⟨R, 0, none⟩)] w fun e w' => e = .returned (.agg #[.int .i32 c.toNat, .int .i32 c.toNat]) ∧ Kept [R] w w' ∧ ∃ t, dl t = d :: 93 :: l ∧ Rdg w' R t) := (fun w s h h0 => span_ascii w R s h c (d :: 93 :: l) h0 hc h9 h8 h7 (by simp [see, dl, Lib.indexByte, Ne.symm g7]))
  have SP2 : Hid (∀ w s, Rdg w R s → dl s = d :: 93 :: l → Calls Tryd.prog 83 #[.pointer (some ⟨R, 0, none⟩)] w fun e w' => e = .returned (.agg #[.int .i32 d.toNat, .int .i32 d.toNat]) ∧ Kept [R] w w' ∧ ∃ t, dl t = 93 :: l ∧ Rdg w' R t) := (fun w s h h0 => span_ascii w R s h d (93 :: l) h0 gc g9 g8 g7 (by simp [see, dl, Lib.indexByte]))
  have SK2 := Lib.hid (fun w s h => skips_any w R s ⟨#[93]⟩ h)
  have H0 := Lib.hid h0
  have e2 : see ⟨#[93]⟩ (d :: 93 :: l) = false := by simp [see, dl, Lib.indexByte, Ne.symm g8]
  have e3 : see ⟨#[93]⟩ (93 :: l) = true := by simp [see, dl, Lib.indexByte]
  have E23 := Lib.hid (And.intro e2 e3)
  clear h e1 e2 e3 h0
  go_enter Tryd.func68, Tryd.ntmps68
  go_wp2_with fail
  obtain ⟨w1, hw1⟩ : ∃ w1, w1 = w.alloc (.cells #[.bool false, .bool false, .slice none 0 0] 83) := ⟨_, rfl⟩
  obtain ⟨R2, hR2⟩ : ∃ R, R = w.heap.size := ⟨_, rfl⟩
  have k1 : Kept [] w w1 := by rw [hw1]; exact (Kept.refl _ _).alloc _
  have b2 : w1.heap[R2]? = some (.cells #[.bool false, .bool false, .slice none 0 0] 83 (0, 0)) := by rw [hw1, hR2]; exact heap_alloc_new w _
  have ne : R2 ≠ R := by have := block_lt HR.out; omega
  have NE := Lib.hid ne
  have H1 := Lib.hid (HR.out.kept k1 (by simp))
  have K1 := Lib.hid k1
  have HR2 := Lib.hid hR2
  rw [← hw1, ← hR2]
  clear hw1 hR2 k1
  refine (SK1.out w1 H1.out).mono ?_
  rintro e w2 ⟨rfl, k2, t, ht, hr⟩
  have b22 := (k2.block R2 (block_lt b2) (by simpa using ne)).trans b2
  have K2 : Hid (Kept [R] w w2) := (K1.out.mono (fun i hi => by simp at hi)).trans k2 (fun i hi => Or.inl hi)
  have H2 := Lib.hid hr
  have HT2 : Hid (dl t = c :: d :: 93 :: l) := (by simpa using ht.trans (by simp [H0.out]) : dl t = c :: d :: 93 :: l)
  have B22 := Lib.hid b22
  clear b2 k2 hr ht SK1 b22 ne
  go_wp2_with fail
  obtain ⟨w3, hw3⟩ : ∃ w3, w3 = w2.alloc (.cells #[.bool false, .bool false, .slice none 0 0] 83) := ⟨_, rfl⟩
  obtain ⟨R3, hR3⟩ : ∃ R, R = w2.heap.size := ⟨_, rfl⟩
  have C3 : Hid (Cls w R R2 R3 (.slice none 0 0) 0 [] t w3) := by
    have hk : Kept [] w2 w3 := by rw [hw3]; exact (Kept.refl _ _).alloc _
    refine ⟨by rw [hw3, hR3]; exact heap_alloc_new w2 _, (hk.block _ (block_lt B22.out) (by simp)).trans B22.out, World.ownsRow_nil _ _ _ _, H2.out.kept hk (by simp), K2.out.trans hk (fun i hi => by simp at hi), ⟨by have := HR2.out; omega, by have := block_lt B22.out; omega⟩, block_lt HR.out, fun b hb => by cases hb⟩
  rw [← hw3, ← hR3]
  clear hw3 hR3
  have hl3 := C3.out.lo
  have hz3 := C3.out.kept.size
  obtain ⟨c3, f3⟩ := C3.out.facts
  have f32 := f3 2
  have CALL := Lib.hid (SP1.out w3.drew t (C3.out.rd) HT2.out)
  clear f3
  go_region_law (first | (refine step_call rfl 83 #[.pointer (some ⟨R, 0, none⟩)] (by simp [go_sem]) CALL.out ?_; rintro e w4 ⟨rfl, kk4, t4, ht4, hr4⟩; refine ⟨_, rfl, ?_⟩; have C4 := Lib.hid (C3.out.call kk4 hr4); obtain ⟨g4, fg4⟩ := C4.out.facts; have gf4 := fg4 2; have A4 : Hid (Kept [] w4 (w4.alloc (.cells #[.int .i32 c.toNat, .int .i32 c.toNat] 102))) := (Kept.refl [] w4).alloc _; have ga4 : (w4.alloc (.cells #[.int .i32 c.toNat, .int .i32 c.toNat] 102)).cell? ⟨R3, 2, none⟩ = some (.slice none 0 0) := (World.cell?_of_block (A4.out.block R3 (block_lt C4.out.box) (by simp))).trans g4; have hzz4 := C4.out.kept.size; clear kk4 hr4 fg4) | (refine step_append_src (w4.alloc (.cells #[.int .i32 c.toNat, .int .i32 c.toNat] 102)) rfl (.tmp 8) (.tmp 11) 81 rfl w.heap.size 102 i0 (.agg #[.int .i32 0, .int .i32 0]) 2 8 Tryd.underlying81 hi0 hz00 hz01 hz02 rfl (by decide) (.slice none 0 0) 0 [] (by simp [Act.eval]) (World.ownsRow.alloc C4.out.row _) (.slice (some ⟨w4.heap.size, 0, none⟩) 1 1) 1 (spc c) (by simp [Act.eval]) (Or.inr ⟨_, _, rfl, World.news_of_block (cs := #[.int .i32 c.toNat, .int .i32 c.toNat]) (by exact heap_alloc_new w4 _)⟩) rfl (by intro u hu; simp [spc] at hu; subst hu; rfl) (by unfold maxLen; omega) (by omega) (by simp; omega) ?_; intro v4 w5 hown4 hgrow4 hat4; obtain ⟨PU, PC, PF⟩ := C4.out.push hown4 hgrow4 hat4; have P4 := Lib.hid PU; have PF2 := PF 2; obtain ⟨a4, cc4, rfl⟩ := own_slice2 hown4; clear PU PF hown4 hgrow4 hat4))
  all_goals
    have D1 : Hid (dl t4 = d :: 93 :: l) := ht4
    obtain ⟨w6, hw6⟩ : ∃ w6, w6 = w5.setCell ⟨R3, 2, none⟩ (.slice a4 1 cc4) := ⟨_, rfl⟩
    have C6 : Hid (Cls w R R2 R3 (.slice a4 1 cc4) 1 (spc c) t4 w6) := by rw [hw6]; exact P4.out
    rw [← hw6]
    clear hw6 P4 PC PF2 g4 gf4 A4 ga4 hzz4 C4 CALL c3 f32 ht4
    go_wp2_with fail
    refine wp_loop_rounds 2 ?_
    rw [rounds_succ]
    go_wp2_with fail
    have SK := SK2.out w6 t4 C6.out.rd
    rw [D1.out, E23.out.1] at SK
    refine SK.mono ?_
    rintro e w7 ⟨rfl, k7, t7, ht7, hr7⟩
    have C7 := Lib.hid (C6.out.call0 k7 hr7)
    have D7 : Hid (dl t7 = d :: 93 :: l) := (by simpa using ht7 : dl t7 = d :: 93 :: l)
    clear k7 hr7 ht7 SK
    obtain ⟨c7, f7⟩ := C7.out.facts
    have f72 := f7 2
    have hz7 := C7.out.kept.size
    have CALL := Lib.hid (SP2.out w7.drew t7 (C7.out.rd) D7.out)
    clear f7
    go_wp2_with fail
    go_region_law (first | (refine step_call rfl 83 #[.pointer (some ⟨R, 0, none⟩)] (by simp [go_sem]) CALL.out ?_; rintro e w8 ⟨rfl, kk8, t8, ht8, hr8⟩; refine ⟨_, rfl, ?_⟩; have C8 := Lib.hid (C7.out.call kk8 hr8); obtain ⟨g8, fg8⟩ := C8.out.facts; have gf8 := fg8 2; have A8 : Hid (Kept [] w8 (w8.alloc (.cells #[.int .i32 d.toNat, .int .i32 d.toNat] 102))) := (Kept.refl [] w8).alloc _; have ga8 : (w8.alloc (.cells #[.int .i32 d.toNat, .int .i32 d.toNat] 102)).cell? ⟨R3, 2, none⟩ = some (.slice a4 1 cc4) := (World.cell?_of_block (A8.out.block R3 (block_lt C8.out.box) (by simp))).trans g8; have hzz8 := C8.out.kept.size; clear kk8 hr8 fg8) | (refine step_append_src (w8.alloc (.cells #[.int .i32 d.toNat, .int .i32 d.toNat] 102)) rfl (.tmp 18) (.tmp 21) 81 rfl w.heap.size 102 i0 (.agg #[.int .i32 0, .int .i32 0]) 2 8 Tryd.underlying81 hi0 hz00 hz01 hz02 rfl (by decide) (.slice a4 1 cc4) 1 (spc c) (by simp [Act.eval]) (World.ownsRow.alloc C8.out.row _) (.slice (some ⟨w8.heap.size, 0, none⟩) 1 1) 1 (spc d) (by simp [Act.eval]) (Or.inr ⟨_, _, rfl, World.news_of_block (cs := #[.int .i32 d.toNat, .int .i32 d.toNat]) (by exact heap_alloc_new w8 _)⟩) rfl (by intro u hu; simp [spc] at hu; subst hu; rfl) (by unfold maxLen; omega) (by omega) (by simp; omega) ?_; intro v8 w9 hown8 hgrow8 hat8; obtain ⟨PU, PC, PF⟩ := C8.out.push hown8 hgrow8 hat8; have P8 := Lib.hid PU; have PF2 := PF 2; obtain ⟨a8, cc8, rfl⟩ := own_slice2 hown8; clear PU PF hown8 hgrow8 hat8))
    all_goals
      have D8 : Hid (dl t8 = 93 :: l) := ht8
      obtain ⟨w10, hw10⟩ : ∃ w10, w10 = w9.setCell ⟨R3, 2, none⟩ (.slice a8 2 cc8) := ⟨_, rfl⟩
      have C10 : Hid (Cls w R R2 R3 (.slice a8 2 cc8) 2 (spc c ++ spc d) t8 w10) := by rw [hw10]; exact P8.out
      rw [← hw10]
      clear hw10 P8 PC PF2 g8 gf8 A8 ga8 hzz8 C8 CALL c7 f72 ht8
      go_wp2_with fail
      rw [rounds_succ]
      go_wp2_with fail
      have SK := SK2.out w10 t8 C10.out.rd
      rw [D8.out, E23.out.2] at SK
      refine SK.mono ?_
      rintro e w11 ⟨rfl, k11, t11, ht11, hr11⟩
      have C11 := Lib.hid (C10.out.call0 k11 hr11)
      have D11 : Hid (dl t11 = l) := (by simpa using ht11 : dl t11 = l)
      clear k11 hr11 ht11 SK
      have b11 := C11.out.box
      have r11 := C11.out.r2
      have m0 : w11.cell? ⟨R3, 0, none⟩ = some (.bool false) := by rw [cell_of_row w11 R3 0 _ _ (0, 0) b11]; rfl
      have m1 : w11.cell? ⟨R3, 1, none⟩ = some (.bool false) := by rw [cell_of_row w11 R3 1 _ _ (0, 0) b11]; rfl
      have m2 : w11.cell? ⟨R3, 2, none⟩ = some (.slice a8 2 cc8) := by rw [cell_of_row w11 R3 2 _ _ (0, 0) b11]; rfl
      have n0 : w11.cell? ⟨R2, 0, none⟩ = some (.bool false) := by rw [cell_of_row w11 R2 0 _ _ (0, 0) r11]; rfl
      have n1 : w11.cell? ⟨R2, 1, none⟩ = some (.bool false) := by rw [cell_of_row w11 R2 1 _ _ (0, 0) r11]; rfl
      have n2 : w11.cell? ⟨R2, 2, none⟩ = some (.slice none 0 0) := by rw [cell_of_row w11 R2 2 _ _ (0, 0) r11]; rfl
      have fz : ∀ i, w11.frozen? ⟨R2, i, none⟩ = false := fun i => by simp [World.frozen?, r11]
      have RR := Lib.hid r11
      clear b11 r11
      go_wp2_with fail
      clear m0 m1 m2 n0 n1 n2 fz
      obtain ⟨WF, hWF⟩ : ∃ WF, WF = ((w11.setCell ⟨R2, 0, none⟩ (.bool false)).setCell ⟨R2, 1, none⟩ (.bool false)).setCell ⟨R2, 2, none⟩ (.slice a8 2 cc8) := ⟨_, rfl⟩
      have e2 : WF.heap[R2]? = some (.cells #[.bool false, .bool false, .slice a8 2 cc8] 83 (0, 0)) := by
        rw [hWF]
        simpa using heap_set (i := 2) (Value.slice a8 2 cc8) (heap_set (i := 1) (Value.bool false) (heap_set (i := 0) (Value.bool false) RR.out))
      have kW : Kept [R2] w11 WF := by
        rw [hWF]
        exact (((Kept.refl _ w11).setCell (p := ⟨R2, 0, none⟩) (Or.inl (by simp)) _).setCell (p := ⟨R2, 1, none⟩) (Or.inl (by simp)) _).setCell (p := ⟨R2, 2, none⟩) (Or.inl (by simp)) _
      have m0 : WF.cell? ⟨R2, 0, none⟩ = some (.bool false) := by rw [cell_of_row WF R2 0 _ _ (0, 0) e2]; rfl
      have m1 : WF.cell? ⟨R2, 1, none⟩ = some (.bool false) := by rw [cell_of_row WF R2 1 _ _ (0, 0) e2]; rfl
      have m2 : WF.cell? ⟨R2, 2, none⟩ = some (.slice a8 2 cc8) := by rw [cell_of_row WF R2 2 _ _ (0, 0) e2]; rfl
      have hlo := C11.out.lo
      have hlr := C11.out.lr
      have HOWN : Hid (WF.ownsRow w.heap.size 102 2 (.slice a8 2 cc8) 2 (spc c ++ spc d)) := own_turn2 kW C11.out.row (fun b hb => by have := C11.out.far b hb; omega)
      have HKK : Hid (Kept [R] w WF) := C11.out.kept.trans kW (fun i hi => by simp at hi; right; omega)
      have HRD : Hid (Rdg WF R t11) := C11.out.rd.kept kW (by simp; omega)
      rw [← hWF]
      refine ⟨rfl, .agg #[.bool false, .bool false, .slice a8 2 cc8], ?_, _, rfl, HOWN.out, HKK.out, t11, D11.out, HRD.out⟩
      simp [results, Tryd.f68, go_sem, m0, m1, m2]
end Nm
end Go.Proofs.YtjdhgeikbkjnoaaDoor
