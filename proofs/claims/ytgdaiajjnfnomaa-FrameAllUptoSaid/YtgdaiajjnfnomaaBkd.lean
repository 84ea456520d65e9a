/- A book in short; what it leaves of all else; the law's owns. -/
import Derived.Test.YtgdaiajjnfnomaaBkn
namespace Go.Proofs.Ytgdaiajjnfnomaa
set_option linter.unusedVariables false
open Go.RowKit

theorem alloc_atK {w : World} {n : Nat} (o : Obj) (h : n = w.heap.size) : (w.alloc o).heap[n]? = some o := by rw [h]; exact heap_alloc_new w o
theorem sixK {w : World} {p : Nat} {x0 x1 x2 x3 x4 x5 : Value} {t : TypeId} (h : w.heap[p]? = some (.cells #[x0, x1, x2, x3, x4, x5] t (0, 0))) :
    w.cell? ⟨p, 0, none⟩ = some x0 ∧ w.cell? ⟨p, 1, none⟩ = some x1 ∧ w.cell? ⟨p, 2, none⟩ = some x2 ∧ w.cell? ⟨p, 3, none⟩ = some x3 ∧ w.cell? ⟨p, 4, none⟩ = some x4 ∧ w.cell? ⟨p, 5, none⟩ = some x5 ∧ (∀ i, w.frozen? ⟨p, i, none⟩ = false) := by
  refine ⟨?_, ?_, ?_, ?_, ?_, ?_, fun i => ?_⟩
  case refine_7 => simp [World.frozen?, h]
  all_goals
    rw [cell_of_row w p _ _ t (0, 0) h]
    rfl
/-- A book at block k; N bounds how many lists it has or will have. -/
def Bkd (w : World) (k : Nat) (col : Nat → Nat) (N : Nat) : Prop :=
  ∃ (lv mv hv tv fv wv : Value) (vs : List Value) (fs : List (List UInt8)) (ms : List UInt8) (hs : List Value) (hb : List (List UInt8)) (ts xs ys : List Value) (xb : List (List UInt8)),
    BS w k lv mv hv tv fv wv vs fs ms hs hb ts xs ys xb col ∧ fs.length + 5 * hb.length + 5 * xb.length ≤ N ∧ (∀ x ∈ fs, x.length ≤ 1200000000) ∧ (∀ x ∈ hb, x.length ≤ 1100000000) ∧ (∀ x ∈ xb, x.length ≤ 1100000000)
/-- What is left of all that is neither the book's nor of colour a or a + 1. -/
structure Fr (w : World) (col : Nat → Nat) (w' : World) (col' : Nat → Nat) (a : Nat) : Prop where
  kept : ∃ S, Kept S w w' ∧ ∀ b ∈ S, b < w.heap.size → col b ≤ 6 ∨ col b = a ∨ col b = a + 1
  same : ∀ b, b < w.heap.size → 7 ≤ col b → col' b = col b
theorem Fr.refl (w : World) (col : Nat → Nat) (a : Nat) : Fr w col w col a := ⟨⟨[], Kept.refl _ _, fun b hb => by cases hb⟩, fun _ _ _ => rfl⟩
theorem Fr.size {w w' : World} {col col' : Nat → Nat} {a : Nat} (h : Fr w col w' col' a) : w.heap.size ≤ w'.heap.size := by obtain ⟨S, k, -⟩ := h.kept; exact k.size
theorem Fr.trans {w w1 w2 : World} {col col1 col2 : Nat → Nat} {a : Nat} (h : Fr w col w1 col1 a) (h2 : Fr w1 col1 w2 col2 a) : Fr w col w2 col2 a := by
  obtain ⟨S, k, hS⟩ := h.kept
  obtain ⟨T, k2, hT⟩ := h2.kept
  have hz := k.size
  refine ⟨⟨S ++ T, (k.mono (fun i hi => Or.inl (List.mem_append_left _ hi))).trans k2 (fun i hi => Or.inl (List.mem_append_right _ hi)), fun b hb hlt => ?_⟩, fun b hb h7 => ?_⟩
  · rcases List.mem_append.1 hb with q | q
    · exact hS b q hlt
    · by_cases h7 : 7 ≤ col b
      · have := hT b q (by omega)
        rw [h.same b hlt h7] at this
        exact this
      · omega
  · rw [h2.same b (by omega) (by rw [h.same b hb h7]; exact h7), h.same b hb h7]
theorem Fr.pure {w w1 w2 : World} {col col1 : Nat → Nat} {a : Nat} (h : Fr w col w1 col1 a) (k : Kept [] w1 w2) : Fr w col w2 col1 a :=
  h.trans ⟨⟨[], k, fun b hb => by cases hb⟩, fun _ _ _ => rfl⟩
/-- The book's own calls leave whatever else. -/
theorem Fr.of0 {w w' : World} {col col' : Nat → Nat} (h : Fr w col w' col' 0) (a : Nat) : Fr w col w' col' a := by
  obtain ⟨S, k, hS⟩ := h.kept
  exact ⟨⟨S, k, fun b hb hlt => by have := hS b hb hlt; omega⟩, h.same⟩
/-- Blocks of other colours are as they were. -/
theorem Fr.keeps {w w' : World} {col col' : Nat → Nat} {a : Nat} (h : Fr w col w' col' a) : ∃ S, Kept S w w' ∧ ∀ b, b < w.heap.size → 7 ≤ col b → col b ≠ a → col b ≠ a + 1 → b ∉ S := by
  obtain ⟨S, k, hS⟩ := h.kept
  exact ⟨S, k, fun b hb h7 h1 h2 hm => by have := hS b hm hb; omega⟩
theorem Bkd.lt {w : World} {k N : Nat} {col : Nat → Nat} (h : Bkd w k col N) : k < w.heap.size ∧ col k = 6 := by
  obtain ⟨_, _, _, _, _, _, _, _, _, _, _, _, _, _, _, B, -⟩ := h
  exact ⟨block_lt B.box, B.ck⟩
theorem Bkd.more {w : World} {k N M : Nat} {col : Nat → Nat} (h : Bkd w k col N) (hm : N ≤ M) : Bkd w k col M := by
  obtain ⟨lv, mv, hv, tv, fv, wv, vs, fs, ms, hs, hb, ts, xs, ys, xb, B, h1, h2, h3, h4⟩ := h
  exact ⟨lv, mv, hv, tv, fv, wv, vs, fs, ms, hs, hb, ts, xs, ys, xb, B, by omega, h2, h3, h4⟩
theorem Bkd.kept {w w' : World} {k N : Nat} {col col' : Nat → Nat} {S : List Nat} (h : Bkd w k col N) (hk : Kept S w w') (hd : ∀ b ∈ S, b < w.heap.size → 7 ≤ col b) (hc : ∀ b, b < w.heap.size → col' b = col b) : Bkd w' k col' N := by
  obtain ⟨lv, mv, hv, tv, fv, wv, vs, fs, ms, hs, hb, ts, xs, ys, xb, B, h1, h2, h3, h4⟩ := h
  exact ⟨lv, mv, hv, tv, fv, wv, vs, fs, ms, hs, hb, ts, xs, ys, xb, ((B.half.recol (fun b hb _ => hc b hb)).kept hk (fun b hb hlt => by rw [hc b hlt]; exact hd b hb hlt)).full, h1, h2, h3, h4⟩

namespace Bk
set_option maxHeartbeats 4000000 in
set_option maxRecDepth 100000 in
theorem owns_any (w : World) (k : Nat) (col : Nat → Nat) (N : Nat) (v : Value) (bs : List UInt8) (hN : N ≤ 1000000000) (hsz : bs.length ≤ 1100000000) (hv : Hid (Own w 0 v bs)) (hvc : Hid (∀ b, v.ownBlock = some b → col b = 7)) (h : Hid (Bkd w k col N)) :
    Calls Try.prog 23 #[.pointer (some ⟨k, 0, none⟩), v] w fun e w' => e = .returned (.tuple #[]) ∧ ∃ col', Hid (Bkd w' k col' (N + 5)) ∧ Hid (∃ S, Kept S w w' ∧ ∀ b ∈ S, b < w.heap.size → col b ≤ 6) ∧ Hid (∀ b, b < w.heap.size → v.ownBlock ≠ some b → col' b = col b) := by
  obtain ⟨lv, mv, hv', tv, fv, wv, vs, fs, ms, hs, hb, ts, xs, ys, xb, B, q1, q2, q3, q4⟩ := h.out
  obtain ⟨i0, hi0, hz00, hz01, hz02⟩ := info_parts info_u8
  obtain ⟨i1, hi1, hz10, hz11, hz12⟩ := info_parts info_sl
  obtain ⟨a, c, rfl⟩ := own_slice hv.out
  have RS := Lib.hid ((Src.of_own hv.out).rowsrc)
  have hxl : xb.length ≤ 1000000000 := by omega
  have BB := Lib.hid B
  have Q := Lib.hid (And.intro q1 (And.intro q2 (And.intro q3 q4)))
  clear B q1 q2 q3 q4 h
  go_enter Try.func23, Try.ntmps23
  go_wp2_with (at_builtin; refine wpList_append_src w rfl (.tmp 5) (.tmp 6) 22 rfl w.heap.size 5 i0 (.int .u8 0) 1 1 Try.underlying22 hi0 hz00 hz01 hz02 rfl (by decide) (.slice none 0 0) 0 [] rfl (World.ownsRow_nil _ _ _ _) (.slice a bs.length c) bs.length (bs.map bv) rfl RS.out (by rw [List.length_map]; omega) (by intro u hu; obtain ⟨b, -, rfl⟩ := List.mem_map.1 hu; rfl) (by unfold maxLen; omega) (by omega) (Nat.le_refl _) ?_; intro v1 w1 hown1 hgrow1 hat1; have O1 : Hid (Own w1 w.heap.size v1 bs) := (by have := hown1; rw [Nat.zero_add, List.nil_append] at this; exact this); have K1 : Hid (Kept [] w w1) := (Kept.refl [] w).grown hgrow1 (fun k e => by cases e); clear hown1 hgrow1 hat1; refine Hid.out ?_)
  obtain ⟨col1, hc1⟩ : ∃ col1 : Nat → Nat, col1 = fun b => if b < w.heap.size then (if (Value.slice a bs.length c).ownBlock = some b then 4 else col b) else 5 := ⟨_, rfl⟩
  have hz1 := K1.out.size
  have VB : ∀ b, (Value.slice a bs.length c).ownBlock = some b → b < w.heap.size ∧ col1 b = 4 := fun b hb => by
    have hlt := (hv.out.lt b hb).2
    exact ⟨hlt, by rw [hc1]; simp only; rw [if_pos hlt, if_pos hb]⟩
  have CO : ∀ b, b < w.heap.size → (Value.slice a bs.length c).ownBlock ≠ some b → col1 b = col b := fun b hb hne => by
    rw [hc1]; simp only; rw [if_pos hb, if_neg hne]
  have B1 : Hid (BH w1 k lv mv hv' tv fv wv vs fs ms hs hb ts xs xb ys xb col1) := (BB.out.half.recol (fun b hb h6 => CO b hb (fun e => by have := hvc.out b e; omega))).kept K1.out (fun b hb => by cases hb)
  have VO : Own w1 0 (.slice a bs.length c) bs := ownsRow_kept hv.out K1.out (fun b _ hm => by cases hm)
  have VC : ∀ b, (Value.slice a bs.length c).ownBlock = some b → col1 b = 4 ∧ b < w1.heap.size := fun b hb => ⟨(VB b hb).2, by have := (VB b hb).1; omega⟩
  have YC : Hid (∀ b, v1.ownBlock = some b → col1 b = 5 ∧ b < w1.heap.size) := fun b hb => by
    have := O1.out.lt b hb
    exact ⟨by rw [hc1]; simp only; rw [if_neg (by omega)], this.2⟩
  have ND : ∀ e ∈ xs, ∀ b, (Value.slice a bs.length c).ownBlock = some b → e.ownBlock ≠ some b := fun e he b hb h2 => by
    obtain ⟨i, hi, rfl⟩ := List.mem_iff_getElem.1 he
    have h4 := (BB.out.f.el i hi (by rw [← BB.out.f.len]; exact hi) (Nat.zero_le _)).2 b h2
    have := hvc.out b hb
    omega
  have VOh := Lib.hid VO
  have VCh := Lib.hid VC
  have NDh := Lib.hid ND
  have COh := Lib.hid CO
  have hxl1 : xs.length ≤ 1000000000 := by rw [BB.out.f.len]; exact hxl
  have hyl1 : ys.length ≤ 1000000000 := by rw [BB.out.s.len]; exact hxl
  have FO : Hid (w1.ownsRow 0 22 1 fv xs.length xs) := B1.out.f.own
  have SO : Hid (w1.ownsRow 0 22 1 wv ys.length ys) := B1.out.s.own
  obtain ⟨fa, fc, rfl⟩ := own_slice FO.out
  obtain ⟨sa, sc, rfl⟩ := own_slice SO.out
  obtain ⟨c0, c1, c2, c3, c4, c5, fz⟩ := sixK B1.out.box
  obtain ⟨ya, yc, rfl⟩ := own_slice O1.out
  clear hc1 VB CO VO VC ND RS hxl
  refine Lib.hid ?_
  go_wp2_with (at_builtin; refine wpList_append_src (w1.alloc (.cells #[.slice a bs.length c] 22)) rfl (.tmp 12) (.tmp 14) 26 rfl 0 22 i1 (.slice none 0 0) 1 24 Try.underlying26 hi1 hz10 hz11 hz12 rfl (by decide) (.slice fa xs.length fc) xs.length xs rfl (FO.out.alloc _) (.slice (some ⟨w1.heap.size, 0, none⟩) 1 1) 1 [.slice a bs.length c] rfl (Or.inr ⟨_, _, rfl, World.news_of_block (cs := #[.slice a bs.length c]) (by exact heap_alloc_new w1 _)⟩) rfl (by intro u hu; simp at hu; subst hu; rfl) (by unfold maxLen; omega) (by omega) (Nat.zero_le _) ?_; intro v2 w2 hown2 hgrow2 hat2; obtain ⟨X2, Y2, K2⟩ := B1.out.pushf ((Kept.refl [] w1).alloc _) (World.ownsRow.alloc VOh.out _) VCh.out NDh.out rfl hown2 hgrow2 hat2; obtain ⟨n0, n1, n2, n3, n4, n5, nz⟩ := sixK Y2; have f4 := nz 4; obtain ⟨xa, xc, rfl⟩ := own_slice hown2; have X2h := Lib.hid X2; have K2h := Lib.hid K2; clear hown2 hgrow2 hat2 X2 Y2 K2 nz; refine Hid.out ?_)
  have hz2 := K2h.out.size
  have YO : Hid (Own (w2.setCell ⟨k, 4, none⟩ (.slice xa (xs.length + 1) xc)) 0 (.slice ya bs.length yc) bs) := by
    refine ownsRow_kept (World.ownsRow.mono O1.out (Nat.zero_le _)) K2h.out (fun b hb hm => ?_)
    have h5 := (YC.out b hb).1
    rcases List.mem_cons.1 hm with rfl | e
    · have := B1.out.ck; omega
    · have := B1.out.f.blk b (by simpa using e); omega
  have hsz3 : (w2.setCell ⟨k, 4, none⟩ (.slice xa (xs.length + 1) xc)).heap.size = w2.heap.size := by simp
  have YC3 : Hid (∀ b, (Value.slice ya bs.length yc).ownBlock = some b → upd col1 (w1.alloc (.cells #[.slice a bs.length c] 22)).heap.size 4 b = 5 ∧ b < (w2.setCell ⟨k, 4, none⟩ (.slice xa (xs.length + 1) xc)).heap.size) := fun b hb => by
    have h5 := YC.out b hb
    exact ⟨by rw [upd_old (by simp; omega)]; exact h5.1, by rw [hsz3]; rw [hsz3] at hz2; omega⟩
  have SO3 : Hid ((w2.setCell ⟨k, 4, none⟩ (.slice xa (xs.length + 1) xc)).ownsRow 0 22 1 (.slice sa ys.length sc) ys.length ys) := X2h.out.s.own
  obtain ⟨e0, e1, e2, e3, e4, e5, ez⟩ := sixK X2h.out.box
  clear c0 c1 c2 c3 c4 c5 fz n0 n1 n2 n3
  refine Lib.hid ?_
  go_wp2_with (at_builtin; refine wpList_append_src ((w2.setCell ⟨k, 4, none⟩ (.slice xa (xs.length + 1) xc)).alloc (.cells #[.slice ya bs.length yc] 22)) rfl (.tmp 22) (.tmp 24) 26 rfl 0 22 i1 (.slice none 0 0) 1 24 Try.underlying26 hi1 hz10 hz11 hz12 rfl (by decide) (.slice sa ys.length sc) ys.length ys rfl (SO3.out.alloc _) (.slice (some ⟨w2.heap.size, 0, none⟩) 1 1) 1 [.slice ya bs.length yc] rfl (Or.inr ⟨_, _, rfl, World.news_of_block (cs := #[.slice ya bs.length yc]) (by exact alloc_atK _ hsz3.symm)⟩) rfl (by intro u hu; simp at hu; subst hu; rfl) (by unfold maxLen; omega) (by omega) (Nat.zero_le _) ?_; intro v4 w4 hown4 hgrow4 hat4; obtain ⟨X4, Y4, K4⟩ := X2h.out.pushw ((Kept.refl [] _).alloc _) (World.ownsRow.alloc YO.out _) YC3.out rfl hown4 hgrow4 hat4; obtain ⟨n0, n1, n2, n3, n4, n5, nz⟩ := sixK Y4; have f5 := nz 5; obtain ⟨za, zc, rfl⟩ := own_slice hown4; have X4h := Lib.hid X4; have K4h := Lib.hid K4; clear hown4 hgrow4 hat4 X4 Y4 K4 nz)
  go_end0
  obtain ⟨q1, q2, q3, q4⟩ := Q.out
  refine ⟨rfl, _, ⟨_, _, _, _, _, _, _, _, _, _, _, _, _, _, _, X4h.out.full, by simp; omega, q2, q3, fun x hx => ?_⟩, ⟨(k :: (Value.slice fa xs.length fc).ownBlock.toList) ++ (k :: (Value.slice sa ys.length sc).ownBlock.toList), ?_, fun b hb hlt => ?_⟩, fun b hb hne => ?_⟩
  · rcases List.mem_append.1 hx with e | e
    · exact q4 x e
    · simp at e; rw [e]; exact hsz
  · exact ((K1.out.mono (T := (k :: (Value.slice fa xs.length fc).ownBlock.toList) ++ (k :: (Value.slice sa ys.length sc).ownBlock.toList)) (fun i hi => by cases hi)).trans K2h.out (fun i hi => Or.inl (List.mem_append_left _ hi))).trans K4h.out (fun i hi => Or.inl (List.mem_append_right _ hi))
  · rcases List.mem_append.1 hb with e | e
    · rcases List.mem_cons.1 e with rfl | e
      · have := BB.out.ck; omega
      · have := BB.out.f.blk b (by simpa using e); omega
    · rcases List.mem_cons.1 e with rfl | e
      · have := BB.out.ck; omega
      · have := BB.out.s.blk b (by simpa using e); omega
  · rw [upd_old (by rw [World.size_alloc, hsz3]; rw [hsz3] at hz2; omega), upd_old (by simp; omega)]
    exact COh.out b hb hne
end Bk
end Go.Proofs.Ytgdaiajjnfnomaa
