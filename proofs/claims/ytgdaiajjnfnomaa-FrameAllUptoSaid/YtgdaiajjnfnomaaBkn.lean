/- A book that takes a list: what stays; the law's owns, turn and ends, in short. -/
import Derived.Test.YtgdaiajjnfnomaaBoc
import Derived.Test.YtgdaiajjnfnomaaFrs
import Derived.StillTailTactics
namespace Go.Proofs.Ytgdaiajjnfnomaa
set_option linter.unusedVariables false
open Go.RowKit

/-- A book, its two new lists apart. -/
structure BH (w : World) (k : Nat) (lv mv hv tv fv wv : Value) (vs : List Value) (fs : List (List UInt8)) (ms : List UInt8) (hs : List Value) (hb : List (List UInt8)) (ts xs : List Value) (xb : List (List UInt8)) (ys : List Value) (yb : List (List UInt8)) (col : Nat → Nat) : Prop where
  box : w.heap[k]? = some (.cells #[lv, mv, hv, tv, fv, wv] 28 (0, 0))
  l : FrP w lv vs fs (fun b => col b = 0) 0
  m : Own w 0 mv ms
  mc : ∀ b, mv.ownBlock = some b → col b = 1
  lm : ms.length = fs.length
  uni : Uni fs ms
  h : FrP w hv hs hb (fun b => col b = 2) 0
  t : FrP w tv ts hb (fun b => col b = 3) 0
  f : FrP w fv xs xb (fun b => col b = 4) 0
  s : FrP w wv ys yb (fun b => col b = 5) 0
  ck : col k = 6
  hd : Dist hs
  fd : Dist xs
section
variable {w W w1 w' : World} {k n : Nat} {lv mv hv tv fv wv : Value} {vs : List Value} {fs : List (List UInt8)} {ms : List UInt8} {hs : List Value} {hb : List (List UInt8)} {ts xs : List Value} {xb : List (List UInt8)} {ys : List Value} {yb : List (List UInt8)} {col col' : Nat → Nat}
theorem BS.half (h : BS w k lv mv hv tv fv wv vs fs ms hs hb ts xs ys xb col) : BH w k lv mv hv tv fv wv vs fs ms hs hb ts xs xb ys xb col := ⟨h.box, h.l, h.m, h.mc, h.lm, h.uni, h.h, h.t, h.f, h.s, h.ck, h.hd, h.fd⟩
theorem BH.full (h : BH w k lv mv hv tv fv wv vs fs ms hs hb ts xs xb ys xb col) : BS w k lv mv hv tv fv wv vs fs ms hs hb ts xs ys xb col := ⟨h.box, h.l, h.m, h.mc, h.lm, h.uni, h.h, h.t, h.f, h.s, h.ck, h.hd, h.fd⟩
/-- Other colours, for what is none of its blocks. -/
theorem BH.recol (h : BH w k lv mv hv tv fv wv vs fs ms hs hb ts xs xb ys yb col) (hc : ∀ b, b < w.heap.size → col b ≤ 6 → col' b = col b) : BH w k lv mv hv tv fv wv vs fs ms hs hb ts xs xb ys yb col' :=
  ⟨h.box, h.l.recol (fun b hb e => by rw [hc b hb (by omega)]; exact e), h.m, fun b hb => by rw [hc b (h.m.lt b hb).2 (by rw [h.mc b hb]; decide)]; exact h.mc b hb, h.lm, h.uni, h.h.recol (fun b hb e => by rw [hc b hb (by omega)]; exact e), h.t.recol (fun b hb e => by rw [hc b hb (by omega)]; exact e), h.f.recol (fun b hb e => by rw [hc b hb (by omega)]; exact e), h.s.recol (fun b hb e => by rw [hc b hb (by omega)]; exact e), by rw [hc k (block_lt h.box) (by rw [h.ck]; decide)]; exact h.ck, h.hd, h.fd⟩
theorem BH.kept {S : List Nat} (h : BH w k lv mv hv tv fv wv vs fs ms hs hb ts xs xb ys yb col) (hk : Kept S w w') (hd : ∀ b ∈ S, b < w.heap.size → 7 ≤ col b) : BH w' k lv mv hv tv fv wv vs fs ms hs hb ts xs xb ys yb col := by
  have hc : ∀ (c : Nat), c ≤ 6 → ∀ b ∈ S, col b = c → w.heap.size ≤ b := fun c hc b hb e => by
    by_cases hlt : b < w.heap.size
    · have := hd b hb hlt; omega
    · omega
  refine ⟨(hk.block k (block_lt h.box) (fun hm => by have := hc 6 (by decide) k hm h.ck; have := block_lt h.box; omega)).trans h.box, h.l.kept hk (hc 0 (by decide)), ownsRow_kept h.m hk (fun b e hm => ?_), h.mc, h.lm, h.uni, h.h.kept hk (hc 2 (by decide)), h.t.kept hk (hc 3 (by decide)), h.f.kept hk (hc 4 (by decide)), h.s.kept hk (hc 5 (by decide)), h.ck, h.hd, h.fd⟩
  have := hc 1 (by decide) b hm (h.mc b e)
  have := (h.m.lt b e).2
  omega
/-- A list is taken in among the fresh ones. -/
theorem BH.pushf {fv' y : Value} {g : List UInt8} (h : BH w k lv mv hv tv fv wv vs fs ms hs hb ts xs xb ys yb col) (hW : Kept [] w W) (hx : Own W 0 y g) (hxc : ∀ b, y.ownBlock = some b → col b = 4 ∧ b < w.heap.size) (hnew : ∀ e ∈ xs, ∀ b, y.ownBlock = some b → e.ownBlock ≠ some b) (hn : n = xs.length)
    (hown : w1.ownsRow 0 22 1 fv' (n + 1) (xs ++ [y])) (hgrow : W.grownBy w1 fv.ownBlock) (hat : fv'.ownBlock = fv.ownBlock ∨ fv'.ownBlock = some W.heap.size) :
    BH (w1.setCell ⟨k, 4, none⟩ fv') k lv mv hv tv fv' wv vs fs ms hs hb ts (xs ++ [y]) (xb ++ [g]) ys yb (upd col W.heap.size 4) ∧ w1.heap[k]? = some (.cells #[lv, mv, hv, tv, fv, wv] 28 (0, 0)) ∧ Kept (k :: fv.ownBlock.toList) w (w1.setCell ⟨k, 4, none⟩ fv') := by
  have hs0 := hW.size
  have hu : ∀ b, b < w.heap.size → upd col W.heap.size 4 b = col b := fun b hb => upd_old (by omega)
  have hck := h.ck
  have hkl := block_lt h.box
  have hfb := h.f.blk
  have f1 : FrP w fv xs xb (fun b => upd col W.heap.size 4 b = 4) 0 := h.f.recol (fun b hb e => by rw [hu b hb]; exact e)
  obtain ⟨f2, k2⟩ := f1.push hW hx (fun b hb => by rw [hu b (hxc b hb).2]; exact (hxc b hb).1) hn hown hgrow (fun b hb => by
    rcases hat with e | e
    · rw [e] at hb; rw [hu b (h.f.own.lt b hb).2]; exact hfb b hb
    · rw [e] at hb; cases hb; exact upd_new)
  have k3 : Kept fv.ownBlock.toList w w1 := (hW.mono (T := fv.ownBlock.toList) (fun i hi => by simp at hi)).trans k2 (fun i hi => Or.inl hi)
  have hb1 : w1.heap[k]? = some (.cells #[lv, mv, hv, tv, fv, wv] 28 (0, 0)) := (k3.block k hkl (fun hm => by have := hfb k (by simpa using hm); omega)).trans h.box
  have hset := heap_set (i := 4) fv' hb1
  have ks : Kept [k] w1 (w1.setCell ⟨k, 4, none⟩ fv') := (Kept.refl _ _).setCell (p := ⟨k, 4, none⟩) (Or.inl (by simp)) fv'
  have ck6 : ∀ (c : Nat), c ≠ 6 → ∀ b ∈ [k], upd col W.heap.size 4 b = c → w1.heap.size ≤ b := fun c hc b hb e => by simp at hb; subst hb; rw [hu b hkl] at e; omega
  have rc : ∀ {v : Value} {us : List Value} {gs : List (List UInt8)} {c q : Nat}, FrP w v us gs (fun b => col b = c) q → c ≠ 4 → c ≠ 6 → FrP (w1.setCell ⟨k, 4, none⟩ fv') v us gs (fun b => upd col W.heap.size 4 b = c) q := fun {v us gs c q} hh h1 h2 =>
    ((hh.recol (Q := fun b => upd col W.heap.size 4 b = c) (fun b hb e => by rw [hu b hb]; exact e)).kept k3 (fun b hb e => by
      by_cases hlt : b < w.heap.size
      · rw [hu b hlt] at e; have := hfb b (by simpa using hb); omega
      · omega)).kept ks (ck6 c h2)
  refine ⟨⟨by simpa using hset, rc h.l (by decide) (by decide), ?_, fun b hb => by rw [hu b (h.m.lt b hb).2]; exact h.mc b hb, h.lm, h.uni, rc h.h (by decide) (by decide), rc h.t (by decide) (by decide), f2.kept ks (ck6 4 (by decide)), rc h.s (by decide) (by decide), by rw [hu k hkl]; exact hck, h.hd, ?_⟩, hb1, (k3.mono (T := k :: fv.ownBlock.toList) (fun i hi => Or.inl (List.mem_cons_of_mem _ hi))).trans ks (fun i hi => Or.inl (by simp at hi; simp [hi]))⟩
  · exact ownsRow_kept (ownsRow_kept h.m k3 (fun b e hm => by have := h.mc b e; have := hfb b (by simpa using hm); omega)) ks (fun b e hm => by simp at hm; subst hm; have := h.mc b e; omega)
  · intro i j hi hj hij b hb
    simp only [List.length_append, List.length_singleton] at hi hj
    by_cases h1 : i < xs.length
    · rw [List.getElem_append_left h1] at hb
      by_cases h2 : j < xs.length
      · rw [List.getElem_append_left h2]
        exact h.fd i j h1 h2 hij b hb
      · rw [List.getElem_append_right (by omega)]
        simp only [show j - xs.length = 0 by omega, List.getElem_singleton]
        exact fun e => hnew _ (List.getElem_mem h1) b e hb
    · rw [List.getElem_append_right (by omega)] at hb
      simp only [show i - xs.length = 0 by omega, List.getElem_singleton] at hb
      rw [List.getElem_append_left (by omega)]
      exact hnew _ (List.getElem_mem (by omega)) b hb
/-- What it was is taken in. -/
theorem BH.pushw {wv' y : Value} {g : List UInt8} (h : BH w k lv mv hv tv fv wv vs fs ms hs hb ts xs xb ys yb col) (hW : Kept [] w W) (hx : Own W 0 y g) (hxc : ∀ b, y.ownBlock = some b → col b = 5 ∧ b < w.heap.size) (hn : n = ys.length)
    (hown : w1.ownsRow 0 22 1 wv' (n + 1) (ys ++ [y])) (hgrow : W.grownBy w1 wv.ownBlock) (hat : wv'.ownBlock = wv.ownBlock ∨ wv'.ownBlock = some W.heap.size) :
    BH (w1.setCell ⟨k, 5, none⟩ wv') k lv mv hv tv fv wv' vs fs ms hs hb ts xs xb (ys ++ [y]) (yb ++ [g]) (upd col W.heap.size 5) ∧ w1.heap[k]? = some (.cells #[lv, mv, hv, tv, fv, wv] 28 (0, 0)) ∧ Kept (k :: wv.ownBlock.toList) w (w1.setCell ⟨k, 5, none⟩ wv') := by
  have hs0 := hW.size
  have hu : ∀ b, b < w.heap.size → upd col W.heap.size 5 b = col b := fun b hb => upd_old (by omega)
  have hck := h.ck
  have hkl := block_lt h.box
  have hfb := h.s.blk
  have f1 : FrP w wv ys yb (fun b => upd col W.heap.size 5 b = 5) 0 := h.s.recol (fun b hb e => by rw [hu b hb]; exact e)
  obtain ⟨f2, k2⟩ := f1.push hW hx (fun b hb => by rw [hu b (hxc b hb).2]; exact (hxc b hb).1) hn hown hgrow (fun b hb => by
    rcases hat with e | e
    · rw [e] at hb; rw [hu b (h.s.own.lt b hb).2]; exact hfb b hb
    · rw [e] at hb; cases hb; exact upd_new)
  have k3 : Kept wv.ownBlock.toList w w1 := (hW.mono (T := wv.ownBlock.toList) (fun i hi => by simp at hi)).trans k2 (fun i hi => Or.inl hi)
  have hb1 : w1.heap[k]? = some (.cells #[lv, mv, hv, tv, fv, wv] 28 (0, 0)) := (k3.block k hkl (fun hm => by have := hfb k (by simpa using hm); omega)).trans h.box
  have hset := heap_set (i := 5) wv' hb1
  have ks : Kept [k] w1 (w1.setCell ⟨k, 5, none⟩ wv') := (Kept.refl _ _).setCell (p := ⟨k, 5, none⟩) (Or.inl (by simp)) wv'
  have ck6 : ∀ (c : Nat), c ≠ 6 → ∀ b ∈ [k], upd col W.heap.size 5 b = c → w1.heap.size ≤ b := fun c hc b hb e => by simp at hb; subst hb; rw [hu b hkl] at e; omega
  have rc : ∀ {v : Value} {us : List Value} {gs : List (List UInt8)} {c q : Nat}, FrP w v us gs (fun b => col b = c) q → c ≠ 5 → c ≠ 6 → FrP (w1.setCell ⟨k, 5, none⟩ wv') v us gs (fun b => upd col W.heap.size 5 b = c) q := fun {v us gs c q} hh h1 h2 =>
    ((hh.recol (Q := fun b => upd col W.heap.size 5 b = c) (fun b hb e => by rw [hu b hb]; exact e)).kept k3 (fun b hb e => by
      by_cases hlt : b < w.heap.size
      · rw [hu b hlt] at e; have := hfb b (by simpa using hb); omega
      · omega)).kept ks (ck6 c h2)
  refine ⟨⟨by simpa using hset, rc h.l (by decide) (by decide), ?_, fun b hb => by rw [hu b (h.m.lt b hb).2]; exact h.mc b hb, h.lm, h.uni, rc h.h (by decide) (by decide), rc h.t (by decide) (by decide), rc h.f (by decide) (by decide), f2.kept ks (ck6 5 (by decide)), by rw [hu k hkl]; exact hck, h.hd, h.fd⟩, hb1, (k3.mono (T := k :: wv.ownBlock.toList) (fun i hi => Or.inl (List.mem_cons_of_mem _ hi))).trans ks (fun i hi => Or.inl (by simp at hi; simp [hi]))⟩
  exact ownsRow_kept (ownsRow_kept h.m k3 (fun b e hm => by have := h.mc b e; have := hfb b (by simpa using hm); omega)) ks (fun b e hm => by simp at hm; subst hm; have := h.mc b e; omega)
end
end Go.Proofs.Ytgdaiajjnfnomaa
