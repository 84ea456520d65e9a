/- FrameChunks: the second list, while the range goes on. -/
import Derived.Test.YtndhbegekicfaaaChi
namespace Go.Proofs.Ytndhbegekicfaaa
set_option linter.unusedVariables false
open Go.RowKit Go.Shelf

/-- The second list while the range over All's iterator goes on. D: its box. -/
structure ChR (w8 : World) (D : Nat) (Rs : List Nat) (pre : List (Value × List UInt8)) (W : World) : Prop where
  got : ∃ gw us U, FrL W gw us (pre.map (·.2)) U ∧ W.heap[D]? = some (.cells #[gw] 26 (0, 0)) ∧ ∀ k ∈ U, w8.heap.size + 2 ≤ k ∧ k ∉ Rs
  rs : ∀ i ∈ Rs, w8.heap.size + 2 ≤ i ∧ i < W.heap.size
  kept : Kept [D] w8 W
  big : w8.heap.size + 2 ≤ W.heap.size
theorem ChR.turn {w8 A B : World} {D : Nat} {Rs Rs' : List Nat} {s : List (Value × List UInt8)} (hD : D < w8.heap.size) (h : ChR w8 D Rs s A) (k : Kept (w8.heap.size :: (w8.heap.size + 1) :: Rs) A B) (g : Grows Rs Rs' A B) : ChR w8 D Rs' s B := by
  obtain ⟨gw, us, U, h1, h2, h3⟩ := h.got
  have hbig := h.big
  have hks := k.size
  have nD : D ∉ w8.heap.size :: (w8.heap.size + 1) :: Rs := fun hm => by
    simp only [List.mem_cons] at hm
    rcases hm with q | q | q
    · omega
    · omega
    · have := (h.rs D q).1; omega
  refine ⟨⟨gw, us, U, h1.kept k (fun i hi hm => ?_), (k.block D (block_lt h2) nD).trans h2, fun i hi => ⟨(h3 i hi).1, fun hm => ?_⟩⟩, fun i hi => ?_, h.kept.trans k (fun i hi => ?_), by omega⟩
  · have a := h3 i hi
    simp only [List.mem_cons] at hm
    rcases hm with q | q | q
    · omega
    · omega
    · exact a.2 q
  · have a := h1.lt i hi
    rcases g i hm with q | q
    · exact (h3 i hi).2 q
    · omega
  · rcases g i hi with q | q
    · have := h.rs i q; omega
    · omega
  · simp only [List.mem_cons] at hi
    rcases hi with q | q | q
    · right; omega
    · right; omega
    · right; have := (h.rs i q).1; omega
/-- One more frame. -/
theorem ChR.push {w8 W W1 w1 : World} {D n : Nat} {Rs U : List Nat} {pre : List (Value × List UInt8)} {xv gw gv' : Value} {xb : List UInt8} {us : List Value} (hD : D < w8.heap.size)
    (rs : ∀ i ∈ Rs, w8.heap.size + 2 ≤ i ∧ i < W.heap.size) (hk : Kept [D] w8 W) (big : w8.heap.size + 2 ≤ W.heap.size) (hF : FrL W gw us (pre.map (·.2)) U) (hb : W.heap[D]? = some (.cells #[gw] 26 (0, 0)))
    (hU : ∀ k ∈ U, w8.heap.size + 2 ≤ k ∧ k ∉ Rs) (hx : Own W 0 xv xb) (hx2 : ∀ k, xv.ownBlock = some k → w8.heap.size + 2 ≤ k ∧ k ∉ Rs)
    (hW : Kept [] W W1) (hn : n = us.length) (hown : w1.ownsRow 0 23 1 gv' (n + 1) (us ++ [xv])) (hgrow : W1.grownBy w1 gw.ownBlock) (hat : gv'.ownBlock = gw.ownBlock ∨ gv'.ownBlock = some W1.heap.size) :
    (∃ S, Kept S W (w1.setCell ⟨D, 0, none⟩ gv') ∧ ∀ i ∈ S, i = D ∨ i ∈ U) ∧ ChR w8 D Rs (pre ++ [(xv, xb)]) (w1.setCell ⟨D, 0, none⟩ gv') ∧ w1.heap[D]? = some (.cells #[gw] 26 (0, 0)) := by
  obtain ⟨g1, k1, -⟩ := hF.push hW (ownsRow_kept hx hW (fun i _ hm => by simp at hm)) hn hown hgrow hat
  have hgU : ∀ k ∈ gw.ownBlock.toList, k ∈ U := fun k hk => hF.blk k (by simpa using hk)
  have nD : D ∉ gw.ownBlock.toList := fun hm => by have := (hU D (hgU D hm)).1; omega
  have hb1 : w1.heap[D]? = some (.cells #[gw] 26 (0, 0)) := (k1.block D (block_lt hb) nD).trans hb
  have hset := heap_set (i := 0) gv' hb1
  have hsz1 := k1.size
  have hszW := hW.size
  have hall : ∀ k ∈ U ++ (xv.ownBlock.toList ++ gv'.ownBlock.toList), w8.heap.size + 2 ≤ k ∧ k ∉ Rs := fun k hm => by
    rcases List.mem_append.1 hm with q | q
    · exact hU k q
    · rcases List.mem_append.1 q with q | q
      · exact hx2 k (by simpa using q)
      · rcases hat with e | e
        · rw [e] at q; exact hU k (hgU k q)
        · rw [e] at q
          simp at q
          exact ⟨by omega, fun hm => by have := (rs k hm).2; omega⟩
  have ks : Kept [D] w1 (w1.setCell ⟨D, 0, none⟩ gv') := (Kept.refl _ _).setCell (Or.inl (by simp)) _
  have kk : Kept (D :: gw.ownBlock.toList) W (w1.setCell ⟨D, 0, none⟩ gv') := (k1.mono (T := D :: gw.ownBlock.toList) (fun i hi => Or.inl (by simp at hi; simp [hi]))).trans ks (fun i hi => Or.inl (by simp at hi; simp [hi]))
  refine ⟨⟨_, kk, fun i hi => ?_⟩, ⟨⟨gv', us ++ [xv], _, ?_, by simpa using hset, hall⟩, fun i hi => ⟨(rs i hi).1, ?_⟩, hk.trans kk (fun i hi => ?_), by have := kk.size; omega⟩, hb1⟩
  · rcases List.mem_cons.1 hi with q | q
    · exact Or.inl q
    · exact Or.inr (hgU i q)
  · rw [List.map_append]
    exact g1.kept ks (fun k hm he => by have := (hall k hm).1; simp at he; omega)
  · have := (rs i hi).2; have := kk.size; omega
  · rcases List.mem_cons.1 hi with q | q
    · left; simp [q]
    · right; have := (hU i (hgU i q)).1; omega
theorem ChR.start {w8 W : World} {D : Nat} {Rs : List Nat} (hb : w8.heap[D]? = some (.cells #[.slice none 0 0] 26 (0, 0))) (rs : ∀ i ∈ Rs, w8.heap.size + 2 ≤ i ∧ i < W.heap.size) (hk : Kept [] w8 W) (big : w8.heap.size + 2 ≤ W.heap.size) : ChR w8 D Rs [] W :=
  ⟨⟨_, [], [], FrL.nil W, (hk.block D (block_lt hb) (by simp)).trans hb, fun k hk => by simp at hk⟩, rs, hk.mono (fun i hi => by simp at hi), big⟩
theorem frozen_of {w : World} {D : Nat} {cs : Array Value} {t : TypeId} (h : w.heap[D]? = some (.cells cs t (0, 0))) : w.frozen? ⟨D, 0, none⟩ = false := by simp [World.frozen?, h]
theorem FrL.at2 {w : World} {v : Value} {vs : List Value} {fs : List (List UInt8)} {T : List Nat} {N : Nat} (h : FrL w v vs fs T) (hN : N = vs.length) (i : Nat) (hi : i < fs.length) :
    ∃ b c y, v = .slice (some ⟨b, 0, none⟩) N c ∧ N ≤ c ∧ w.cell? ⟨b, i, none⟩ = some y ∧ Own w 0 y fs[i] ∧ ∀ k, y.ownBlock = some k → k ∈ T := by
  obtain ⟨b, c, y, h1, h2, h3⟩ := h.at i hi
  have e : N = fs.length := by rw [hN, h.len]
  exact ⟨b, c, y, by rw [h1, e], by omega, h3⟩
theorem rowSrc_own {w : World} {v : Value} {bs : List UInt8} (h : Own w 0 v bs) : RowSrc w v bs.length (bs.map bv) := by
  rcases h.2 with ⟨e, h0⟩ | ⟨g, cap, cur, e, _⟩
  · have h0' : bs = [] := List.eq_nil_of_length_eq_zero (by omega)
    subst h0'
    exact Or.inl ⟨e, rfl, rfl⟩
  · exact Or.inr ⟨⟨g, 0, none⟩, cap, e, fun j u hu => h.cells (g := g) (by rw [e]; rfl) j u hu⟩
theorem flat_take (fr : List (List UInt8)) (k : Nat) : (fr.take k).flatten.length ≤ fr.flatten.length := by
  have := congrArg (fun l => (List.flatten l).length) (List.take_append_drop k fr)
  simp only [List.flatten_append, List.length_append] at this
  omega
theorem flat_succ (fr : List (List UInt8)) (k : Nat) (hk : k < fr.length) : (fr.take (k + 1)).flatten = (fr.take k).flatten ++ fr[k] := by
  rw [List.take_succ_eq_append_getElem hk, List.flatten_append, List.flatten_cons, List.flatten_nil, List.append_nil]
theorem row_push {W wr w' : World} {rv v' : Value} {fr : List (List UInt8)} {k : Nat} {acc xs : List UInt8} (hk : k < fr.length) (hxs : xs = fr[k]) (ha : acc = (fr.take k).flatten) (h : Own wr W.heap.size rv acc) (kk : Kept [] W wr)
    (hown : w'.ownsRow W.heap.size 5 1 v' (acc.length + xs.length) (acc.map bv ++ xs.map bv)) (hg : wr.grownBy w' rv.ownBlock) :
    Own w' W.heap.size v' (fr.take (k + 1)).flatten ∧ Kept [] W w' := by
  subst hxs ha
  refine ⟨?_, kk.grown hg (fun i hi => Or.inr (h.lt i hi).1)⟩
  unfold Own
  rw [flat_succ fr k hk, List.length_append, List.map_append]
  exact hown
theorem src_take {w : World} {ad : Addr} {c n : Nat} {bs : List UInt8} {T : List Nat} (h : Src w (.slice (some ad) bs.length c) bs T) (hn : n ≤ bs.length) : Src w (.slice (some ad) n c) (bs.take n) T := by
  obtain ⟨a', c', e1, -, h3⟩ := h
  cases e1
  have hln : (bs.take n).length = n := by rw [List.length_take]; omega
  refine ⟨some ad, c, by rw [hln], (fun e => by cases e), fun ad' e => ?_⟩
  cases e
  refine ⟨fun hp => (h3 ad rfl).1 (by omega), fun j u hu => ?_⟩
  rw [List.map_take, List.getElem?_take] at hu
  split at hu
  · exact (h3 ad rfl).2 j u hu
  · cases hu
theorem src_none {w : World} {n c : Nat} {bs : List UInt8} {T : List Nat} (h : Src w (.slice none n c) bs T) : bs = [] ∧ c = 0 := by
  obtain ⟨a', c', e1, h2, -⟩ := h
  cases e1
  exact h2 rfl
theorem whole_want {st : CS} (hd : ¬ st.dead = true) (hw : st.whole = false) : 0 < st.want := by
  unfold CS.whole at hw
  have hd' : st.dead = false := by simpa using hd
  rw [hd'] at hw
  simp at hw
  omega
end Go.Proofs.Ytndhbegekicfaaa
