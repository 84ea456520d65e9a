/- The law's goes: the book while a range goes on, the list of frames that grows beside it. -/
import Derived.Test.YtgdaiajjnfnomaaAlb
import Derived.Test.YtgdaiajjnfnomaaBkt
import Derived.Test.YtgdaiajjnfnomaaRgn
namespace Go.Proofs.Ytgdaiajjnfnomaa
set_option linter.unusedVariables false
open Go.RowKit Go.Shelf

theorem frozen_blk {w : World} {D : Nat} {cs : Array Value} {t : TypeId} (h : w.heap[D]? = some (.cells cs t (0, 0))) : w.frozen? ⟨D, 0, none⟩ = false := by simp [World.frozen?, h]
theorem wpIn_rangeFunc_break {F : Fence} {n : Nat} {P : Program} {β : Type} {g : Operand} {pt sl : Nat} {assign body : Code} {Q : Exit → Act → World → Prop} {a : Act} {w : World} {id : Nat}
    (hro : F.round = none) (h1 : 1 ≤ n) {gf : Nat} {lb : Array Value} (hg : a.eval g = .func (.func gf) #[] lb) (hFg : F.fn gf) (eg : ∀ args w, (callFunc gf args).run P w = .ok (.enter gf args) w)
    {C S : List (Value × β) → Prop} {Giv : List Nat → World → World → (Value × β) → Prop} {K0 : List Nat} {w0 : World} (hseq : IterSt F (n - 1) P gf lb (fun x => #[x.1]) C S Giv K0 w0) (hb0 : Kept [] w0 w) (hK0 : ∀ i ∈ K0, i < w.heap.size)
    (I : List Nat → List (Value × β) → World → Prop) (X : World → Prop) (hI : ∀ Rs Rs' s A B, I Rs s A → Kept (w.heap.size :: (w.heap.size + 1) :: Rs) A B → Grows Rs Rs' A B → I Rs' s B)
    (hX : ∀ A B, X A → Kept [w.heap.size + 1] A B → X B)
    (h0 : ∀ Rs W', (∀ i ∈ Rs, w.heap.size + 2 ≤ i ∧ i < W'.heap.size) → Kept [] w W' → w.heap.size + 2 ≤ W'.heap.size → I Rs [] W')
    (hassign : ∀ (l : Nat) (x : Value × β) (W : World) (K : Act → World → Prop), K { tmps := (a.tmps.setIfInBounds pt x.1).setIfInBounds sl x.1, defers := [] } W →
      assign.wpIn (F.inRound l) (n - 1 - 1) P (Exit.then K (fun _ _ _ => False)) { tmps := a.tmps.setIfInBounds pt x.1, defers := [] } W)
    (hbody : ∀ (l : Nat) (Rs : List Nat) (pre : List (Value × β)) (x : Value × β) (A Wb W : World), (∀ i ∈ Rs, w.heap.size + 2 ≤ i) → w.heap.size + 2 ≤ A.heap.size → I Rs pre A → I Rs pre Wb → Kept Rs A Wb → Giv Rs A Wb x → Kept [w.heap.size + 1] Wb W → C (pre ++ [x]) →
      body.wpIn (F.inRound l) (n - 1 - 1) P (rsPost I (fun c _ W => c = .exit id ∧ X W) Rs K0 w.heap.size (pre ++ [x]) W) { tmps := (a.tmps.setIfInBounds pt x.1).setIfInBounds sl x.1, defers := [] } W)
    (hE : ∀ (Rs : List Nat) (xs : List (Value × β)) (W : World), I Rs xs W → S xs → X W)
    (hend : ∀ W, X W → W.heap[w.heap.size]? = some (.deferred (some [])) → Q .normal { a with defers := { target := .collected w.heap.size, args := #[] } :: a.defers } W) :
    (Code.rangeFunc g #[pt] assign body).wpIn F n P (Exit.inBlock id Q) a w := by
  refine wpIn_rangeFunc_stops1 (sl := sl) hro h1 hg hFg eg hseq hb0 hK0 I (fun c _ W => c = .exit id ∧ X W) hI (fun _ _ _ _ h k => ⟨h.1, hX _ _ h.2 k⟩) h0 hassign hbody (fun Rs xs W hi hs hd => hend W (hE Rs xs W hi hs) hd) ?_
  rintro c pre W ⟨rfl, hx⟩ _ hd
  refine wpIn_exit ?_
  simp only [Exit.inBlock, if_pos]
  exact hend W hx hd

theorem Bkd.recol {w : World} {k N : Nat} {col col' : Nat → Nat} (h : Bkd w k col N) (hc : ∀ b, b < w.heap.size → col b ≤ 6 → col' b = col b) : Bkd w k col' N := by
  obtain ⟨lv, mv, hv, tv, fv, wv, vs, fs, ms, hs, hb, ts, xs, ys, xb, B, h1, h2, h3, h4⟩ := h
  exact ⟨lv, mv, hv, tv, fv, wv, vs, fs, ms, hs, hb, ts, xs, ys, xb, (B.half.recol hc).full, h1, h2, h3, h4⟩
theorem Bkd.turn {w w' : World} {k N : Nat} {col col' : Nat → Nat} {S : List Nat} (h : Bkd w k col N) (hk : Kept S w w') (hd : ∀ b ∈ S, b < w.heap.size → 7 ≤ col' b) (hc : ∀ b, b < w.heap.size → col b ≤ 6 → col' b = col b) : Bkd w' k col' N :=
  (h.recol hc).kept hk hd (fun _ _ => rfl)

/-- The book while a range goes on over an iterator whose blocks are Rs; the range's own blocks are the first e behind w8; Os: boxes that rounds write. -/
structure GB (w8 : World) (c8 : Nat → Nat) (e k : Nat) (Os : List Nat) (M : Nat) (Rs : List Nat) (c : Nat → Nat) (wr : World) : Prop where
  bk : Bkd wr k c M
  rc : ∀ b ∈ Rs, w8.heap.size + e ≤ b ∧ b < wr.heap.size ∧ c b = 9
  dc : ∀ j, j < e → c (w8.heap.size + j) = 10
  kept : ∃ S, Kept S w8 wr ∧ ∀ b ∈ S, b < w8.heap.size → c8 b ≤ 6 ∨ b ∈ Os
  same : ∀ b, b < w8.heap.size → 7 ≤ c8 b → c b = c8 b
  big : w8.heap.size + e ≤ wr.heap.size
section
variable {w8 A B wr w2 : World} {c8 c c' : Nat → Nat} {e k M : Nat} {Os Rs Rs' : List Nat}
/-- Whatever turns that is none of the book's. -/
theorem GB.step {S : List Nat} (h : GB w8 c8 e k Os M Rs c A) (hk : Kept S A B) (hS : ∀ b ∈ S, b < A.heap.size → 7 ≤ c b ∧ (b < w8.heap.size → b ∈ Os)) (hc : ∀ b, b < A.heap.size → c' b = c b)
    (hR : ∀ b ∈ Rs', w8.heap.size + e ≤ b ∧ b < B.heap.size ∧ c' b = 9) : GB w8 c8 e k Os M Rs' c' B := by
  obtain ⟨S0, k0, h0⟩ := h.kept
  have hz := k0.size
  have hb := h.big
  have hs := hk.size
  refine ⟨h.bk.turn hk (fun b hb hlt => by rw [hc b hlt]; exact (hS b hb hlt).1) (fun b hb _ => hc b hb), hR, fun j hj => by rw [hc _ (by omega)]; exact h.dc j hj, ⟨S0 ++ S, ?_, fun b hb hlt => ?_⟩, fun b hb h7 => by rw [hc b (by omega)]; exact h.same b hb h7, by omega⟩
  · exact (k0.mono (T := S0 ++ S) (fun i hi => Or.inl (List.mem_append_left _ hi))).trans hk (fun i hi => Or.inl (List.mem_append_right _ hi))
  · rcases List.mem_append.1 hb with q | q
    · exact h0 b q hlt
    · exact Or.inr ((hS b q (by omega)).2 hlt)
/-- The iterator goes on. -/
def onto (A : World) (c : Nat → Nat) (x : Nat) : Nat → Nat := fun b => if b < A.heap.size then c b else x
theorem onto_old {x b : Nat} (h : b < A.heap.size) : onto A c x b = c b := if_pos h
theorem onto_new {x b : Nat} (h : A.heap.size ≤ b) : onto A c x b = x := if_neg (by omega)
theorem GB.turn {D : List Nat} (h : GB w8 c8 e k Os M Rs c A) (hk : Kept (D ++ Rs) A B) (hD : ∀ b ∈ D, ∃ j, j < e ∧ b = w8.heap.size + j) (hg : Grows Rs Rs' A B) : GB w8 c8 e k Os M Rs' (onto A c 9) B := by
  refine h.step hk (fun b hb hlt => ?_) (fun b hb => onto_old hb) (fun b hb => ?_)
  · rcases List.mem_append.1 hb with q | q
    · obtain ⟨j, hj, rfl⟩ := hD b q
      exact ⟨by rw [h.dc j hj]; decide, fun hh => by omega⟩
    · obtain ⟨q1, q2, q3⟩ := h.rc b q
      exact ⟨by omega, fun hh => by omega⟩
  · rcases hg b hb with q | ⟨q1, q2⟩
    · obtain ⟨r1, r2, r3⟩ := h.rc b q
      exact ⟨r1, Nat.lt_of_lt_of_le r2 hk.size, by rw [onto_old r2]; exact r3⟩
    · exact ⟨by have := h.big; omega, q2, onto_new q1⟩
/-- At the beginning. -/
theorem GB.start {W' : World} (hb : Bkd w8 k c8 M) (hk : Kept [] w8 W') (hz : w8.heap.size + e ≤ W'.heap.size) (hR : ∀ b ∈ Rs, w8.heap.size + e ≤ b ∧ b < W'.heap.size) :
    GB w8 c8 e k Os M Rs (fun b => if b < w8.heap.size then c8 b else if b < w8.heap.size + e then 10 else 9) W' :=
  ⟨hb.turn hk (fun b hb => by cases hb) (fun b hb _ => if_pos hb), fun b hb => ⟨(hR b hb).1, (hR b hb).2, by have := (hR b hb).1; rw [if_neg (by omega), if_neg (by omega)]⟩,
    fun j hj => by rw [if_neg (by omega), if_pos (by omega)], ⟨[], hk, fun b hb => by cases hb⟩, fun b hb _ => if_pos hb, hz⟩
/-- A frame is given. -/
theorem GB.give {Wb W : World} {D : List Nat} {x : Value × List UInt8} (h : GB w8 c8 e k Os M Rs c A) (hk : Kept Rs A Wb) (hg : Cut.GivF Rs A Wb x) (hk2 : Kept D Wb W) (hD : ∀ b ∈ D, ∃ j, j < e ∧ b = w8.heap.size + j) :
    GB w8 c8 e k Os M Rs (onto A c 7) W ∧ Own W 0 x.1 x.2 ∧ ∀ b, x.1.ownBlock = some b → onto A c 7 b = 7 ∧ A.heap.size ≤ b ∧ b < W.heap.size := by
  have hb := h.big
  have hz := hk.size
  have hDD : ∀ b ∈ D, b < A.heap.size ∧ c b = 10 ∧ w8.heap.size ≤ b := fun b hm => by
    obtain ⟨j, hj, rfl⟩ := hD b hm
    exact ⟨by omega, h.dc j hj, by omega⟩
  have kk : Kept (Rs ++ D) A W := (hk.mono (T := Rs ++ D) (fun i hi => Or.inl (List.mem_append_left _ hi))).trans hk2 (fun i hi => Or.inl (List.mem_append_right _ hi))
  refine ⟨h.step kk (fun b hb hlt => ?_) (fun b hb => onto_old hb) (fun b hb => ?_), ?_, fun b hx => ?_⟩
  · rcases List.mem_append.1 hb with q | q
    · obtain ⟨q1, q2, q3⟩ := h.rc b q
      exact ⟨by omega, fun hh => by omega⟩
    · obtain ⟨q1, q2, q3⟩ := hDD b q
      exact ⟨by omega, fun hh => by omega⟩
  · obtain ⟨r1, r2, r3⟩ := h.rc b hb
    exact ⟨r1, Nat.lt_of_lt_of_le r2 kk.size, by rw [onto_old r2]; exact r3⟩
  · refine World.ownsRow.mono (ownsRow_kept hg.1 hk2 (fun b hx hm => ?_)) (Nat.zero_le _)
    have := (hg.1.lt b hx).1
    have := (hDD b hm).1
    omega
  · have := hg.1.lt b hx
    exact ⟨onto_new this.1, this.1, Nat.lt_of_lt_of_le this.2 hk2.size⟩
/-- The book has taken a frame. -/
theorem GB.owned {x : Value} {S : List Nat} {M' : Nat} (h : GB w8 c8 e k Os M Rs c A) (hx : ∀ b, x.ownBlock = some b → c b = 7 ∧ w8.heap.size ≤ b) (hb : Bkd B k c' M') (hk : Kept S A B) (hS : ∀ b ∈ S, b < A.heap.size → c b ≤ 6)
    (hc : ∀ b, b < A.heap.size → x.ownBlock ≠ some b → c' b = c b) : GB w8 c8 e k Os M' Rs c' B := by
  obtain ⟨S0, k0, h0⟩ := h.kept
  have hz := k0.size
  have hbig := h.big
  have hs := hk.size
  have hne : ∀ b, b < A.heap.size → (c b ≠ 7 ∨ b < w8.heap.size) → c' b = c b := fun b hb hh => hc b hb (fun e => by have := hx b e; omega)
  refine ⟨hb, fun b hb => ?_, fun j hj => ?_, ⟨S0 ++ S, ?_, fun b hb hlt => ?_⟩, fun b hb h7 => ?_, by omega⟩
  · obtain ⟨r1, r2, r3⟩ := h.rc b hb
    exact ⟨r1, by omega, by rw [hne b r2 (by omega)]; exact r3⟩
  · rw [hne _ (by omega) (by have := h.dc j hj; omega)]; exact h.dc j hj
  · exact (k0.mono (T := S0 ++ S) (fun i hi => Or.inl (List.mem_append_left _ hi))).trans hk (fun i hi => Or.inl (List.mem_append_right _ hi))
  · rcases List.mem_append.1 hb with q | q
    · exact h0 b q hlt
    · have h6 := hS b q (by omega)
      by_cases h7 : 7 ≤ c8 b
      · have := h.same b hlt h7; omega
      · left; omega
  · rw [hne b (by omega) (Or.inr hb)]; exact h.same b hb h7
/-- What the range leaves. -/
theorem GB.more {M' : Nat} (h : GB w8 c8 e k Os M Rs c A) (hm : M ≤ M') : GB w8 c8 e k Os M' Rs c A := ⟨h.bk.more hm, h.rc, h.dc, h.kept, h.same, h.big⟩
theorem GB.bare (h : GB w8 c8 e k Os M Rs c A) : GB w8 c8 e k Os M [] c A := ⟨h.bk, fun b hb => (by cases hb), h.dc, h.kept, h.same, h.big⟩
end

/-- The list of frames that grows: its box, its blocks. -/
structure GO (w8 : World) (O : Nat) (fs : List (List UInt8)) (ov : Value) (vs : List Value) (T : List Nat) (c : Nat → Nat) (wr : World) : Prop where
  box : wr.heap[O]? = some (.cells #[ov] 26 (0, 0))
  out : FrL wr ov vs fs T
  tc : ∀ b ∈ T, w8.heap.size ≤ b ∧ c b = 8
theorem GO.step {w8 A B : World} {O : Nat} {fs : List (List UInt8)} {ov : Value} {vs : List Value} {T S : List Nat} {c c' : Nat → Nat} (h : GO w8 O fs ov vs T c A) (hk : Kept S A B) (hS : ∀ b ∈ S, b < A.heap.size → c b ≠ 8 ∧ b ≠ O) (hc : ∀ b, b < A.heap.size → c b = 8 → c' b = 8) : GO w8 O fs ov vs T c' B := by
  have hO := block_lt h.box
  refine ⟨(hk.block O hO (fun hm => (hS O hm hO).2 rfl)).trans h.box, h.out.kept hk (fun b hb hm => ?_), fun b hb => ⟨(h.tc b hb).1, hc b (h.out.lt b hb) (h.tc b hb).2⟩⟩
  exact (hS b hm (h.out.lt b hb)).1 (h.tc b hb).2
/-- A copy of a frame was made. -/
theorem GO.push {w8 W W1 w2 : World} {O : Nat} {fs : List (List UInt8)} {f : List UInt8} {ov ov' y : Value} {vs : List Value} {T : List Nat} {c : Nat → Nat} {n : Nat} (h : GO w8 O fs ov vs T c W) (hO : O < w8.heap.size) (hz : w8.heap.size ≤ W.heap.size)
    (hy : Own W1 W.heap.size y f) (k1 : Kept [] W W1) (hn : n = vs.length)
    (hown : w2.ownsRow 0 22 1 ov' (n + 1) (vs ++ [y])) (hg : (W1.alloc (.cells #[y] 22)).grownBy w2 ov.ownBlock) (hat : ov'.ownBlock = ov.ownBlock ∨ ov'.ownBlock = some (W1.alloc (.cells #[y] 22)).heap.size) :
    GO w8 O (fs ++ [f]) ov' (vs ++ [y]) (T ++ (y.ownBlock.toList ++ ov'.ownBlock.toList)) (onto W c 8) (w2.setCell ⟨O, 0, none⟩ ov') ∧ Kept (O :: ov.ownBlock.toList) W (w2.setCell ⟨O, 0, none⟩ ov') ∧ w2.heap[O]? = some (.cells #[ov] 26 (0, 0)) := by
  have ka : Kept [] W (W1.alloc (.cells #[y] 22)) := k1.alloc _
  have hy1 : Own (W1.alloc (.cells #[y] 22)) W.heap.size y f := hy.alloc _
  obtain ⟨g1, kk, -⟩ := h.out.push ka (World.ownsRow.mono hy1 (Nat.zero_le _)) hn hown hg hat
  have hOW := block_lt h.box
  have hTn : ∀ b, ov.ownBlock = some b → w8.heap.size ≤ b ∧ c b = 8 ∧ b < W.heap.size := fun b hb => ⟨(h.tc b (h.out.blk b hb)).1, (h.tc b (h.out.blk b hb)).2, h.out.lt b (h.out.blk b hb)⟩
  have hb2 : w2.heap[O]? = some (.cells #[ov] 26 (0, 0)) := (kk.block O hOW (fun hm => by have := hTn O (by simpa using hm); omega)).trans h.box
  have ks : Kept [O] w2 (w2.setCell ⟨O, 0, none⟩ ov') := (Kept.refl _ _).setCell (p := ⟨O, 0, none⟩) (Or.inl (by simp)) ov'
  have hset := heap_set (i := 0) ov' hb2
  have hyb : ∀ b, y.ownBlock = some b → W.heap.size ≤ b := fun b hb => (hy.lt b hb).1
  have hT' : ∀ b ∈ T ++ (y.ownBlock.toList ++ ov'.ownBlock.toList), w8.heap.size ≤ b ∧ onto W c 8 b = 8 := fun b hb => by
    rcases List.mem_append.1 hb with q | q
    · exact ⟨(h.tc b q).1, by rw [onto_old (h.out.lt b q)]; exact (h.tc b q).2⟩
    · rcases List.mem_append.1 q with q | q
      · have := hyb b (by simpa using q)
        exact ⟨by omega, onto_new this⟩
      · rcases hat with e | e
        · rw [e] at q
          have := hTn b (by simpa using q)
          exact ⟨this.1, by rw [onto_old this.2.2]; exact this.2.1⟩
        · rw [e] at q
          have := k1.size
          simp at q
          exact ⟨by omega, onto_new (by omega)⟩
  refine ⟨⟨by simpa using hset, g1.kept ks (fun b hb hm => ?_), hT'⟩, ?_, hb2⟩
  · have := (hT' b hb).1
    simp at hm
    omega
  · exact (kk.mono (T := O :: ov.ownBlock.toList) (fun i hi => Or.inl (List.mem_cons_of_mem _ hi))).trans ks (fun i hi => Or.inl (by simp at hi; rw [hi]; simp))

/-- The boxes of goes: what the range is left behind, the book, the two results. -/
structure Bxs (k : Nat) (most : Int) (P0 P1 P2 P3 : Nat) (wr : World) : Prop where
  m : wr.heap[P0]? = some (.cells #[.int .i64 most] 3 (0, 0))
  b : wr.heap[P1]? = some (.cells #[.pointer (some ⟨k, 0, none⟩)] 25 (0, 0))
  r : wr.heap[P2]? = some (.cells #[.slice none 0 0] 26 (0, 0))
  x : wr.heap[P3]? = some (.cells #[.bool false] 4 (0, 0))
theorem Bxs.kept {k P0 P1 P2 P3 : Nat} {most : Int} {A B : World} {S : List Nat} (h : Bxs k most P0 P1 P2 P3 A) (hk : Kept S A B) (hS : ∀ b ∈ S, b < A.heap.size → b ≠ P0 ∧ b ≠ P1 ∧ b ≠ P2 ∧ b ≠ P3) : Bxs k most P0 P1 P2 P3 B :=
  ⟨(hk.block _ (block_lt h.m) (fun hm => (hS _ hm (block_lt h.m)).1 rfl)).trans h.m, (hk.block _ (block_lt h.b) (fun hm => (hS _ hm (block_lt h.b)).2.1 rfl)).trans h.b, (hk.block _ (block_lt h.r) (fun hm => (hS _ hm (block_lt h.r)).2.2.1 rfl)).trans h.r,
    (hk.block _ (block_lt h.x) (fun hm => (hS _ hm (block_lt h.x)).2.2.2 rfl)).trans h.x⟩
theorem alloc_at {w : World} {n : Nat} (o : Obj) (h : n = w.heap.size) : (w.alloc o).heap[n]? = some o := by rw [h]; exact heap_alloc_new w o
theorem Bxs.start (w : World) (k : Nat) (most : Int) {P0 P1 P2 P3 P4 : Nat} (h0 : P0 = w.heap.size) (h1 : P1 = w.heap.size + 1) (h2 : P2 = w.heap.size + 1 + 1) (h3 : P3 = w.heap.size + 1 + 1 + 1) (h4 : P4 = w.heap.size + 1 + 1 + 1 + 1) {W : World}
    (hW : W = ((((w.alloc (.cells #[.int .i64 most] 3)).alloc (.cells #[.pointer (some ⟨k, 0, none⟩)] 25)).alloc (.cells #[.slice none 0 0] 26)).alloc (.cells #[.bool false] 4)).alloc (.cells #[.slice none 0 0] 26)) :
    Bxs k most P0 P1 P2 P3 W ∧ W.heap[P4]? = some (.cells #[.slice none 0 0] 26 (0, 0)) ∧ Kept [] w W ∧ W.heap.size = w.heap.size + 5 := by
  have ka : ∀ (u : World) (o : Obj) {i : Nat} {x : Obj}, u.heap[i]? = some x → (u.alloc o).heap[i]? = some x := fun u o i x h => (Below.heap_alloc _ _ _ (block_lt h)).trans h
  subst hW
  refine ⟨⟨?_, ?_, ?_, ?_⟩, ?_, ((((((Kept.refl [] w).alloc _).alloc _).alloc _).alloc _).alloc _), by simp⟩
  · exact ka _ _ (ka _ _ (ka _ _ (ka _ _ (alloc_at _ h0))))
  · exact ka _ _ (ka _ _ (ka _ _ (alloc_at _ (by simp; omega))))
  · exact ka _ _ (ka _ _ (alloc_at _ (by simp; omega)))
  · exact ka _ _ (alloc_at _ (by simp; omega))
  · exact alloc_at _ (by simp; omega)

theorem frames_facts (L : Nat) : ∀ (m : Nat) (bs : List UInt8), bs.length ≤ m → (∀ f ∈ frames L bs, 7 ≤ f.length ∧ f.length ≤ bs.length) ∧ (frames L bs).length ≤ bs.length
  | 0, bs, h => by
    have : bs = [] := List.eq_nil_of_length_eq_zero (by omega)
    subst this
    exact ⟨(fun f hf => by cases hf), Nat.le_refl _⟩
  | m + 1, bs, h => by
    by_cases hf : hasFrame L bs
    · have q := hf
      obtain ⟨h1, h2, h3⟩ := q
      have h4 := (rightB_iff _ _).1 h2
      rw [frames_some hf]
      have hd : (bs.drop (leval (bs.take 4))).length = bs.length - leval (bs.take 4) := List.length_drop
      obtain ⟨i1, i2⟩ := frames_facts L m (bs.drop (leval (bs.take 4))) (by omega)
      refine ⟨fun f hm => ?_, by rw [List.length_cons]; omega⟩
      rcases List.mem_cons.1 hm with rfl | hm
      · rw [List.length_take]; omega
      · have := i1 f hm; omega
    · rw [frames_none hf]
      exact ⟨(fun f hm => by cases hm), Nat.zero_le _⟩
theorem framesOf_facts (n : Nat) (bs : List UInt8) : (∀ f ∈ framesOf n bs, 7 ≤ f.length ∧ f.length ≤ bs.length) ∧ (framesOf n bs).length ≤ bs.length := by
  unfold framesOf
  split
  · exact frames_facts n _ bs (Nat.le_refl _)
  · exact ⟨(fun f hm => by cases hm), Nat.zero_le _⟩
/-- How many frames a range takes that is left behind the first so many. -/
def takeM (most : Int) (F : List (List UInt8)) : List (List UInt8) := if most ≤ 0 then F else F.take most.toNat
end Go.Proofs.Ytgdaiajjnfnomaa
