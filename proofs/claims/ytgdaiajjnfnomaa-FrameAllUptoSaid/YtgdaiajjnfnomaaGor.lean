/- What stands between two rounds of goes' first range, and within one. -/
import Derived.Test.YtgdaiajjnfnomaaGom
namespace Go.Proofs.Ytgdaiajjnfnomaa
set_option linter.unusedVariables false
open Go.RowKit Go.Shelf

/-- Between two rounds. -/
def G1 (w8 : World) (c8 : Nat → Nat) (k O N : Nat) (most : Int) (Rs : List Nat) (pre : List (Value × List UInt8)) (wr : World) : Prop :=
  ∃ ov vs T c, GB w8 c8 2 k [O] (N + 5 * pre.length) Rs c wr ∧ GO w8 O (pre.map (·.2)) ov vs T c wr ∧ (most ≤ 0 ∨ (pre.length : Int) < most)
/-- Behind the range. -/
def X1 (w8 : World) (c8 : Nat → Nat) (k O N : Nat) (most : Int) (F : List (List UInt8)) (wr : World) : Prop :=
  ∃ ov vs T c, GB w8 c8 2 k [O] (N + 5 * F.length) [] c wr ∧ GO w8 O (takeM most F) ov vs T c wr
section
variable {w8 A B W Wb : World} {c8 c : Nat → Nat} {k O N M : Nat} {most : Int} {Rs Rs' : List Nat} {pre : List (Value × List UInt8)} {F fs : List (List UInt8)} {ov : Value} {vs : List Value} {T : List Nat}
theorem two_of : ∀ b ∈ [w8.heap.size, w8.heap.size + 1], ∃ j, j < 2 ∧ b = w8.heap.size + j := fun b hb => by
  simp at hb
  rcases hb with rfl | rfl
  · exact ⟨0, by omega, rfl⟩
  · exact ⟨1, by omega, rfl⟩
theorem GB.far (h : GB w8 c8 2 k [O] M Rs c A) (hO : O < w8.heap.size) : ∀ b ∈ [w8.heap.size, w8.heap.size + 1] ++ Rs, b < A.heap.size → c b ≠ 8 ∧ b ≠ O := fun b hb _ => by
  rcases List.mem_append.1 hb with q | q
  · obtain ⟨j, hj, rfl⟩ := two_of b q
    have := h.dc j hj
    exact ⟨by omega, by omega⟩
  · obtain ⟨q1, q2, q3⟩ := h.rc b q
    exact ⟨by omega, by omega⟩
theorem G1.turn (hO : O < w8.heap.size) (h : G1 w8 c8 k O N most Rs pre A) (hk : Kept (w8.heap.size :: (w8.heap.size + 1) :: Rs) A B) (hg : Grows Rs Rs' A B) : G1 w8 c8 k O N most Rs' pre B := by
  obtain ⟨ov, vs, T, c, h1, h2, h3⟩ := h
  refine ⟨ov, vs, T, onto A c 9, h1.turn (D := [w8.heap.size, w8.heap.size + 1]) hk two_of hg, h2.step hk ?_ (fun b hb e => by rw [onto_old hb]; exact e), h3⟩
  exact h1.far hO
theorem X1.turn (hO : O < w8.heap.size) (h : X1 w8 c8 k O N most F A) (hk : Kept [w8.heap.size + 1] A B) : X1 w8 c8 k O N most F B := by
  obtain ⟨ov, vs, T, c, h1, h2⟩ := h
  have hk' : Kept ([w8.heap.size, w8.heap.size + 1] ++ []) A B := hk.mono (fun i hi => Or.inl (by simp at hi; simp [hi]))
  refine ⟨ov, vs, T, onto A c 9, h1.turn (D := [w8.heap.size, w8.heap.size + 1]) hk' two_of (fun i hi => by cases hi), h2.step hk' ?_ (fun b hb e => by rw [onto_old hb]; exact e)⟩
  exact h1.far hO
theorem G1.start {W' : World} (hb : Bkd w8 k c8 N) (hO : w8.heap[O]? = some (.cells #[.slice none 0 0] 26 (0, 0))) (hk : Kept [] w8 W') (hz : w8.heap.size + 2 ≤ W'.heap.size) (hR : ∀ b ∈ Rs, w8.heap.size + 2 ≤ b ∧ b < W'.heap.size) (hm : most ≤ 0 ∨ (0 : Int) < most) :
    G1 w8 c8 k O N most Rs [] W' :=
  ⟨.slice none 0 0, [], [], _, GB.start (by simpa using hb) hk hz hR, ⟨(hk.block O (block_lt hO) (by simp)).trans hO, FrL.nil W', fun b hb => by cases hb⟩, by simpa using hm⟩
theorem G1.done {xs : List (Value × List UInt8)} (h : G1 w8 c8 k O N most Rs xs A) (hx : xs.map (·.2) = F) : X1 w8 c8 k O N most F A := by
  obtain ⟨ov, vs, T, c, h1, h2, h3⟩ := h
  have hl : xs.length = F.length := by rw [← hx]; simp
  have e : takeM most F = F := by
    unfold takeM
    split
    · rfl
    · exact List.take_of_length_le (by omega)
  refine ⟨ov, vs, T, c, ?_, ?_⟩
  · have := h1.bare
    rw [hl] at this
    exact this
  · rw [e, ← hx]; exact h2
/-- Whatever else lies as it lay. -/
theorem GB.keep {e : Nat} {Os : List Nat} {b : Nat} {o : Obj} (h : GB w8 c8 e k Os M Rs c A) (hb : w8.heap[b]? = some o) (h7 : 7 ≤ c8 b) (hO : b ∉ Os) : A.heap[b]? = some o := by
  obtain ⟨S, kk, hS⟩ := h.kept
  refine (kk.block b (block_lt hb) (fun hm => ?_)).trans hb
  rcases hS b hm (block_lt hb) with q | q
  · omega
  · exact hO q
theorem GB.bxs {e : Nat} {Os : List Nat} {P0 P1 P2 P3 : Nat} (h : GB w8 c8 e k Os M Rs c A) (hb : Bxs k most P0 P1 P2 P3 w8) (h7 : ∀ b ∈ [P0, P1, P2, P3], 7 ≤ c8 b ∧ b ∉ Os) : Bxs k most P0 P1 P2 P3 A :=
  ⟨h.keep hb.m (h7 _ (by simp)).1 (h7 _ (by simp)).2, h.keep hb.b (h7 _ (by simp)).1 (h7 _ (by simp)).2, h.keep hb.r (h7 _ (by simp)).1 (h7 _ (by simp)).2, h.keep hb.x (h7 _ (by simp)).1 (h7 _ (by simp)).2⟩
/-- What a round may turn is neither the iterator's nor the range's own. -/
theorem GB.apart {K0 : List Nat} {b : Nat} (h : GB w8 c8 2 k [O] M Rs c W) (hO : O < w8.heap.size) (hK0 : ∀ i ∈ K0, i < w8.heap.size ∧ i ≠ O ∧ c8 i = 10) (hb : b < W.heap.size → (c b ≤ 6 ∨ (c b = 8 ∧ w8.heap.size ≤ b) ∨ b = O)) :
    (b ∉ Rs ∧ b ∉ K0) ∧ b ≠ w8.heap.size ∧ b ≠ w8.heap.size + 1 := by
  have hz := h.big
  have d0 := h.dc 0 (by decide)
  have d1 := h.dc 1 (by decide)
  refine ⟨⟨fun hm => ?_, fun hm => ?_⟩, fun e => ?_, fun e => ?_⟩
  · obtain ⟨r1, r2, r3⟩ := h.rc b hm
    have := hb r2
    omega
  · obtain ⟨r1, r2, r3⟩ := hK0 b hm
    have h2 := h.same b r1 (by omega)
    have := hb (by omega)
    omega
  · subst e
    have := hb (by omega)
    rw [Nat.add_zero] at d0
    omega
  · subst e
    have := hb (by omega)
    omega
theorem GB.outside {K0 S : List Nat} {W6 W7 : World} {ov : Value} (h : GB w8 c8 2 k [O] M Rs c W) (g : GO w8 O fs ov vs T c W) (hO : O < w8.heap.size) (hK0 : ∀ i ∈ K0, i < w8.heap.size ∧ i ≠ O ∧ c8 i = 10) (k1 : Kept (O :: ov.ownBlock.toList) W W6) (k2 : Kept S W6 W7)
    (hS : ∀ b ∈ S, b < W6.heap.size → onto W c 8 b ≤ 6) : ∃ U, Kept U W W7 ∧ ∀ b ∈ U, (b ∉ Rs ∧ b ∉ K0) ∧ b ≠ w8.heap.size ∧ b ≠ w8.heap.size + 1 := by
  refine ⟨(O :: ov.ownBlock.toList) ++ S, (k1.mono (fun i hi => Or.inl (List.mem_append_left _ hi))).trans k2 (fun i hi => Or.inl (List.mem_append_right _ hi)), fun b hb => h.apart hO hK0 (fun hlt => ?_)⟩
  rcases List.mem_append.1 hb with q | q
  · rcases List.mem_cons.1 q with rfl | q
    · exact Or.inr (Or.inr rfl)
    · have := g.tc b (g.out.blk b (by simpa using q))
      exact Or.inr (Or.inl ⟨this.2, this.1⟩)
  · have hs := k1.size
    have := hS b q (by omega)
    rw [onto_old hlt] at this
    exact Or.inl this
theorem X1.of {x : Value × List UInt8} {ov : Value} (hB : GB w8 c8 2 k [O] (N + 5 * pre.length + 5) Rs c A) (h : GO w8 O (pre.map (·.2) ++ [x.2]) ov vs T c A) (hC : (pre ++ [x]).map (·.2) <+: F) (hm : (pre.length : Int) + 1 = most) : X1 w8 c8 k O N most F A := by
  have hl := hC.length_le
  rw [List.length_map, List.length_append] at hl
  have hl2 : pre.length + 1 ≤ F.length := hl
  have e : takeM most F = pre.map (·.2) ++ [x.2] := by
    unfold takeM
    rw [if_neg (by omega), show most.toNat = pre.length + 1 by omega]
    have h2 := List.prefix_iff_eq_take.1 hC
    rw [List.length_map, List.length_append] at h2
    rw [List.map_append] at h2
    exact h2.symm
  refine ⟨ov, vs, T, c, hB.bare.more (by omega), ?_⟩
  rw [e]
  exact h
theorem G1.of {x : Value × List UInt8} {ov : Value} (hB : GB w8 c8 2 k [O] (N + 5 * pre.length + 5) Rs c A) (h : GO w8 O (pre.map (·.2) ++ [x.2]) ov vs T c A) (hm : most ≤ 0 ∨ (pre.length : Int) + 1 < most) : G1 w8 c8 k O N most Rs (pre ++ [x]) A := by
  refine ⟨ov, vs, T, c, hB.more (by simp; omega), ?_, by simpa using hm⟩
  rw [List.map_append]
  exact h
/-- A round begins. -/
theorem G1.give {x : Value × List UInt8} (hO : O < w8.heap.size) (h : G1 w8 c8 k O N most Rs pre A) (hk : Kept Rs A Wb) (hg : Cut.GivF Rs A Wb x) (hk2 : Kept [w8.heap.size + 1] Wb W) :
    ∃ ov vs T c, GB w8 c8 2 k [O] (N + 5 * pre.length) Rs c W ∧ GO w8 O (pre.map (·.2)) ov vs T c W ∧ (most ≤ 0 ∨ (pre.length : Int) < most) ∧ Own W 0 x.1 x.2 ∧ (∀ b, x.1.ownBlock = some b → c b = 7 ∧ w8.heap.size ≤ b ∧ b < W.heap.size) := by
  obtain ⟨ov, vs, T, c, h1, h2, h3⟩ := h
  have hD : ∀ b ∈ [w8.heap.size + 1], ∃ j, j < 2 ∧ b = w8.heap.size + j := fun b hb => two_of b (by simp at hb; simp [hb])
  obtain ⟨g1, g2, g3⟩ := h1.give hk hg hk2 hD
  have kk : Kept ([w8.heap.size, w8.heap.size + 1] ++ Rs) A W := (hk.mono (T := [w8.heap.size, w8.heap.size + 1] ++ Rs) (fun i hi => Or.inl (List.mem_append_right _ hi))).trans hk2 (fun i hi => Or.inl (by simp at hi; simp [hi]))
  have hb := h1.big
  exact ⟨ov, vs, T, onto A c 7, g1, h2.step kk (h1.far hO) (fun b hb e => by rw [onto_old hb]; exact e), h3, g2, fun b hx => ⟨(g3 b hx).1, by have := (g3 b hx).2.1; omega, (g3 b hx).2.2⟩⟩
/-- The copy was taken in. -/
theorem GB.pushed {W1 w2 : World} {fs : List (List UInt8)} {f : List UInt8} {ov ov' y x : Value} {xb : List UInt8} {n : Nat} (hO : O < w8.heap.size) (hOc : c8 O = 10) (hB : GB w8 c8 2 k [O] M Rs c W) (h : GO w8 O fs ov vs T c W)
    (hx0 : Own W 0 x xb) (hx : ∀ b, x.ownBlock = some b → c b = 7 ∧ w8.heap.size ≤ b ∧ b < W.heap.size)
    (hy : Own W1 W.heap.size y f) (k1 : Kept [] W W1) (hn : n = vs.length)
    (hown : w2.ownsRow 0 22 1 ov' (n + 1) (vs ++ [y])) (hg : (W1.alloc (.cells #[y] 22)).grownBy w2 ov.ownBlock) (hat : ov'.ownBlock = ov.ownBlock ∨ ov'.ownBlock = some (W1.alloc (.cells #[y] 22)).heap.size) :
    ∃ T', GB w8 c8 2 k [O] M Rs (onto W c 8) (w2.setCell ⟨O, 0, none⟩ ov') ∧ GO w8 O (fs ++ [f]) ov' (vs ++ [y]) T' (onto W c 8) (w2.setCell ⟨O, 0, none⟩ ov') ∧ Own (w2.setCell ⟨O, 0, none⟩ ov') 0 x xb ∧
      (∀ b, x.ownBlock = some b → onto W c 8 b = 7 ∧ w8.heap.size ≤ b ∧ b < (w2.setCell ⟨O, 0, none⟩ ov').heap.size) ∧ Kept (O :: ov.ownBlock.toList) W (w2.setCell ⟨O, 0, none⟩ ov') ∧ w2.heap[O]? = some (.cells #[ov] 26 (0, 0)) := by
  have hz := hB.big
  obtain ⟨g1, g2, g3⟩ := h.push hO (by omega) hy k1 hn hown hg hat
  have hTn : ∀ b, ov.ownBlock = some b → w8.heap.size ≤ b ∧ c b = 8 := fun b hb => h.tc b (h.out.blk b hb)
  have hs := g2.size
  have hcO : c O = 10 := by rw [hB.same O hO (by omega)]; exact hOc
  refine ⟨_, hB.step g2 (fun b hb hlt => ?_) (fun b hb => onto_old hb) (fun b hb => ?_), g1, ownsRow_kept hx0 g2 (fun b hb hm => ?_), fun b hb => ?_, g2, g3⟩
  · rcases List.mem_cons.1 hb with rfl | q
    · exact ⟨by omega, fun _ => by simp⟩
    · have := hTn b (by simpa using q)
      exact ⟨by omega, fun hh => by omega⟩
  · obtain ⟨r1, r2, r3⟩ := hB.rc b hb
    exact ⟨r1, by omega, by rw [onto_old r2]; exact r3⟩
  · have q := hx b hb
    rcases List.mem_cons.1 hm with rfl | hm
    · omega
    · have := hTn b (by simpa using hm); omega
  · have q := hx b hb
    exact ⟨by rw [onto_old q.2.2]; exact q.1, q.2.1, by omega⟩
/-- The book has taken the frame. -/
theorem GB.took {x : Value} {S : List Nat} {c' : Nat → Nat} (hO : O < w8.heap.size) (hOc : c8 O = 10) (hB : GB w8 c8 2 k [O] M Rs c A) (h : GO w8 O fs ov vs T c A) (hx : ∀ b, x.ownBlock = some b → c b = 7 ∧ w8.heap.size ≤ b ∧ b < A.heap.size)
    (hb : Bkd B k c' (M + 5)) (hk : Kept S A B) (hS : ∀ b ∈ S, b < A.heap.size → c b ≤ 6) (hc : ∀ b, b < A.heap.size → x.ownBlock ≠ some b → c' b = c b) :
    GB w8 c8 2 k [O] (M + 5) Rs c' B ∧ GO w8 O fs ov vs T c' B := by
  have hcO : c O = 10 := by rw [hB.same O hO (by omega)]; exact hOc
  refine ⟨hB.owned (fun b hb => ⟨(hx b hb).1, (hx b hb).2.1⟩) hb hk hS hc, h.step hk (fun b hb hlt => ?_) (fun b hb e => ?_)⟩
  · have := hS b hb hlt
    exact ⟨by omega, fun e => by subst e; omega⟩
  · rw [hc b hb (fun e2 => by have := (hx b e2).1; omega)]; exact e
end
end Go.Proofs.Ytgdaiajjnfnomaa
