/- What stands between two rounds of goes' second range, and of the one within it. -/
import Derived.Test.YtgdaiajjnfnomaaGor
namespace Go.Proofs.Ytgdaiajjnfnomaa
set_option linter.unusedVariables false
open Go.RowKit Go.Shelf

/-- A range whose body is left by 'break' or not, both ways into one; it is told of its own record; the loop variable is not used. -/
theorem wpIn_rangeFunc_breakH {F : Fence} {n : Nat} {P : Program} {β : Type} {g : Operand} {pt : Nat} {body : Code} {Q : Exit → Act → World → Prop} {a : Act} {w : World} {id : Nat}
    (hro : F.round = none) (h1 : 1 ≤ n) {gf : Nat} {lb : Array Value} (hg : a.eval g = .func (.func gf) #[] lb) (hFg : F.fn gf) (eg : ∀ args w, (callFunc gf args).run P w = .ok (.enter gf args) w)
    {C S : List (Value × β) → Prop} {Giv : List Nat → World → World → (Value × β) → Prop} {K0 : List Nat} {w0 : World} (hseq : IterSt F (n - 1) P gf lb (fun x => #[x.1]) C S Giv K0 w0) (hb0 : Kept [] w0 w) (hK0 : ∀ i ∈ K0, i < w.heap.size)
    (I : List Nat → List (Value × β) → World → Prop) (X : World → Prop) (hI : ∀ Rs Rs' s A B, I Rs s A → Kept (w.heap.size :: (w.heap.size + 1) :: Rs) A B → Grows Rs Rs' A B → I Rs' s B)
    (hX : ∀ A B, X A → Kept [w.heap.size + 1] A B → X B)
    (h0 : ∀ Rs W', (∀ i ∈ Rs, w.heap.size + 2 ≤ i ∧ i < W'.heap.size) → Kept [] w W' → w.heap.size + 2 ≤ W'.heap.size → I Rs [] W')
    (hassign : ∀ (l : Nat) (x : Value × β) (W : World) (K : Act → World → Prop), K { tmps := a.tmps.setIfInBounds pt x.1, defers := [] } W →
      Code.skip.wpIn (F.inRound l) (n - 1 - 1) P (Exit.then K (fun _ _ _ => False)) { tmps := a.tmps.setIfInBounds pt x.1, defers := [] } W)
    (hbody : ∀ (l : Nat) (Rs : List Nat) (pre : List (Value × β)) (x : Value × β) (A Wb W : World), (∀ i ∈ Rs, w.heap.size + 2 ≤ i) → w.heap.size + 2 ≤ A.heap.size → I Rs pre A → I Rs pre Wb → Kept Rs A Wb → Giv Rs A Wb x → Kept [w.heap.size + 1] Wb W → C (pre ++ [x]) → l = w.heap.size + 1 → (∃ r, W.heap[l]? = some (.loop r)) →
      body.wpIn (F.inRound l) (n - 1 - 1) P (rsPost I (fun c _ W => c = .exit id ∧ X W) Rs K0 w.heap.size (pre ++ [x]) W) { tmps := a.tmps.setIfInBounds pt x.1, defers := [] } W)
    (hE : ∀ (Rs : List Nat) (xs : List (Value × β)) (W : World), I Rs xs W → S xs → X W)
    (hend : ∀ W, X W → W.heap[w.heap.size]? = some (.deferred (some [])) → Q .normal { a with defers := { target := .collected w.heap.size, args := #[] } :: a.defers } W) :
    (Code.rangeFunc g #[pt] .skip body).wpIn F n P (Exit.inBlock id Q) a w := by
  refine wpIn_rangeFunc_stopsH hro h1 hg hFg eg hseq hb0 hK0 (fun _ => rfl) I (fun c _ W => c = .exit id ∧ X W) hI (fun _ _ _ _ h k => ⟨h.1, hX _ _ h.2 k⟩) h0 (fun x a' _ => a' = { tmps := a.tmps.setIfInBounds pt x.1, defers := [] }) (fun _ _ _ _ h _ => h) ?_ ?_ (fun Rs xs W hi hs hd => hend W (hE Rs xs W hi hs) hd) ?_
  · intro l x W K _ hK
    have e : ((#[pt].zip #[x.1]).foldl (fun t (p, v) => t.setIfInBounds p v) a.tmps) = a.tmps.setIfInBounds pt x.1 := by simp
    rw [e]
    exact hassign l x W K (hK _ _ (Kept.refl _ _) rfl)
  · rintro l Rs pre x a' A Wb W h1 h2 h3 h4 h5 h6 h7 rfl h8 h9 h10
    exact hbody l Rs pre x A Wb W h1 h2 h3 h4 h5 h6 h7 h8 h9 h10
  · rintro c pre W ⟨rfl, hx⟩ _ hd
    refine wpIn_exit ?_
    simp only [Exit.inBlock, if_pos]
    exact hend W hx hd

/-- Within a round, for one loop variable that lies in a slot; never left early. -/
theorem wpIn_rangeFunc_all {F : Fence} {n : Nat} {P : Program} {β : Type} {g : Operand} {pt sl : Nat} {assign body : Code} {Q : Exit → Act → World → Prop} {a : Act} {w : World}
    {l₀ : Nat} {r₀ : Loop} (hro : F.round = some l₀) (hr₀ : w.heap[l₀]? = some (.loop r₀)) (h1 : 1 ≤ n) {gf : Nat} {lb : Array Value} (hg : a.eval g = .func (.func gf) #[] lb) (hFg : F.fn gf) (eg : ∀ args w, (callFunc gf args).run P w = .ok (.enter gf args) w)
    {C S : List (Value × β) → Prop} {Giv : List Nat → World → World → (Value × β) → Prop} {K0 : List Nat} {w0 : World} (hseq : IterSt F (n - 1) P gf lb (fun x => #[x.1]) C S Giv K0 w0) (hb0 : Kept [] w0 w) (hK0 : ∀ i ∈ K0, i < w.heap.size)
    (I : List Nat → List (Value × β) → World → Prop) (hI : ∀ Rs Rs' s A B, I Rs s A → Kept (w.heap.size :: Rs) A B → Grows Rs Rs' A B → I Rs' s B)
    (h0 : ∀ Rs W', (∀ i ∈ Rs, w.heap.size + 1 ≤ i ∧ i < W'.heap.size) → Kept [] w W' → w.heap.size + 1 ≤ W'.heap.size → I Rs [] W')
    (hassign : ∀ (l : Nat) (x : Value × β) (W : World) (K : Act → World → Prop), K { tmps := (a.tmps.setIfInBounds pt x.1).setIfInBounds sl x.1, defers := [] } W →
      assign.wpIn (F.inRound l) (n - 1 - 1) P (Exit.then K (fun _ _ _ => False)) { tmps := a.tmps.setIfInBounds pt x.1, defers := [] } W)
    (hbody : ∀ (l : Nat) (Rs : List Nat) (pre : List (Value × β)) (x : Value × β) (A Wb W : World), (∀ i ∈ Rs, w.heap.size + 1 ≤ i) → w.heap.size + 1 ≤ A.heap.size → I Rs pre A → I Rs pre Wb → Kept Rs A Wb → Giv Rs A Wb x → Kept [w.heap.size] Wb W → C (pre ++ [x]) →
      body.wpIn (F.inRound l) (n - 1 - 1) P (rsPostN I (fun _ _ _ => False) Rs K0 w.heap.size (pre ++ [x]) W) { tmps := (a.tmps.setIfInBounds pt x.1).setIfInBounds sl x.1, defers := [] } W)
    (hdone : ∀ (Rs : List Nat) (xs : List (Value × β)) (W : World), I Rs xs W → S xs → Q .normal a W) :
    (Code.rangeFunc g #[pt] assign body).wpIn F n P Q a w := by
  refine wpIn_rangeFunc_stopsN hro hr₀ h1 hg hFg eg hseq hb0 hK0 (fun _ => rfl) I (fun _ _ _ => False) hI (fun _ _ _ _ h _ => h) h0 (fun x a' _ => a' = { tmps := (a.tmps.setIfInBounds pt x.1).setIfInBounds sl x.1, defers := [] }) (fun _ _ _ _ h _ => h) ?_ ?_ hdone (fun _ _ _ h _ => h.elim)
  · intro l x W K _ hK
    have e : ((#[pt].zip #[x.1]).foldl (fun t (p, v) => t.setIfInBounds p v) a.tmps) = a.tmps.setIfInBounds pt x.1 := by simp
    rw [e]
    exact hassign l x W K (hK _ _ (Kept.refl _ _) rfl)
  · rintro l Rs pre x a' A Wb W h1 h2 h3 h4 h5 h6 h7 rfl h8
    exact hbody l Rs pre x A Wb W h1 h2 h3 h4 h5 h6 h7 h8

theorem mem_skip {a b c x : Nat} {l : List Nat} (h : x ∈ a :: b :: l) : x ∈ a :: b :: c :: l := by
  simp only [List.mem_cons] at h ⊢
  rcases h with h | h | h
  · exact Or.inl h
  · exact Or.inr (Or.inl h)
  · exact Or.inr (Or.inr (Or.inr h))
theorem caught_kept {w w' : World} {B1 B2 L p : Nat} {good : Bool} {bs : List UInt8} {v : Value} {S : List Nat} (h : Caught w B1 B2 L good bs p v) (k : Kept S w w') (h1 : B1 ∉ S) (h2 : B2 ∉ S) (h3 : good = true → p ∉ S) (h4 : ∀ i, v.ownBlock = some i → i ∉ S) : Caught w' B1 B2 L good bs p v :=
  ⟨(k.block _ (block_lt h.b1) h1).trans h.b1, (k.block _ (block_lt h.b2) h2).trans h.b2, fun hg => (k.block _ (block_lt (h.pt hg)) (h3 hg)).trans (h.pt hg), ownsRow_kept h.own k h4⟩
/-- What All captured lies as it lay. -/
theorem GB.caught {w8 A : World} {c8 c : Nat → Nat} {e k M : Nat} {Os Rs : List Nat} {B1 B2 L p : Nat} {good : Bool} {bs : List UInt8} {v : Value} (h : GB w8 c8 e k Os M Rs c A) (hc : Caught w8 B1 B2 L good bs p v) (h7 : ∀ b ∈ B1 :: B2 :: v.ownBlock.toList, 7 ≤ c8 b ∧ b ∉ Os) (hp : good = true → 7 ≤ c8 p ∧ p ∉ Os) : Caught A B1 B2 L good bs p v := by
  obtain ⟨S, kk, hS⟩ := h.kept
  have ne : ∀ b, (7 ≤ c8 b ∧ b ∉ Os) → b < w8.heap.size → b ∉ S := fun b hb hlt hm => by
    rcases hS b hm hlt with q | q
    · omega
    · exact hb.2 q
  exact caught_kept hc kk (ne _ (h7 _ (by simp)) (block_lt hc.b1)) (ne _ (h7 _ (by simp)) (block_lt hc.b2)) (fun hg => ne _ (hp hg) (block_lt (hc.pt hg))) (fun i hi => ne _ (h7 _ (by simp [hi])) (hc.own.lt i hi).2)
section
variable {w9 wi A B W Wb : World} {c9 ci c c' : Nat → Nat} {k P N M M' e : Nat} {Rs Rs' : List Nat} {pre : List (Value × List UInt8)} {F : List (List UInt8)}
/-- Between two rounds of the second range; P: the counter's box. -/
def G2 (w9 : World) (c9 : Nat → Nat) (k P N : Nat) (Rs : List Nat) (pre : List (Value × List UInt8)) (wr : World) : Prop :=
  ∃ c, GB w9 c9 2 k [P] N Rs c wr ∧ wr.heap[P]? = some (.cells #[.int .i64 (pre.length : Int)] 3 (0, 0)) ∧ pre.length ≤ 1
def X2 (w9 : World) (c9 : Nat → Nat) (k P N : Nat) (wr : World) : Prop := ∃ c, GB w9 c9 2 k [P] N [] c wr
theorem GB.farP (h : GB w9 c9 2 k [P] M Rs c A) (hP : P < w9.heap.size) : P ∉ [w9.heap.size, w9.heap.size + 1] ++ Rs := fun hm => by
  rcases List.mem_append.1 hm with q | q
  · simp at q; omega
  · have := (h.rc P q).1; omega
theorem G2.turn (hP : P < w9.heap.size) (h : G2 w9 c9 k P N Rs pre A) (hk : Kept (w9.heap.size :: (w9.heap.size + 1) :: Rs) A B) (hg : Grows Rs Rs' A B) : G2 w9 c9 k P N Rs' pre B := by
  obtain ⟨c, h1, h2, h3⟩ := h
  exact ⟨_, h1.turn (D := [w9.heap.size, w9.heap.size + 1]) hk two_of hg, (hk.block P (block_lt h2) (h1.farP hP)).trans h2, h3⟩
theorem X2.turn (h : X2 w9 c9 k P N A) (hk : Kept [w9.heap.size + 1] A B) : X2 w9 c9 k P N B := by
  obtain ⟨c, h1⟩ := h
  have hk' : Kept ([w9.heap.size, w9.heap.size + 1] ++ []) A B := hk.mono (fun i hi => Or.inl (by simp at hi; simp [hi]))
  exact ⟨_, h1.turn (D := [w9.heap.size, w9.heap.size + 1]) hk' two_of (fun i hi => by cases hi)⟩
theorem G2.start {W' : World} (hb : Bkd w9 k c9 N) (hP : w9.heap[P]? = some (.cells #[.int .i64 0] 3 (0, 0))) (hk : Kept [] w9 W') (hz : w9.heap.size + 2 ≤ W'.heap.size) (hR : ∀ b ∈ Rs, w9.heap.size + 2 ≤ b ∧ b < W'.heap.size) : G2 w9 c9 k P N Rs [] W' :=
  ⟨_, GB.start hb hk hz hR, (hk.block P (block_lt hP) (by simp)).trans hP, by simp⟩
theorem G2.done (h : G2 w9 c9 k P N Rs pre A) (hm : N ≤ M) : X2 w9 c9 k P M A := by
  obtain ⟨c, h1, -⟩ := h
  exact ⟨c, h1.bare.more hm⟩
/-- A round begins. -/
theorem G2.give {x : Value × List UInt8} (hP : P < w9.heap.size) (h : G2 w9 c9 k P N Rs pre A) (hk : Kept Rs A Wb) (hg : Cut.GivF Rs A Wb x) (hk2 : Kept [w9.heap.size + 1] Wb W) :
    ∃ c, GB w9 c9 2 k [P] N Rs c W ∧ W.heap[P]? = some (.cells #[.int .i64 (pre.length : Int)] 3 (0, 0)) ∧ pre.length ≤ 1 := by
  obtain ⟨c, h1, h2, h3⟩ := h
  have hD : ∀ b ∈ [w9.heap.size + 1], ∃ j, j < 2 ∧ b = w9.heap.size + j := fun b hb => two_of b (by simp at hb; simp [hb])
  obtain ⟨g1, -, -⟩ := h1.give hk hg hk2 hD
  have kk : Kept ([w9.heap.size, w9.heap.size + 1] ++ Rs) A W := (hk.mono (T := [w9.heap.size, w9.heap.size + 1] ++ Rs) (fun i hi => Or.inl (List.mem_append_right _ hi))).trans hk2 (fun i hi => Or.inl (by simp at hi; simp [hi]))
  exact ⟨_, g1, (kk.block P (block_lt h2) (h1.farP hP)).trans h2, h3⟩
/-- The counter's box is written. -/
theorem GB.wrote {u v : Value} {t : TypeId} (h : GB w9 c9 2 k [P] M Rs c W) (hP : P < w9.heap.size) (hPc : c9 P = 10) (hb : W.heap[P]? = some (.cells #[u] t (0, 0))) :
    GB w9 c9 2 k [P] M Rs c (W.setCell ⟨P, 0, none⟩ v) ∧ (W.setCell ⟨P, 0, none⟩ v).heap[P]? = some (.cells #[v] t (0, 0)) ∧ Kept [P] W (W.setCell ⟨P, 0, none⟩ v) := by
  have ks : Kept [P] W (W.setCell ⟨P, 0, none⟩ v) := (Kept.refl _ _).setCell (p := ⟨P, 0, none⟩) (Or.inl (by simp)) v
  have hset := heap_set (i := 0) v hb
  refine ⟨h.step ks (fun b hb hlt => ?_) (fun b _ => rfl) (fun b hb => ?_), by simpa using hset, ks⟩
  · simp at hb
    subst hb
    exact ⟨by rw [h.same b hP (by omega)]; omega, fun _ => by simp⟩
  · obtain ⟨r1, r2, r3⟩ := h.rc b hb
    exact ⟨r1, Nat.lt_of_lt_of_le r2 ks.size, r3⟩
/-- The range within a round, put into its round. -/
theorem GB.comp (h : GB w9 c9 2 k [P] M Rs ci wi) (g : GB wi ci 1 k [] M' Rs' c A) : GB w9 c9 2 k [P] M' [] c A := by
  obtain ⟨S0, k0, h0⟩ := h.kept
  obtain ⟨S1, k1, h1⟩ := g.kept
  have hz := k0.size
  have hb := h.big
  have hb2 := g.big
  refine ⟨g.bk, fun b hb => (by cases hb), fun j hj => ?_, ⟨S0 ++ S1, ?_, fun b hb hlt => ?_⟩, fun b hb h7 => ?_, by omega⟩
  · rw [g.same _ (by omega) (by rw [h.dc j hj]; decide)]; exact h.dc j hj
  · exact (k0.mono (T := S0 ++ S1) (fun i hi => Or.inl (List.mem_append_left _ hi))).trans k1 (fun i hi => Or.inl (List.mem_append_right _ hi))
  · rcases List.mem_append.1 hb with q | q
    · exact h0 b q hlt
    · rcases h1 b q (by omega) with r | r
      · by_cases h7 : 7 ≤ c9 b
        · have := h.same b hlt h7; omega
        · left; omega
      · cases r
  · have e := h.same b hb h7
    rw [g.same b (by omega) (by omega), e]
/-- Between two rounds of the range within. -/
def G3 (wi : World) (ci : Nat → Nat) (k N : Nat) (Rs : List Nat) (pre : List (Value × List UInt8)) (wr : World) : Prop := ∃ c, GB wi ci 1 k [] (N + 5 * pre.length) Rs c wr
theorem one_of : ∀ b ∈ [wi.heap.size], ∃ j, j < 1 ∧ b = wi.heap.size + j := fun b hb => by
  simp at hb
  exact ⟨0, by omega, by omega⟩
theorem G3.turn (h : G3 wi ci k N Rs pre A) (hk : Kept (wi.heap.size :: Rs) A B) (hg : Grows Rs Rs' A B) : G3 wi ci k N Rs' pre B := by
  obtain ⟨c, h1⟩ := h
  exact ⟨_, h1.turn (D := [wi.heap.size]) hk one_of hg⟩
theorem G3.start {W' : World} (hb : Bkd wi k ci N) (hk : Kept [] wi W') (hz : wi.heap.size + 1 ≤ W'.heap.size) (hR : ∀ b ∈ Rs, wi.heap.size + 1 ≤ b ∧ b < W'.heap.size) : G3 wi ci k N Rs [] W' :=
  ⟨_, GB.start (by simpa using hb) hk hz hR⟩
theorem G3.give {x : Value × List UInt8} (h : G3 wi ci k N Rs pre A) (hk : Kept Rs A Wb) (hg : Cut.GivF Rs A Wb x) (hk2 : Kept [wi.heap.size] Wb W) :
    ∃ c, GB wi ci 1 k [] (N + 5 * pre.length) Rs c W ∧ Own W 0 x.1 x.2 ∧ (∀ b, x.1.ownBlock = some b → c b = 7 ∧ wi.heap.size ≤ b ∧ b < W.heap.size) := by
  obtain ⟨c, h1⟩ := h
  obtain ⟨g1, g2, g3⟩ := h1.give hk hg hk2 one_of
  have hb := h1.big
  exact ⟨_, g1, g2, fun b hx => ⟨(g3 b hx).1, by have := (g3 b hx).2.1; omega, (g3 b hx).2.2⟩⟩
/-- The book has taken a frame of the range within. -/
theorem GB.took3 {x : Value × List UInt8} {K0 S : List Nat} (hK0 : ∀ i ∈ K0, i < wi.heap.size ∧ ci i = 10) (hB : GB wi ci 1 k [] (N + 5 * pre.length) Rs c W) (hx : ∀ b, x.1.ownBlock = some b → c b = 7 ∧ wi.heap.size ≤ b ∧ b < W.heap.size)
    (hb : Bkd B k c' (N + 5 * pre.length + 5)) (hk : Kept S W B) (hS : ∀ b ∈ S, b < W.heap.size → c b ≤ 6) (hc : ∀ b, b < W.heap.size → x.1.ownBlock ≠ some b → c' b = c b) :
    (∃ U, Kept U W B ∧ ∀ b ∈ U, (b ∉ Rs ∧ b ∉ K0) ∧ b ≠ wi.heap.size) ∧ G3 wi ci k N Rs (pre ++ [x]) B := by
  have hz := hB.big
  have d0 := hB.dc 0 (by decide)
  refine ⟨⟨S, hk, fun b hb => ⟨⟨fun hm => ?_, fun hm => ?_⟩, fun e => ?_⟩⟩, c', (hB.owned (fun b hb => ⟨(hx b hb).1, (hx b hb).2.1⟩) hb hk hS hc).more (by simp; omega)⟩
  · obtain ⟨r1, r2, r3⟩ := hB.rc b hm
    have := hS b hb r2
    omega
  · obtain ⟨r1, r2⟩ := hK0 b hm
    have h2 := hB.same b r1 (by omega)
    have := hS b hb (by omega)
    omega
  · subst e
    have := hS _ hb (by omega)
    rw [Nat.add_zero] at d0
    omega
end
/-- What both ranges leave of all that was there. -/
theorem Fr.of2 {w w4 W w9 W6 W8 : World} {col c4 c1 c9 c6 : Nat → Nat} {k O P M1 M2 : Nat} {U : List Nat} (k4 : Kept [] w w4) (hc4 : ∀ b, b < w.heap.size → c4 b = col b) (h1 : GB w4 c4 2 k [O] M1 [] c1 W) (hO : w.heap.size ≤ O) (k9 : Kept [] W w9) (hc9 : ∀ b, b < W.heap.size → c9 b = c1 b)
    (h2 : GB w9 c9 2 k [P] M2 [] c6 W6) (hP : w.heap.size ≤ P) (k7 : Kept U W6 W8) (hU : ∀ b ∈ U, w.heap.size ≤ b) : Fr w col W8 c6 0 := by
  obtain ⟨S1, k1, s1⟩ := h1.kept
  obtain ⟨S2, k2, s2⟩ := h2.kept
  have z4 := k4.size
  have z1 := k1.size
  have z9 := k9.size
  have z2 := k2.size
  have e1 : ∀ b, b < w.heap.size → 7 ≤ col b → c1 b = col b := fun b hb h7 => by rw [h1.same b (by omega) (by rw [hc4 b hb]; exact h7), hc4 b hb]
  have e9 : ∀ b, b < w.heap.size → c9 b = c1 b := fun b hb => hc9 b (by omega)
  have kk : Kept (S1 ++ (S2 ++ U)) w W8 := by
    refine Kept.trans (b := W6) (Kept.trans (b := w9) (Kept.trans (b := W) ((k4.mono (T := S1 ++ (S2 ++ U)) (fun i hi => by cases hi)).trans k1 (fun i hi => Or.inl (List.mem_append_left _ hi))) k9 (fun i hi => by cases hi)) k2 (fun i hi => Or.inl (List.mem_append_right _ (List.mem_append_left _ hi)))) k7 (fun i hi => Or.inl (List.mem_append_right _ (List.mem_append_right _ hi)))
  refine ⟨⟨_, kk, fun b hb hlt => Or.inl ?_⟩, fun b hb h7 => ?_⟩
  · rcases List.mem_append.1 hb with q | q
    · rcases s1 b q (by omega) with r | r
      · rw [hc4 b hlt] at r; exact r
      · have := List.mem_singleton.1 r; omega
    · rcases List.mem_append.1 q with q | q
      · rcases s2 b q (by omega) with r | r
        · by_cases h7 : 7 ≤ col b
          · rw [e9 b hlt, e1 b hlt h7] at r; omega
          · omega
        · have := List.mem_singleton.1 r; omega
      · have := hU b q; omega
  · have a := e1 b hb h7
    have b9 := e9 b hb
    rw [h2.same b (by omega) (by omega), b9, a]
end Go.Proofs.Ytgdaiajjnfnomaa
