/- A range over a function, as in Rgs: where the body is told of its own loop's record (H); within a round of another loop (N). No program's run. -/
import Derived.Test.YtgdaiajjnfnomaaRgs
import Derived.RangeFuncNested
namespace Go.Proofs.Ytgdaiajjnfnomaa
set_option linter.unusedVariables false
open Go.RowKit

/-- How the body of a round is left, where the loop lies within a round of another: D is its own record. -/
def rsPostN {α : Type} (I : List Nat → List α → World → Prop) (Ix : Code → List α → World → Prop) (Rs K0 : List Nat) (D : Nat) (xs : List α) (W : World) : Exit → Act → World → Prop
  | .normal, _, W' => (∃ S, Kept S W W' ∧ ∀ i ∈ S, (i ∉ Rs ∧ i ∉ K0) ∧ i ≠ D) ∧ I Rs xs W'
  | .exit id, _, W' => (∃ S, Kept S W W' ∧ ∀ i ∈ S, i ≠ D) ∧ Ix (.exit id) xs W'
  | .ret, _, W' => (∃ S, Kept S W W' ∧ ∀ i ∈ S, i ≠ D) ∧ Ix .ret xs W'
  | _, _, _ => False

variable {F : Fence} {n : Nat} {P : Program}

/-- The body is told of its own record. -/
theorem wpIn_rangeFunc_stopsH {α : Type} {g : Operand} {ps : Array Tmp} {assign body : Code} {Q : Exit → Act → World → Prop} {a : Act} {w : World}
    (hro : F.round = none) (h1 : 1 ≤ n) {gf : Nat} {lb : Array Value} (hg : a.eval g = .func (.func gf) #[] lb) (hFg : F.fn gf) (eg : ∀ args w, (callFunc gf args).run P w = .ok (.enter gf args) w)
    {encs : α → Array Value} {C S : List α → Prop} {Giv : List Nat → World → World → α → Prop} {K0 : List Nat} {w0 : World} (hseq : IterSt F (n - 1) P gf lb encs C S Giv K0 w0) (hb0 : Kept [] w0 w) (hK0 : ∀ i ∈ K0, i < w.heap.size) (hps : ∀ x, (encs x).size = ps.size)
    (I : List Nat → List α → World → Prop) (Ix : Code → List α → World → Prop) (hI : ∀ Rs Rs' s A B, I Rs s A → Kept (w.heap.size :: (w.heap.size + 1) :: Rs) A B → Grows Rs Rs' A B → I Rs' s B)
    (hIx : ∀ c s A B, Ix c s A → Kept [w.heap.size + 1] A B → Ix c s B)
    (h0 : ∀ Rs W', (∀ i ∈ Rs, w.heap.size + 2 ≤ i ∧ i < W'.heap.size) → Kept [] w W' → w.heap.size + 2 ≤ W'.heap.size → I Rs [] W') (Ax : α → Act → World → Prop)
    (hAx : ∀ x a' A B, Ax x a' A → Kept [w.heap.size + 1] A B → Ax x a' B)
    (hassign : ∀ (l : Nat) (x : α) (W : World) (K : Act → World → Prop), w.heap.size + 2 ≤ W.heap.size → (∀ a' W', Kept [] W W' → Ax x a' W' → K a' W') →
      assign.wpIn (F.inRound l) (n - 1 - 1) P (Exit.then K (fun _ _ _ => False)) { tmps := (ps.zip (encs x)).foldl (fun t (p, v) => t.setIfInBounds p v) a.tmps, defers := [] } W)
    (hbody : ∀ (l : Nat) (Rs : List Nat) (pre : List α) (x : α) (a' : Act) (A Wb W : World), (∀ i ∈ Rs, w.heap.size + 2 ≤ i) → w.heap.size + 2 ≤ A.heap.size → I Rs pre A → I Rs pre Wb → Kept Rs A Wb → Giv Rs A Wb x → Kept [w.heap.size + 1] Wb W → Ax x a' W → C (pre ++ [x]) → l = w.heap.size + 1 → (∃ r, W.heap[l]? = some (.loop r)) →
      body.wpIn (F.inRound l) (n - 1 - 1) P (rsPost I Ix Rs K0 w.heap.size (pre ++ [x]) W) a' W)
    (hdone : ∀ (Rs : List Nat) (xs : List α) (W : World), I Rs xs W → S xs → W.heap[w.heap.size]? = some (.deferred (some [])) → Q .normal { a with defers := { target := .collected w.heap.size, args := #[] } :: a.defers } W)
    (hstop : ∀ (c : Code) (pre : List α) (W : World), Ix c pre W → C pre → W.heap[w.heap.size]? = some (.deferred (some [])) → c.wpIn F n P Q { a with defers := { target := .collected w.heap.size, args := #[] } :: a.defers } W) :
    (Code.rangeFunc g ps assign body).wpIn F n P Q a w := by
  refine wpIn_rangeFunc ?_
  intro fn hfn
  rw [hro]
  obtain ⟨rec, hrec⟩ : ∃ rec : LoopState → Option Code → Loop, rec = fun st pe => { state := st, pending := pe, fn, tmps := a.tmps, params := ps, assign, body, defers := w.heap.size } := ⟨_, rfl⟩
  obtain ⟨W1, hW1⟩ : ∃ W1, (w.alloc (.deferred (some []))).alloc (.loop (rec .ready none)) = W1 := ⟨_, rfl⟩
  have hL1 : W1.heap[w.heap.size + 1]? = some (.loop (rec .ready none)) := by
    rw [← hW1]; have := World.alloc_heap_new (w.alloc (.deferred (some []))) (.loop (rec .ready none)); rwa [World.size_alloc] at this
  have hK1 : W1.heap[w.heap.size]? = some (.deferred (some [])) := by
    rw [← hW1]; exact (Below.heap_alloc _ _ _ (by simp)).trans (World.alloc_heap_new w _)
  have hkw : Kept [] w W1 := by rw [← hW1]; exact ((Kept.refl [] w).alloc _).alloc _
  have hsz : W1.heap.size = w.heap.size + 2 := by rw [← hW1]; simp
  refine ⟨w.heap.size + 1, [{ target := .collected w.heap.size, args := #[] }], W1, { target := .fn (.func gf) lb, args := #[.func (.yield (w.heap.size + 1)) #[] #[]] }, W1, gf,
    #[.func (.yield (w.heap.size + 1)) #[] #[]] ++ lb, W1, ?_, ?_, ?_, ?_, fun _ => h1, ?_⟩
  · rw [← hW1, hrec]; exact run_enterLoop_outer _ _ _ _ _
  · simp only [resolve, hg]
    simp [go_sem]
  · intro f' hf'; simp [Target.leads] at hf'; subst hf'; exact hFg
  · simp [invoke, go_sem, eg]
  · refine (hseq (w.heap.size + 1)
      (fun Rs pre W => (∀ i ∈ Rs, w.heap.size + 2 ≤ i) ∧ I Rs pre W ∧ W.heap[w.heap.size + 1]? = some (.loop (rec .ready none)) ∧ W.heap[w.heap.size]? = some (.deferred (some [])))
      (fun Rs pre W => ∃ c, Ix c pre W ∧ W.heap[w.heap.size + 1]? = some (.loop (rec .done (some c))) ∧ W.heap[w.heap.size]? = some (.deferred (some [])))
      W1 (hb0.trans hkw (fun i hi => by simp at hi)) ?_ ?_ ?_).mono ?_
    · rintro Rs Rs' s A B ⟨hR, hi, hl, hk⟩ hkept hgr
      have n1 : w.heap.size + 1 ∉ Rs := fun hm => by have := hR _ hm; omega
      have n2 : w.heap.size ∉ Rs := fun hm => by have := hR _ hm; omega
      refine ⟨fun i hi' => ?_, hI _ _ _ _ _ hi (hkept.mono (fun i hi => Or.inl (by simp [hi]))) hgr, (hkept.block _ (block_lt hl) n1).trans hl, (hkept.block _ (block_lt hk) n2).trans hk⟩
      rcases hgr i hi' with q | q
      · exact hR i q
      · have := block_lt hl; omega
    · -- ONE ROUND
      rintro Rs pre x A W ⟨hRA, hiA, hlA, hkA⟩ ⟨hR, hi, hl, hk⟩ hAW hgiv hpre
      have n1 : w.heap.size + 1 ∉ Rs := fun hm => by have := hR _ hm; omega
      have n2 : w.heap.size ∉ Rs := fun hm => by have := hR _ hm; omega
      have hlt0 : w.heap.size + 1 < W.heap.size := block_lt hl
      have hltA : w.heap.size + 1 < A.heap.size := block_lt hlA
      have hy := run_yield (P := P) (args := encs x) hl (by rw [hrec]; exact hps x)
      rw [hrec] at hy
      refine ⟨fn, _, assign, body, hy, roundIn_of_wpIn hfn (hassign _ x W _ (by omega) ?_)⟩
      intro a' W0 hk0 hax
      have hl0 := (hk0.block _ (block_lt hl) (by simp)).trans hl
      have hk00 := (hk0.block _ (block_lt hk) (by simp)).trans hk
      refine ⟨_, run_beginRound hl0 (by rw [hrec]), ?_⟩
      have hlt : w.heap.size + 1 < W0.heap.size := block_lt hl0
      have hl2 : (W0.putObj (w.heap.size + 1) (.loop { rec .ready none with state := .busy })).heap[w.heap.size + 1]? = some (.loop { rec .ready none with state := .busy }) := World.putObj_heap_same hlt
      have hk2 : (W0.putObj (w.heap.size + 1) (.loop { rec .ready none with state := .busy })).heap[w.heap.size]? = some (.deferred (some [])) := (World.putObj_heap_other (by omega)).trans hk00
      have hw1 : Kept [w.heap.size + 1] W0 (W0.putObj (w.heap.size + 1) (.loop { rec .ready none with state := .busy })) := (Kept.refl _ W0).putObj _ (Or.inl (by simp))
      have hw2 : Kept [w.heap.size + 1] W (W0.putObj (w.heap.size + 1) (.loop { rec .ready none with state := .busy })) := (hk0.mono (T := [w.heap.size + 1]) (fun i hi => by simp at hi)).trans hw1 (fun i hi => Or.inl hi)
      refine wpIn_mono (hbody _ Rs pre x a' A W _ hR (by omega) hiA hi hAW hgiv hw2 (hAx _ _ _ _ hax hw1) hpre rfl ⟨_, hl2⟩) ?_
      have fin : ∀ (jump : Option Code) (S : List Nat) (W3 : World), Kept S (W0.putObj (w.heap.size + 1) (.loop { rec .ready none with state := .busy })) W3 → w.heap.size + 1 ∉ S → w.heap.size ∉ S →
          (Instr.endRound (w.heap.size + 1) jump).run P W3 = .ok (.bool jump.isNone) (W3.putObj (w.heap.size + 1) (.loop (rec (if jump.isNone then .ready else .done) jump))) ∧
          (W3.putObj (w.heap.size + 1) (.loop (rec (if jump.isNone then .ready else .done) jump))).heap[w.heap.size + 1]? = some (.loop (rec (if jump.isNone then .ready else .done) jump)) ∧
          (W3.putObj (w.heap.size + 1) (.loop (rec (if jump.isNone then .ready else .done) jump))).heap[w.heap.size]? = some (.deferred (some [])) ∧
          Kept [w.heap.size + 1] W3 (W3.putObj (w.heap.size + 1) (.loop (rec (if jump.isNone then .ready else .done) jump))) := fun jump S W3 hk3 d1 d2 => by
        have hl3 := (hk3.block _ (block_lt hl2) d1).trans hl2
        have := run_endRound (P := P) jump hl3
        rw [hrec] at this ⊢
        exact ⟨this, World.putObj_heap_same (block_lt hl3), (World.putObj_heap_other (by omega)).trans ((hk3.block _ (block_lt hk2) d2).trans hk2), (Kept.refl _ W3).putObj _ (Or.inl (by simp))⟩
      rintro e a3 W3 hp
      cases e with
      | normal =>
        obtain ⟨⟨S, hk3, hS⟩, hi3⟩ := hp
        obtain ⟨hr, hl4, hk4, hw4⟩ := fin none S W3 hk3 (fun hm => (hS _ hm).2.2 rfl) (fun hm => (hS _ hm).2.1 rfl)
        refine ⟨_, _, hr, .inl ⟨rfl, ⟨hR, hI _ _ _ _ _ hi3 (hw4.mono (T := w.heap.size :: (w.heap.size + 1) :: Rs) (fun i hi => Or.inl (by simp at hi; simp [hi]))) (fun i hi => Or.inl hi), hl4, hk4⟩, (w.heap.size + 1) :: S, ?_, ?_⟩⟩
        · have e1 := (hw2.mono (T := (w.heap.size + 1) :: S) (fun i hi => Or.inl (by simp at hi; simp [hi]))).trans hk3 (fun i hi => Or.inl (by simp [hi]))
          exact e1.trans hw4 (fun i hi => Or.inl (by simp at hi; simp [hi]))
        · intro i hi
          rcases List.mem_cons.1 hi with rfl | hi
          · exact ⟨n1, fun hm => by have := hK0 _ hm; omega⟩
          · exact (hS i hi).1
      | ret =>
        obtain ⟨⟨S, hk3, hS⟩, hi3⟩ := hp
        obtain ⟨hr, hl4, hk4, hw4⟩ := fin (some .ret) S W3 hk3 (fun hm => (hS _ hm).2 rfl) (fun hm => (hS _ hm).1 rfl)
        exact ⟨_, _, hr, .inr ⟨rfl, .ret, hIx _ _ _ _ hi3 hw4, hl4, hk4⟩⟩
      | exit id =>
        obtain ⟨⟨S, hk3, hS⟩, hi3⟩ := hp
        obtain ⟨hr, hl4, hk4, hw4⟩ := fin (some (.exit id)) S W3 hk3 (fun hm => (hS _ hm).2 rfl) (fun hm => (hS _ hm).1 rfl)
        exact ⟨_, _, hr, .inr ⟨rfl, .exit id, hIx _ _ _ _ hi3 hw4, hl4, hk4⟩⟩
      | goto t => exact hp.elim
      | panic ch => exact hp.elim
      | outgrown => exact hp.elim
    · rintro Rs W' hR hk
      have hR' : ∀ i ∈ Rs, w.heap.size + 2 ≤ i := fun i hi => by have := (hR i hi).1; omega
      have hks := hk.size
      exact ⟨hR', h0 Rs W' (fun i hi => ⟨hR' i hi, (hR i hi).2⟩) (hkw.trans hk (fun i hi => by simp at hi)) (by omega), (hk.block _ (block_lt hL1) (by simp)).trans hL1, (hk.block _ (block_lt hK1) (by simp)).trans hK1⟩
    · -- BEHIND THE ITERATOR
      rintro e W2 ⟨⟨v, rfl⟩, (⟨Rs, xs, hS, hR, hi, hl, hk⟩ | ⟨Rs, pre, hC, c, hi, hl, hk⟩)⟩
      · have hw5 : Kept [w.heap.size + 1] W2 (W2.putObj (w.heap.size + 1) (.loop { rec .ready none with state := .exhausted })) := (Kept.refl _ W2).putObj _ (Or.inl (by simp))
        have hi5 := hI _ _ _ _ _ hi (hw5.mono (T := w.heap.size :: (w.heap.size + 1) :: Rs) (fun i hi => Or.inl (by simp at hi; simp [hi]))) (fun i hi => Or.inl hi)
        have he := run_endLoop (P := P) hl (by rw [hrec]; simp)
        subst hrec
        exact ⟨none, _, he, hdone Rs xs _ hi5 hS ((World.putObj_heap_other (by omega)).trans hk)⟩
      · have hw5 : Kept [w.heap.size + 1] W2 (W2.putObj (w.heap.size + 1) (.loop { rec .done (some c) with state := .exhausted })) := (Kept.refl _ W2).putObj _ (Or.inl (by simp))
        have hi5 := hIx _ _ _ _ hi hw5
        have he := run_endLoop (P := P) hl (by rw [hrec]; simp)
        subst hrec
        exact ⟨some c, _, he, hstop c pre _ hi5 hC ((World.putObj_heap_other (by omega)).trans hk)⟩

/-- A contract goes into a round as it is. -/
theorem IterSt.inRound {α : Type} {g : Nat} {lb : Array Value} {encs : α → Array Value} {C S : List α → Prop} {Giv : List Nat → World → World → α → Prop} {K0 : List Nat} {w0 : World} (l : Nat) (h : IterSt F n P g lb encs C S Giv K0 w0) : IterSt (F.inRound l) n P g lb encs C S Giv K0 w0 := h

/-- Within a round of the loop l₀. -/
theorem wpIn_rangeFunc_stopsN {α : Type} {g : Operand} {ps : Array Tmp} {assign body : Code} {Q : Exit → Act → World → Prop} {a : Act} {w : World}
    {l₀ : Nat} {r₀ : Loop} (hro : F.round = some l₀) (hr₀ : w.heap[l₀]? = some (.loop r₀)) (h1 : 1 ≤ n) {gf : Nat} {lb : Array Value} (hg : a.eval g = .func (.func gf) #[] lb) (hFg : F.fn gf) (eg : ∀ args w, (callFunc gf args).run P w = .ok (.enter gf args) w)
    {encs : α → Array Value} {C S : List α → Prop} {Giv : List Nat → World → World → α → Prop} {K0 : List Nat} {w0 : World} (hseq : IterSt F (n - 1) P gf lb encs C S Giv K0 w0) (hb0 : Kept [] w0 w) (hK0 : ∀ i ∈ K0, i < w.heap.size) (hps : ∀ x, (encs x).size = ps.size)
    (I : List Nat → List α → World → Prop) (Ix : Code → List α → World → Prop) (hI : ∀ Rs Rs' s A B, I Rs s A → Kept (w.heap.size :: Rs) A B → Grows Rs Rs' A B → I Rs' s B)
    (hIx : ∀ c s A B, Ix c s A → Kept [w.heap.size] A B → Ix c s B)
    (h0 : ∀ Rs W', (∀ i ∈ Rs, w.heap.size + 1 ≤ i ∧ i < W'.heap.size) → Kept [] w W' → w.heap.size + 1 ≤ W'.heap.size → I Rs [] W') (Ax : α → Act → World → Prop)
    (hAx : ∀ x a' A B, Ax x a' A → Kept [w.heap.size] A B → Ax x a' B)
    (hassign : ∀ (l : Nat) (x : α) (W : World) (K : Act → World → Prop), w.heap.size + 1 ≤ W.heap.size → (∀ a' W', Kept [] W W' → Ax x a' W' → K a' W') →
      assign.wpIn (F.inRound l) (n - 1 - 1) P (Exit.then K (fun _ _ _ => False)) { tmps := (ps.zip (encs x)).foldl (fun t (p, v) => t.setIfInBounds p v) a.tmps, defers := [] } W)
    (hbody : ∀ (l : Nat) (Rs : List Nat) (pre : List α) (x : α) (a' : Act) (A Wb W : World), (∀ i ∈ Rs, w.heap.size + 1 ≤ i) → w.heap.size + 1 ≤ A.heap.size → I Rs pre A → I Rs pre Wb → Kept Rs A Wb → Giv Rs A Wb x → Kept [w.heap.size] Wb W → Ax x a' W → C (pre ++ [x]) →
      body.wpIn (F.inRound l) (n - 1 - 1) P (rsPostN I Ix Rs K0 w.heap.size (pre ++ [x]) W) a' W)
    (hdone : ∀ (Rs : List Nat) (xs : List α) (W : World), I Rs xs W → S xs → Q .normal a W)
    (hstop : ∀ (c : Code) (pre : List α) (W : World), Ix c pre W → C pre → c.wpIn F n P Q a W) :
    (Code.rangeFunc g ps assign body).wpIn F n P Q a w := by
  refine wpIn_rangeFunc ?_
  intro fn hfn
  rw [hro]
  obtain ⟨rec, hrec⟩ : ∃ rec : LoopState → Option Code → Loop, rec = fun st pe => { state := st, pending := pe, fn, tmps := a.tmps, params := ps, assign, body, defers := r₀.defers } := ⟨_, rfl⟩
  obtain ⟨W1, hW1⟩ : ∃ W1, w.alloc (.loop (rec .ready none)) = W1 := ⟨_, rfl⟩
  have hL1 : W1.heap[w.heap.size]? = some (.loop (rec .ready none)) := by
    rw [← hW1]; exact World.alloc_heap_new w _
  have hkw : Kept [] w W1 := by rw [← hW1]; exact (Kept.refl [] w).alloc _
  have hsz : W1.heap.size = w.heap.size + 1 := by rw [← hW1]; simp
  refine ⟨w.heap.size, [], W1, { target := .fn (.func gf) lb, args := #[.func (.yield w.heap.size) #[] #[]] }, W1, gf,
    #[.func (.yield w.heap.size) #[] #[]] ++ lb, W1, ?_, ?_, ?_, ?_, fun _ => h1, ?_⟩
  · rw [← hW1, hrec]; exact run_enterLoop_inner hr₀ _ _ _ _ _
  · simp only [resolve, hg]
    simp [go_sem]
  · intro f' hf'; simp [Target.leads] at hf'; subst hf'; exact hFg
  · simp [invoke, go_sem, eg]
  · refine (hseq w.heap.size
      (fun Rs pre W => (∀ i ∈ Rs, w.heap.size + 1 ≤ i) ∧ I Rs pre W ∧ W.heap[w.heap.size]? = some (.loop (rec .ready none)))
      (fun Rs pre W => ∃ c, Ix c pre W ∧ W.heap[w.heap.size]? = some (.loop (rec .done (some c))))
      W1 (hb0.trans hkw (fun i hi => by simp at hi)) ?_ ?_ ?_).mono ?_
    · rintro Rs Rs' s A B ⟨hR, hi, hl⟩ hkept hgr
      have n1 : w.heap.size ∉ Rs := fun hm => by have := hR _ hm; omega
      refine ⟨fun i hi' => ?_, hI _ _ _ _ _ hi (hkept.mono (fun i hi => Or.inl (by simp [hi]))) hgr, (hkept.block _ (block_lt hl) n1).trans hl⟩
      rcases hgr i hi' with q | q
      · exact hR i q
      · have := block_lt hl; omega
    · -- ONE ROUND
      rintro Rs pre x A W ⟨hRA, hiA, hlA⟩ ⟨hR, hi, hl⟩ hAW hgiv hpre
      have n1 : w.heap.size ∉ Rs := fun hm => by have := hR _ hm; omega
      have hlt0 : w.heap.size < W.heap.size := block_lt hl
      have hltA : w.heap.size < A.heap.size := block_lt hlA
      have hy := run_yield (P := P) (args := encs x) hl (by rw [hrec]; exact hps x)
      rw [hrec] at hy
      refine ⟨fn, _, assign, body, hy, roundIn_of_wpIn hfn (hassign _ x W _ (by omega) ?_)⟩
      intro a' W0 hk0 hax
      have hl0 := (hk0.block _ (block_lt hl) (by simp)).trans hl
      refine ⟨_, run_beginRound hl0 (by rw [hrec]), ?_⟩
      have hlt : w.heap.size < W0.heap.size := block_lt hl0
      have hl2 : (W0.putObj w.heap.size (.loop { rec .ready none with state := .busy })).heap[w.heap.size]? = some (.loop { rec .ready none with state := .busy }) := World.putObj_heap_same hlt
      have hw1 : Kept [w.heap.size] W0 (W0.putObj w.heap.size (.loop { rec .ready none with state := .busy })) := (Kept.refl _ W0).putObj _ (Or.inl (by simp))
      have hw2 : Kept [w.heap.size] W (W0.putObj w.heap.size (.loop { rec .ready none with state := .busy })) := (hk0.mono (T := [w.heap.size]) (fun i hi => by simp at hi)).trans hw1 (fun i hi => Or.inl hi)
      refine wpIn_mono (hbody _ Rs pre x a' A W _ hR (by omega) hiA hi hAW hgiv hw2 (hAx _ _ _ _ hax hw1) hpre) ?_
      have fin : ∀ (jump : Option Code) (S : List Nat) (W3 : World), Kept S (W0.putObj w.heap.size (.loop { rec .ready none with state := .busy })) W3 → w.heap.size ∉ S →
          (Instr.endRound w.heap.size jump).run P W3 = .ok (.bool jump.isNone) (W3.putObj w.heap.size (.loop (rec (if jump.isNone then .ready else .done) jump))) ∧
          (W3.putObj w.heap.size (.loop (rec (if jump.isNone then .ready else .done) jump))).heap[w.heap.size]? = some (.loop (rec (if jump.isNone then .ready else .done) jump)) ∧
          Kept [w.heap.size] W3 (W3.putObj w.heap.size (.loop (rec (if jump.isNone then .ready else .done) jump))) := fun jump S W3 hk3 d1 => by
        have hl3 := (hk3.block _ (block_lt hl2) d1).trans hl2
        have := run_endRound (P := P) jump hl3
        rw [hrec] at this ⊢
        exact ⟨this, World.putObj_heap_same (block_lt hl3), (Kept.refl _ W3).putObj _ (Or.inl (by simp))⟩
      rintro e a3 W3 hp
      cases e with
      | normal =>
        obtain ⟨⟨S, hk3, hS⟩, hi3⟩ := hp
        obtain ⟨hr, hl4, hw4⟩ := fin none S W3 hk3 (fun hm => (hS _ hm).2 rfl)
        refine ⟨_, _, hr, .inl ⟨rfl, ⟨hR, hI _ _ _ _ _ hi3 (hw4.mono (T := w.heap.size :: Rs) (fun i hi => Or.inl (by simp at hi; simp [hi]))) (fun i hi => Or.inl hi), hl4⟩, w.heap.size :: S, ?_, ?_⟩⟩
        · have e1 := (hw2.mono (T := w.heap.size :: S) (fun i hi => Or.inl (by simp at hi; simp [hi]))).trans hk3 (fun i hi => Or.inl (by simp [hi]))
          exact e1.trans hw4 (fun i hi => Or.inl (by simp at hi; simp [hi]))
        · intro i hi
          rcases List.mem_cons.1 hi with rfl | hi
          · exact ⟨n1, fun hm => by have := hK0 _ hm; omega⟩
          · exact (hS i hi).1
      | ret =>
        obtain ⟨⟨S, hk3, hS⟩, hi3⟩ := hp
        obtain ⟨hr, hl4, hw4⟩ := fin (some .ret) S W3 hk3 (fun hm => hS _ hm rfl)
        exact ⟨_, _, hr, .inr ⟨rfl, .ret, hIx _ _ _ _ hi3 hw4, hl4⟩⟩
      | exit id =>
        obtain ⟨⟨S, hk3, hS⟩, hi3⟩ := hp
        obtain ⟨hr, hl4, hw4⟩ := fin (some (.exit id)) S W3 hk3 (fun hm => hS _ hm rfl)
        exact ⟨_, _, hr, .inr ⟨rfl, .exit id, hIx _ _ _ _ hi3 hw4, hl4⟩⟩
      | goto t => exact hp.elim
      | panic ch => exact hp.elim
      | outgrown => exact hp.elim
    · rintro Rs W' hR hk
      have hR' : ∀ i ∈ Rs, w.heap.size + 1 ≤ i := fun i hi => by have := (hR i hi).1; omega
      have hks := hk.size
      exact ⟨hR', h0 Rs W' (fun i hi => ⟨hR' i hi, (hR i hi).2⟩) (hkw.trans hk (fun i hi => by simp at hi)) (by omega), (hk.block _ (block_lt hL1) (by simp)).trans hL1⟩
    · -- BEHIND THE ITERATOR
      rintro e W2 ⟨⟨v, rfl⟩, (⟨Rs, xs, hS, hR, hi, hl⟩ | ⟨Rs, pre, hC, c, hi, hl⟩)⟩
      · have hw5 : Kept [w.heap.size] W2 (W2.putObj w.heap.size (.loop { rec .ready none with state := .exhausted })) := (Kept.refl _ W2).putObj _ (Or.inl (by simp))
        have hi5 := hI _ _ _ _ _ hi (hw5.mono (T := w.heap.size :: Rs) (fun i hi => Or.inl (by simp at hi; simp [hi]))) (fun i hi => Or.inl hi)
        have he := run_endLoop (P := P) hl (by rw [hrec]; simp)
        subst hrec
        exact ⟨none, _, he, hdone Rs xs _ hi5 hS⟩
      · have hw5 : Kept [w.heap.size] W2 (W2.putObj w.heap.size (.loop { rec .done (some c) with state := .exhausted })) := (Kept.refl _ W2).putObj _ (Or.inl (by simp))
        have hi5 := hIx _ _ _ _ hi hw5
        have he := run_endLoop (P := P) hl (by rw [hrec]; simp)
        subst hrec
        exact ⟨some c, _, he, hstop c pre _ hi5 hC⟩

end Go.Proofs.Ytgdaiajjnfnomaa
