/- A range over a function whose iterator writes a box of its own that was there before (a captured variable): the caller's law. No program's run. -/
import Derived.Test.YtjdhgeikbkjnoaaDoorKept
import Derived.RangeFuncFrom
import Derived.OwnWalkIn
import Derived.Deep.AppendLies
namespace Go.Proofs.YtjdhgeikbkjnoaaDoor
set_option linter.unusedVariables false
open Go.RowKit
theorem Kept.putObj {S : List Nat} {a w : World} (h : Kept S a w) {l : Nat} (o : Obj) (hp : l ∈ S ∨ a.heap.size ≤ l) : Kept S a (w.putObj l o) :=
  h.grown (grownBy_putObj' w l o) (fun k e => by cases e; exact hp)


/-- An iterator that writes its own old blocks B0 and nothing else; C: what can have come so far, S: what has come in the end. -/
def IterBx {α : Type} (F : Fence) (n : Nat) (P : Program) (g : Nat) (lb : Array Value) (encs : α → Array Value) (C S : List α → Prop) (B0 : List Nat) (w0 : World) : Prop :=
  ∀ (l : Nat) (J Jx : List α → World → Prop) (W : World), Kept [] w0 W →
    (∀ s A B, J s A → Kept B0 A B → J s B) →
    (∀ pre x W1, J pre W1 → C (pre ++ [x]) → YieldAt F (n - 1) P l (encs x) W1 fun e W' =>
      (e = .returned (.bool true) ∧ J (pre ++ [x]) W' ∧ ∃ S, Kept S W1 W' ∧ ∀ i ∈ S, i ∉ B0) ∨ (e = .returned (.bool false) ∧ Jx (pre ++ [x]) W')) →
    J [] W →
    CallsIn F n P g (#[.func (.yield l) #[] #[]] ++ lb) W fun e W' => (∃ v, e = .returned v) ∧ ((∃ xs, S xs ∧ J xs W') ∨ ∃ pre, C pre ∧ Jx pre W')

/-- How the body of a round is left. -/
def bxPost {α : Type} (I : List α → World → Prop) (Ix : Code → List α → World → Prop) (B0 : List Nat) (D : Nat) (xs : List α) (W : World) : Exit → Act → World → Prop
  | .normal, _, W' => (∃ S, Kept S W W' ∧ ∀ i ∈ S, i ∉ B0 ∧ i ≠ D ∧ i ≠ D + 1) ∧ I xs W'
  | .exit id, _, W' => (∃ S, Kept S W W' ∧ ∀ i ∈ S, i ≠ D ∧ i ≠ D + 1) ∧ Ix (.exit id) xs W'
  | .ret, _, W' => (∃ S, Kept S W W' ∧ ∀ i ∈ S, i ≠ D ∧ i ≠ D + 1) ∧ Ix .ret xs W'
  | _, _, _ => False

variable {F : Fence} {n : Nat} {P : Program}

theorem wpIn_rangeFunc_boxed {α : Type} {g : Operand} {ps : Array Tmp} {assign body : Code} {Q : Exit → Act → World → Prop} {a : Act} {w : World}
    (hro : F.round = none) (h1 : 1 ≤ n) {gf : Nat} {lb : Array Value} (hg : a.eval g = .func (.func gf) #[] lb) (hFg : F.fn gf) (eg : ∀ args w, (callFunc gf args).run P w = .ok (.enter gf args) w)
    {encs : α → Array Value} {C S : List α → Prop} {B0 : List Nat} {w0 : World} (hseq : IterBx F (n - 1) P gf lb encs C S B0 w0) (hb0 : Kept [] w0 w) (hB0 : ∀ i ∈ B0, i < w.heap.size) (hps : ∀ x, (encs x).size = ps.size)
    (I : List α → World → Prop) (Ix : Code → List α → World → Prop) (hI : ∀ s A B, I s A → Kept (w.heap.size :: (w.heap.size + 1) :: B0) A B → I s B)
    (hIx : ∀ c s A B, Ix c s A → Kept [w.heap.size + 1] A B → Ix c s B)
    (h0 : ∀ W', Kept [] w W' → w.heap.size + 2 ≤ W'.heap.size → I [] W') (Ax : α → Act → World → Prop)
    (hAx : ∀ x a' A B, Ax x a' A → Kept [w.heap.size + 1] A B → Ax x a' B)
    (hassign : ∀ (l : Nat) (x : α) (W : World) (K : Act → World → Prop), w.heap.size + 2 ≤ W.heap.size → (∀ a' W', Kept [] W W' → Ax x a' W' → K a' W') →
      assign.wpIn (F.inRound l) (n - 1 - 1) P (Exit.then K (fun _ _ _ => False)) { tmps := (ps.zip (encs x)).foldl (fun t (p, v) => t.setIfInBounds p v) a.tmps, defers := [] } W)
    (hbody : ∀ (l : Nat) (pre : List α) (x : α) (a' : Act) (Wb W : World), w.heap.size + 2 ≤ Wb.heap.size → I pre Wb → Kept [w.heap.size + 1] Wb W → Ax x a' W → C (pre ++ [x]) →
      body.wpIn (F.inRound l) (n - 1 - 1) P (bxPost I Ix B0 w.heap.size (pre ++ [x]) W) a' W)
    (hdone : ∀ (xs : List α) (W : World), I xs W → S xs → W.heap[w.heap.size]? = some (.deferred (some [])) → Q .normal { a with defers := { target := .collected w.heap.size, args := #[] } :: a.defers } W)
    (hstop : ∀ (c : Code) (pre : List α) (W : World), Ix c pre W → C pre → W.heap[w.heap.size]? = some (.deferred (some [])) → c.wpIn F n P Q { a with defers := { target := .collected w.heap.size, args := #[] } :: a.defers } W) :
    (Code.rangeFunc g ps assign body).wpIn F n P Q a w := by
  refine wpIn_rangeFunc ?_
  intro fn hfn
  rw [hro]
  obtain ⟨rec, hrec⟩ : ∃ rec : LoopState → Option Code → Loop, rec = fun st pe => { state := st, pending := pe, fn, tmps := a.tmps, params := ps, assign, body, defers := w.heap.size } := ⟨_, rfl⟩
  obtain ⟨W1, hW1⟩ : ∃ W1, (w.alloc (.deferred (some []))).alloc (.loop (rec .ready none)) = W1 := ⟨_, rfl⟩
  have hL1 : W1.heap[w.heap.size + 1]? = some (.loop (rec .ready none)) := by
    rw [← hW1]; have := World.alloc_heap_new (w.alloc (.deferred (some []))) (.loop (rec .ready none)); rwa [World.size_alloc] at this
  have hK1 : W1.heap[w.heap.size]? = some (.deferred (some [])) := by
    rw [← hW1]; exact (Below.heap_alloc _ _ _ (by simp)).trans (World.alloc_heap_new w _)
  have hkw : Kept [] w W1 := by rw [← hW1]; exact ((Kept.refl [] w).alloc _).alloc _
  have hsz : W1.heap.size = w.heap.size + 2 := by rw [← hW1]; simp
  refine ⟨w.heap.size + 1, [{ target := .collected w.heap.size, args := #[] }], W1, { target := .fn (.func gf) lb, args := #[.func (.yield (w.heap.size + 1)) #[] #[]] }, W1, gf,
    #[.func (.yield (w.heap.size + 1)) #[] #[]] ++ lb, W1, ?_, ?_, ?_, ?_, fun _ => h1, ?_⟩
  · rw [← hW1, hrec]; exact run_enterLoop_outer _ _ _ _ _
  · simp only [resolve, hg]
    simp [go_sem]
  · intro f' hf'; simp [Target.leads] at hf'; subst hf'; exact hFg
  · simp [invoke, go_sem, eg]
  · have n1 : w.heap.size + 1 ∉ B0 := fun hm => by have := hB0 _ hm; omega
    have n2 : w.heap.size ∉ B0 := fun hm => by have := hB0 _ hm; omega
    refine (hseq (w.heap.size + 1)
      (fun pre W => I pre W ∧ W.heap[w.heap.size + 1]? = some (.loop (rec .ready none)) ∧ W.heap[w.heap.size]? = some (.deferred (some [])))
      (fun pre W => ∃ c, Ix c pre W ∧ W.heap[w.heap.size + 1]? = some (.loop (rec .done (some c))) ∧ W.heap[w.heap.size]? = some (.deferred (some [])))
      W1 (hb0.trans hkw (fun i hi => by simp at hi)) ?_ ?_ ?_).mono ?_
    · rintro s A B ⟨hi, hl, hk⟩ hkept
      exact ⟨hI _ _ _ hi (hkept.mono (fun i hi => Or.inl (by simp [hi]))), (hkept.block _ (block_lt hl) n1).trans hl, (hkept.block _ (block_lt hk) n2).trans hk⟩
    · -- ONE ROUND
      rintro pre x W ⟨hi, hl, hk⟩ hpre
      have hlt0 : w.heap.size + 1 < W.heap.size := block_lt hl
      have hy := run_yield (P := P) (args := encs x) hl (by rw [hrec]; exact hps x)
      rw [hrec] at hy
      refine ⟨fn, _, assign, body, hy, roundIn_of_wpIn hfn (hassign _ x W _ (by omega) ?_)⟩
      intro a' W0 hk0 hax
      have hl0 := (hk0.block _ (block_lt hl) (by simp)).trans hl
      have hk00 := (hk0.block _ (block_lt hk) (by simp)).trans hk
      refine ⟨_, run_beginRound hl0 (by rw [hrec]), ?_⟩
      have hlt : w.heap.size + 1 < W0.heap.size := block_lt hl0
      have hl2 : (W0.putObj (w.heap.size + 1) (.loop { rec .ready none with state := .busy })).heap[w.heap.size + 1]? = some (.loop { rec .ready none with state := .busy }) := World.putObj_heap_same hlt
      have hk2 : (W0.putObj (w.heap.size + 1) (.loop { rec .ready none with state := .busy })).heap[w.heap.size]? = some (.deferred (some [])) := (World.putObj_heap_other (by omega)).trans hk00
      have hw1 : Kept [w.heap.size + 1] W0 (W0.putObj (w.heap.size + 1) (.loop { rec .ready none with state := .busy })) := (Kept.refl _ W0).putObj _ (Or.inl (by simp))
      have hw2 : Kept [w.heap.size + 1] W (W0.putObj (w.heap.size + 1) (.loop { rec .ready none with state := .busy })) := (hk0.mono (T := [w.heap.size + 1]) (fun i hi => by simp at hi)).trans hw1 (fun i hi => Or.inl hi)
      refine wpIn_mono (hbody _ pre x a' W _ (by omega) hi hw2 (hAx _ _ _ _ hax hw1) hpre) ?_
      have fin : ∀ (jump : Option Code) (S : List Nat) (W3 : World), Kept S (W0.putObj (w.heap.size + 1) (.loop { rec .ready none with state := .busy })) W3 → w.heap.size + 1 ∉ S → w.heap.size ∉ S →
          (Instr.endRound (w.heap.size + 1) jump).run P W3 = .ok (.bool jump.isNone) (W3.putObj (w.heap.size + 1) (.loop (rec (if jump.isNone then .ready else .done) jump))) ∧
          (W3.putObj (w.heap.size + 1) (.loop (rec (if jump.isNone then .ready else .done) jump))).heap[w.heap.size + 1]? = some (.loop (rec (if jump.isNone then .ready else .done) jump)) ∧
          (W3.putObj (w.heap.size + 1) (.loop (rec (if jump.isNone then .ready else .done) jump))).heap[w.heap.size]? = some (.deferred (some [])) ∧
          Kept [w.heap.size + 1] W3 (W3.putObj (w.heap.size + 1) (.loop (rec (if jump.isNone then .ready else .done) jump))) := fun jump S W3 hk3 d1 d2 => by
        have hl3 := (hk3.block _ (block_lt hl2) d1).trans hl2
        have := run_endRound (P := P) jump hl3
        rw [hrec] at this ⊢
        exact ⟨this, World.putObj_heap_same (block_lt hl3), (World.putObj_heap_other (by omega)).trans ((hk3.block _ (block_lt hk2) d2).trans hk2), (Kept.refl _ W3).putObj _ (Or.inl (by simp))⟩
      rintro e a3 W3 hp
      cases e with
      | normal =>
        obtain ⟨⟨S, hk3, hS⟩, hi3⟩ := hp
        obtain ⟨hr, hl4, hk4, hw4⟩ := fin none S W3 hk3 (fun hm => (hS _ hm).2.2 rfl) (fun hm => (hS _ hm).2.1 rfl)
        refine ⟨_, _, hr, .inl ⟨rfl, ⟨hI _ _ _ hi3 (hw4.mono (T := w.heap.size :: (w.heap.size + 1) :: B0) (fun i hi => Or.inl (by simp at hi; simp [hi]))), hl4, hk4⟩, (w.heap.size + 1) :: S, ?_, ?_⟩⟩
        · have e1 := (hw2.mono (T := (w.heap.size + 1) :: S) (fun i hi => Or.inl (by simp at hi; simp [hi]))).trans hk3 (fun i hi => Or.inl (by simp [hi]))
          exact e1.trans hw4 (fun i hi => Or.inl (by simp at hi; simp [hi]))
        · intro i hi
          rcases List.mem_cons.1 hi with rfl | hi
          · exact n1
          · exact (hS i hi).1
      | ret =>
        obtain ⟨⟨S, hk3, hS⟩, hi3⟩ := hp
        obtain ⟨hr, hl4, hk4, hw4⟩ := fin (some .ret) S W3 hk3 (fun hm => (hS _ hm).2 rfl) (fun hm => (hS _ hm).1 rfl)
        exact ⟨_, _, hr, .inr ⟨rfl, .ret, hIx _ _ _ _ hi3 hw4, hl4, hk4⟩⟩
      | exit id =>
        obtain ⟨⟨S, hk3, hS⟩, hi3⟩ := hp
        obtain ⟨hr, hl4, hk4, hw4⟩ := fin (some (.exit id)) S W3 hk3 (fun hm => (hS _ hm).2 rfl) (fun hm => (hS _ hm).1 rfl)
        exact ⟨_, _, hr, .inr ⟨rfl, .exit id, hIx _ _ _ _ hi3 hw4, hl4, hk4⟩⟩
      | goto t => exact hp.elim
      | panic ch => exact hp.elim
      | outgrown => exact hp.elim
    · exact ⟨h0 W1 hkw (by omega), hL1, hK1⟩
    · -- BEHIND THE ITERATOR
      rintro e W2 ⟨⟨v, rfl⟩, (⟨xs, hS, hi, hl, hk⟩ | ⟨pre, hC, c, hi, hl, hk⟩)⟩
      · have hw5 : Kept [w.heap.size + 1] W2 (W2.putObj (w.heap.size + 1) (.loop { rec .ready none with state := .exhausted })) := (Kept.refl _ W2).putObj _ (Or.inl (by simp))
        have hi5 := hI _ _ _ hi (hw5.mono (T := w.heap.size :: (w.heap.size + 1) :: B0) (fun i hi => Or.inl (by simp at hi; simp [hi])))
        have he := run_endLoop (P := P) hl (by rw [hrec]; simp)
        subst hrec
        exact ⟨none, _, he, hdone xs _ hi5 hS ((World.putObj_heap_other (by omega)).trans hk)⟩
      · have hw5 : Kept [w.heap.size + 1] W2 (W2.putObj (w.heap.size + 1) (.loop { rec .done (some c) with state := .exhausted })) := (Kept.refl _ W2).putObj _ (Or.inl (by simp))
        have hi5 := hIx _ _ _ _ hi hw5
        have he := run_endLoop (P := P) hl (by rw [hrec]; simp)
        subst hrec
        exact ⟨some c, _, he, hstop c pre _ hi5 hC ((World.putObj_heap_other (by omega)).trans hk)⟩

/-- The same, for one loop variable that lies in a slot. -/
theorem wpIn_rangeFunc_boxed1 {β : Type} {vl : β → Value} {g : Operand} {pt sl : Nat} {assign body : Code} {Q : Exit → Act → World → Prop} {a : Act} {w : World}
    (hro : F.round = none) (h1 : 1 ≤ n) {gf : Nat} {lb : Array Value} (hg : a.eval g = .func (.func gf) #[] lb) (hFg : F.fn gf) (eg : ∀ args w, (callFunc gf args).run P w = .ok (.enter gf args) w)
    {C S : List β → Prop} {B0 : List Nat} {w0 : World} (hseq : IterBx F (n - 1) P gf lb (fun x => #[vl x]) C S B0 w0) (hb0 : Kept [] w0 w) (hB0 : ∀ i ∈ B0, i < w.heap.size)
    (I : List β → World → Prop) (Ix : Code → List β → World → Prop) (hI : ∀ s A B, I s A → Kept (w.heap.size :: (w.heap.size + 1) :: B0) A B → I s B)
    (hIx : ∀ c s A B, Ix c s A → Kept [w.heap.size + 1] A B → Ix c s B)
    (h0 : ∀ W', Kept [] w W' → w.heap.size + 2 ≤ W'.heap.size → I [] W')
    (hassign : ∀ (l : Nat) (x : β) (W : World) (K : Act → World → Prop), K { tmps := (a.tmps.setIfInBounds pt (vl x)).setIfInBounds sl (vl x), defers := [] } W →
      assign.wpIn (F.inRound l) (n - 1 - 1) P (Exit.then K (fun _ _ _ => False)) { tmps := a.tmps.setIfInBounds pt (vl x), defers := [] } W)
    (hbody : ∀ (l : Nat) (pre : List β) (x : β) (Wb W : World), w.heap.size + 2 ≤ Wb.heap.size → I pre Wb → Kept [w.heap.size + 1] Wb W → C (pre ++ [x]) →
      body.wpIn (F.inRound l) (n - 1 - 1) P (bxPost I Ix B0 w.heap.size (pre ++ [x]) W) { tmps := (a.tmps.setIfInBounds pt (vl x)).setIfInBounds sl (vl x), defers := [] } W)
    (hdone : ∀ (xs : List β) (W : World), I xs W → S xs → W.heap[w.heap.size]? = some (.deferred (some [])) → Q .normal { a with defers := { target := .collected w.heap.size, args := #[] } :: a.defers } W)
    (hstop : ∀ (c : Code) (pre : List β) (W : World), Ix c pre W → C pre → W.heap[w.heap.size]? = some (.deferred (some [])) → c.wpIn F n P Q { a with defers := { target := .collected w.heap.size, args := #[] } :: a.defers } W) :
    (Code.rangeFunc g #[pt] assign body).wpIn F n P Q a w := by
  refine wpIn_rangeFunc_boxed hro h1 hg hFg eg hseq hb0 hB0 (fun _ => rfl) I Ix hI hIx h0 (fun x a' _ => a' = { tmps := (a.tmps.setIfInBounds pt (vl x)).setIfInBounds sl (vl x), defers := [] }) (fun _ _ _ _ h _ => h) ?_ ?_ hdone hstop
  · intro l x W K _ hK
    have e : ((#[pt].zip #[vl x]).foldl (fun t (p, v) => t.setIfInBounds p v) a.tmps) = a.tmps.setIfInBounds pt (vl x) := by simp
    rw [e]
    exact hassign l x W K (hK _ _ (Kept.refl _ _) rfl)
  · rintro l pre x a' Wb W h1 h2 h3 rfl h4
    exact hbody l pre x Wb W h1 h2 h3 h4
end Go.Proofs.YtjdhgeikbkjnoaaDoor
