/- A range over a function whose iterator tells values that it makes on the way: the caller's law. No program's run. -/
import Derived.Test.YteeheapenfklcaaGreatDoorKept
import Derived.RangeFuncFrom
import Derived.OwnWalkIn
namespace Go.Proofs.YteeheapenfklcaaGreatDoor
set_option linter.unusedVariables false
open Go.RowKit

theorem Kept.putObj {S : List Nat} {a w : World} (h : Kept S a w) {l : Nat} (o : Obj) (hp : l ∈ S ∨ a.heap.size ≤ l) : Kept S a (w.putObj l o) :=
  h.grown (grownBy_putObj' w l o) (fun k e => by cases e; exact hp)

/-- An iterator that reads what lies below B0: it goes through 'all'; E says what it hands over. -/
def IterW {α : Type} (F : Fence) (n : Nat) (P : Program) (g : Nat) (lb : Array Value) (E : World → α → Array Value → Prop) (all : List α) (B0 : Nat) (w0 : World) : Prop :=
  ∀ (l : Nat) (J : List α → World → Prop) (W : World), Kept [] w0 W →
    (∀ s A B, J s A → Kept [] A B → J s B) →
    (∀ pre x args W1, J pre W1 → E W1 x args → pre ++ [x] <+: all → YieldAt F (n - 1) P l args W1 fun e W' => e = .returned (.bool true) ∧ J (pre ++ [x]) W' ∧ ∃ S, Kept S W1 W' ∧ ∀ i ∈ S, B0 ≤ i) →
    J [] W →
    CallsIn F n P g (#[.func (.yield l) #[] #[]] ++ lb) W fun e W' => (∃ v, e = .returned v) ∧ J all W'

/-- How the body of a round is left. -/
def wPost {α : Type} (I : List α → World → Prop) (B0 D : Nat) (xs : List α) (W : World) : Exit → Act → World → Prop
  | .normal, _, W' => (∃ S, Kept S W W' ∧ ∀ i ∈ S, B0 ≤ i ∧ i ≠ D ∧ i ≠ D + 1) ∧ I xs W'
  | _, _, _ => False
/-- No row lies there. -/
def noRow (w : World) (b : Nat) : Prop := ∀ cs t z, w.heap[b]? ≠ some (.cells cs t z)

variable {F : Fence} {n : Nat} {P : Program}

theorem wpIn_rangeFunc_w {α : Type} {g : Operand} {ps : Array Tmp} {assign body : Code} {Q : Exit → Act → World → Prop} {a : Act} {w : World}
    (hro : F.round = none) (h1 : 1 ≤ n) {gf : Nat} {lb : Array Value} (hg : a.eval g = .func (.func gf) #[] lb) (hFg : F.fn gf) (eg : ∀ args w, (callFunc gf args).run P w = .ok (.enter gf args) w)
    {E : World → α → Array Value → Prop} {all : List α} {B0 : Nat} {w0 : World} (hseq : IterW F (n - 1) P gf lb E all B0 w0) (hb0 : Kept [] w0 w) (hB0 : B0 ≤ w.heap.size) (hps : ∀ W x args, E W x args → args.size = ps.size)
    (I : List α → World → Prop) (hI : ∀ s A B, I s A → Kept [w.heap.size, w.heap.size + 1] A B → I s B)
    (h0 : ∀ W', Kept [] w W' → w.heap.size + 2 ≤ W'.heap.size → I [] W') (Ax : Nat → α → Act → World → Prop)
    (hAx : ∀ m x a' A B, Ax m x a' A → Kept [w.heap.size + 1] A B → w.heap.size + 2 ≤ m → Ax m x a' B)
    (hassign : ∀ (l : Nat) (x : α) (args : Array Value) (W : World) (K : Act → World → Prop), w.heap.size + 2 ≤ W.heap.size → noRow W (w.heap.size + 1) → E W x args → (∀ a' W', Kept [] W W' → Ax W.heap.size x a' W' → K a' W') →
      assign.wpIn (F.inRound l) (n - 1 - 1) P (Exit.then K (fun _ _ _ => False)) { tmps := (ps.zip args).foldl (fun t (p, v) => t.setIfInBounds p v) a.tmps, defers := [] } W)
    (hbody : ∀ (l : Nat) (pre : List α) (x : α) (a' : Act) (Wb W : World), w.heap.size + 2 ≤ Wb.heap.size → I pre W → Kept [w.heap.size + 1] Wb W → Ax Wb.heap.size x a' W → pre ++ [x] <+: all → noRow W w.heap.size → noRow W (w.heap.size + 1) → body.wpIn (F.inRound l) (n - 1 - 1) P (wPost I B0 w.heap.size (pre ++ [x]) W) a' W)
    (hdone : ∀ (W : World), I all W → W.heap[w.heap.size]? = some (.deferred (some [])) → Q .normal { a with defers := { target := .collected w.heap.size, args := #[] } :: a.defers } W) :
    (Code.rangeFunc g ps assign body).wpIn F n P Q a w := by
  refine wpIn_rangeFunc ?_
  intro fn hfn
  rw [hro]
  obtain ⟨rec, hrec⟩ : ∃ rec : LoopState → Option Code → Loop, rec = fun st pe => { state := st, pending := pe, fn, tmps := a.tmps, params := ps, assign, body, defers := w.heap.size } := ⟨_, rfl⟩
  obtain ⟨W1, hW1⟩ : ∃ W1, (w.alloc (.deferred (some []))).alloc (.loop (rec .ready none)) = W1 := ⟨_, rfl⟩
  have hL1 : W1.heap[w.heap.size + 1]? = some (.loop (rec .ready none)) := by
    rw [← hW1]; have := World.alloc_heap_new (w.alloc (.deferred (some []))) (.loop (rec .ready none)); rwa [World.size_alloc] at this
  have hK1 : W1.heap[w.heap.size]? = some (.deferred (some [])) := by
    rw [← hW1]; exact (Below.heap_alloc _ _ _ (by simp)).trans (World.alloc_heap_new w _)
  have hkw : Kept [] w W1 := by rw [← hW1]; exact ((Kept.refl [] w).alloc _).alloc _
  have hsz : W1.heap.size = w.heap.size + 2 := by rw [← hW1]; simp
  refine ⟨w.heap.size + 1, [{ target := .collected w.heap.size, args := #[] }], W1, { target := .fn (.func gf) lb, args := #[.func (.yield (w.heap.size + 1)) #[] #[]] }, W1, gf,
    #[.func (.yield (w.heap.size + 1)) #[] #[]] ++ lb, W1, ?_, ?_, ?_, ?_, fun _ => h1, ?_⟩
  · rw [← hW1, hrec]; exact run_enterLoop_outer _ _ _ _ _
  · simp only [resolve, hg]
    simp [go_sem]
  · intro f' hf'; simp [Target.leads] at hf'; subst hf'; exact hFg
  · simp [invoke, go_sem, eg]
  · refine (hseq (w.heap.size + 1)
      (fun pre W => I pre W ∧ W.heap[w.heap.size + 1]? = some (.loop (rec .ready none)) ∧ W.heap[w.heap.size]? = some (.deferred (some [])))
      W1 (hb0.trans hkw (fun i hi => by cases hi)) ?_ ?_ ?_).mono ?_
    · rintro s A B ⟨hi, hl, hk⟩ hkept
      exact ⟨hI _ _ _ hi (hkept.mono (fun i hi => by cases hi)), (hkept.block _ (block_lt hl) (by simp)).trans hl, (hkept.block _ (block_lt hk) (by simp)).trans hk⟩
    · -- ONE ROUND
      rintro pre x args W ⟨hi, hl, hk⟩ hE hpre
      have hlt0 : w.heap.size + 1 < W.heap.size := (Array.getElem?_eq_some_iff.1 hl).1
      have hy := run_yield (P := P) (args := args) hl (by rw [hrec]; exact hps W x args hE)
      rw [hrec] at hy
      refine ⟨fn, _, assign, body, hy, roundIn_of_wpIn hfn (hassign _ x args W _ (by omega) (fun cs t z h => by rw [hl] at h; cases h) hE ?_)⟩
      intro a' W0 hk0 hax
      have hi0 := hI _ _ _ hi (hk0.mono (fun i hi => by cases hi))
      have hl0 := (hk0.block _ (block_lt hl) (by simp)).trans hl
      have hk00 := (hk0.block _ (block_lt hk) (by simp)).trans hk
      refine ⟨_, run_beginRound hl0 (by rw [hrec]), ?_⟩
      have hlt : w.heap.size + 1 < W0.heap.size := (Array.getElem?_eq_some_iff.1 hl0).1
      have hl2 : (W0.putObj (w.heap.size + 1) (.loop { rec .ready none with state := .busy })).heap[w.heap.size + 1]? = some (.loop { rec .ready none with state := .busy }) := World.putObj_heap_same hlt
      have hk2 : (W0.putObj (w.heap.size + 1) (.loop { rec .ready none with state := .busy })).heap[w.heap.size]? = some (.deferred (some [])) := (World.putObj_heap_other (by omega)).trans hk00
      have hw1 : Kept [w.heap.size + 1] W0 (W0.putObj (w.heap.size + 1) (.loop { rec .ready none with state := .busy })) := (Kept.refl _ W0).putObj _ (Or.inl (by simp))
      have hw2 : Kept [w.heap.size + 1] W (W0.putObj (w.heap.size + 1) (.loop { rec .ready none with state := .busy })) := (hk0.mono (T := [w.heap.size + 1]) (fun i hi => by simp at hi)).trans hw1 (fun i hi => Or.inl hi)
      have hi2 := hI _ _ _ hi0 (hw1.mono (T := [w.heap.size, w.heap.size + 1]) (fun i hi => Or.inl (by simp at hi; simp [hi])))
      refine wpIn_mono (hbody _ pre x a' W _ (by omega) hi2 hw2 (hAx _ _ _ _ _ hax hw1 (by omega)) hpre (fun cs t z h => by rw [hk2] at h; cases h) (fun cs t z h => by rw [hl2] at h; cases h)) ?_
      rintro e a3 W3 hp
      cases e with
      | normal =>
        obtain ⟨⟨S, hk3, hS⟩, hi3⟩ := hp
        have d1 : w.heap.size + 1 ∉ S := fun hm => (hS _ hm).2.2 rfl
        have d2 : w.heap.size ∉ S := fun hm => (hS _ hm).2.1 rfl
        have hl3 := (hk3.block _ (block_lt hl2) d1).trans hl2
        have hk3' := (hk3.block _ (block_lt hk2) d2).trans hk2
        have hr := run_endRound (P := P) (none : Option Code) hl3
        have hl4 := World.putObj_heap_same (o := .loop (rec .ready none)) (Array.getElem?_eq_some_iff.1 hl3).1
        have hw4 : Kept [w.heap.size + 1] W3 (W3.putObj (w.heap.size + 1) (.loop (rec .ready none))) := (Kept.refl _ W3).putObj _ (Or.inl (by simp))
        have hi4 := hI _ _ _ hi3 (hw4.mono (T := [w.heap.size, w.heap.size + 1]) (fun i hi => Or.inl (by simp at hi; simp [hi])))
        subst hrec
        refine ⟨_, _, hr, rfl, ⟨hi4, hl4, (World.putObj_heap_other (by omega)).trans hk3'⟩, ?_⟩
        · refine ⟨(w.heap.size + 1) :: S, ?_, ?_⟩
          · have e1 := (hw2.mono (T := (w.heap.size + 1) :: S) (fun i hi => Or.inl (by simp at hi; simp [hi]))).trans hk3 (fun i hi => Or.inl (by simp [hi]))
            have e2 := e1.trans hw4 (fun i hi => Or.inl (by simp at hi; simp [hi]))
            exact e2
          · intro i hi
            rcases List.mem_cons.1 hi with rfl | hi
            · omega
            · exact (hS i hi).1
      | ret => exact hp.elim
      | exit id => exact hp.elim
      | goto t => exact hp.elim
      | panic ch => exact hp.elim
      | outgrown => exact hp.elim
    · exact ⟨h0 W1 hkw (by omega), hL1, hK1⟩
    · -- BEHIND THE ITERATOR
      rintro e W2 ⟨⟨v, rfl⟩, hi, hl, hk⟩
      have hw5 : Kept [w.heap.size + 1] W2 (W2.putObj (w.heap.size + 1) (.loop { rec .ready none with state := .exhausted })) := (Kept.refl _ W2).putObj _ (Or.inl (by simp))
      have hi5 := hI _ _ _ hi (hw5.mono (T := [w.heap.size, w.heap.size + 1]) (fun i hi => Or.inl (by simp at hi; simp [hi])))
      have he := run_endLoop (P := P) hl (by rw [hrec]; simp)
      subst hrec
      exact ⟨none, _, he, hdone _ hi5 ((World.putObj_heap_other (by omega)).trans hk)⟩
end Go.Proofs.YteeheapenfklcaaGreatDoor
