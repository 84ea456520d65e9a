/- A range over a function whose iterator keeps blocks of its own (a reader that goes on between two rounds): the caller's law. No program's run. -/
import Derived.Test.YteebiemfhicgbaaKept
import Derived.RangeFuncFrom
import Derived.OwnWalkIn
import Derived.Deep.AppendLies
namespace Go.Proofs.Yteebiemfhicgbaa
set_option linter.unusedVariables false
open Go.RowKit

theorem Kept.putObj {S : List Nat} {a w : World} (h : Kept S a w) {l : Nat} (o : Obj) (hp : l ∈ S ∨ a.heap.size ≤ l) : Kept S a (w.putObj l o) :=
  h.grown (grownBy_putObj' w l o) (fun k e => by cases e; exact hp)

/-- An iterator with blocks of its own (Rs, new ones): it goes through 'all', and each round leaves those blocks alone. -/
def IterAt {α : Type} (F : Fence) (n : Nat) (P : Program) (g : Nat) (lb : Array Value) (encs : α → Array Value) (all : List α) (w0 : World) : Prop :=
  ∀ (l : Nat) (J : List Nat → List α → World → Prop) (W : World), Kept [] w0 W →
    (∀ Rs s A B, J Rs s A → Kept Rs A B → J Rs s B) →
    (∀ Rs pre x W1, J Rs pre W1 → pre ++ [x] <+: all → YieldAt F (n - 1) P l (encs x) W1 fun e W' => e = .returned (.bool true) ∧ J Rs (pre ++ [x]) W' ∧ ∃ S, Kept S W1 W' ∧ ∀ i ∈ S, i ∉ Rs) →
    (∀ Rs W', (∀ i ∈ Rs, W.heap.size ≤ i ∧ i < W'.heap.size) → Kept [] W W' → J Rs [] W') →
    CallsIn F n P g (#[.func (.yield l) #[] #[]] ++ lb) W fun e W' => (∃ v, e = .returned v) ∧ ∃ Rs, J Rs all W'

/-- How the body of a round is left: it goes on, and what it turned are blocks of the caller's. -/
def rgPost {α : Type} (I : List Nat → List α → World → Prop) (Rs : List Nat) (D : Nat) (xs : List α) (W : World) : Exit → Act → World → Prop
  | .normal, _, W' => (∃ S, Kept S W W' ∧ ∀ i ∈ S, i ∉ Rs ∧ i ≠ D ∧ i ≠ D + 1) ∧ I Rs xs W'
  | _, _, _ => False

variable {F : Fence} {n : Nat} {P : Program}

theorem wpIn_rangeFunc_kept {α : Type} {g : Operand} {ps : Array Tmp} {assign body : Code} {Q : Exit → Act → World → Prop} {a : Act} {w : World}
    (hro : F.round = none) (h1 : 1 ≤ n) {gf : Nat} {lb : Array Value} (hg : a.eval g = .func (.func gf) #[] lb) (hFg : F.fn gf) (eg : ∀ args w, (callFunc gf args).run P w = .ok (.enter gf args) w)
    {encs : α → Array Value} {all : List α} {w0 : World} (hseq : IterAt F (n - 1) P gf lb encs all w0) (hb0 : Kept [] w0 w) (hps : ∀ x, (encs x).size = ps.size)
    (I : List Nat → List α → World → Prop) (hI : ∀ Rs s A B, I Rs s A → Kept (w.heap.size :: (w.heap.size + 1) :: Rs) A B → I Rs s B)
    (h0 : ∀ Rs W', (∀ i ∈ Rs, w.heap.size + 2 ≤ i ∧ i < W'.heap.size) → Kept [] w W' → I Rs [] W') (Ax : Nat → α → Act → World → Prop)
    (hAx : ∀ m x a' A B, Ax m x a' A → Kept [w.heap.size + 1] A B → Ax m x a' B)
    (hassign : ∀ (l : Nat) (x : α) (W : World) (K : Act → World → Prop), w.heap.size + 2 ≤ W.heap.size → (∀ a' W', Kept [] W W' → Ax W.heap.size x a' W' → K a' W') →
      assign.wpIn (F.inRound l) (n - 1 - 1) P (Exit.then K (fun _ _ _ => False)) { tmps := (ps.zip (encs x)).foldl (fun t (p, v) => t.setIfInBounds p v) a.tmps, defers := [] } W)
    (hbody : ∀ (l : Nat) (Rs : List Nat) (pre : List α) (x : α) (a' : Act) (Wb W : World), (∀ i ∈ Rs, w.heap.size + 2 ≤ i) → w.heap.size + 2 ≤ Wb.heap.size → I Rs pre Wb → Kept [w.heap.size + 1] Wb W → Ax Wb.heap.size x a' W → pre ++ [x] <+: all → body.wpIn (F.inRound l) (n - 1 - 1) P (rgPost I Rs w.heap.size (pre ++ [x]) W) a' W)
    (hdone : ∀ (Rs : List Nat) (W : World), I Rs all W → W.heap[w.heap.size]? = some (.deferred (some [])) → Q .normal { a with defers := { target := .collected w.heap.size, args := #[] } :: a.defers } W) :
    (Code.rangeFunc g ps assign body).wpIn F n P Q a w := by
  refine wpIn_rangeFunc ?_
  intro fn hfn
  rw [hro]
  obtain ⟨rec, hrec⟩ : ∃ rec : LoopState → Option Code → Loop, rec = fun st pe => { state := st, pending := pe, fn, tmps := a.tmps, params := ps, assign, body, defers := w.heap.size } := ⟨_, rfl⟩
  obtain ⟨W1, hW1⟩ : ∃ W1, (w.alloc (.deferred (some []))).alloc (.loop (rec .ready none)) = W1 := ⟨_, rfl⟩
  have hL1 : W1.heap[w.heap.size + 1]? = some (.loop (rec .ready none)) := by
    rw [← hW1]; have := World.alloc_heap_new (w.alloc (.deferred (some []))) (.loop (rec .ready none)); rwa [World.size_alloc] at this
  have hK1 : W1.heap[w.heap.size]? = some (.deferred (some [])) := by
    rw [← hW1]; exact (Below.heap_alloc _ _ _ (by simp)).trans (World.alloc_heap_new w _)
  have hkw : Kept [] w W1 := by rw [← hW1]; exact ((Kept.refl [] w).alloc _).alloc _
  have hsz : W1.heap.size = w.heap.size + 2 := by rw [← hW1]; simp
  refine ⟨w.heap.size + 1, [{ target := .collected w.heap.size, args := #[] }], W1, { target := .fn (.func gf) lb, args := #[.func (.yield (w.heap.size + 1)) #[] #[]] }, W1, gf,
    #[.func (.yield (w.heap.size + 1)) #[] #[]] ++ lb, W1, ?_, ?_, ?_, ?_, fun _ => h1, ?_⟩
  · rw [← hW1, hrec]; exact run_enterLoop_outer _ _ _ _ _
  · simp only [resolve, hg]
    simp [go_sem]
  · intro f' hf'; simp [Target.leads] at hf'; subst hf'; exact hFg
  · simp [invoke, go_sem, eg]
  · refine (hseq (w.heap.size + 1)
      (fun Rs pre W => (∀ i ∈ Rs, w.heap.size + 2 ≤ i) ∧ I Rs pre W ∧ W.heap[w.heap.size + 1]? = some (.loop (rec .ready none)) ∧ W.heap[w.heap.size]? = some (.deferred (some [])))
      W1 (hb0.trans hkw (fun i hi => by simp at hi)) ?_ ?_ ?_).mono ?_
    · rintro Rs s A B ⟨hR, hi, hl, hk⟩ hkept
      have n1 : w.heap.size + 1 ∉ Rs := fun hm => by have := hR _ hm; omega
      have n2 : w.heap.size ∉ Rs := fun hm => by have := hR _ hm; omega
      exact ⟨hR, hI _ _ _ _ hi (hkept.mono (fun i hi => Or.inl (by simp [hi]))), (hkept.block _ (block_lt hl) n1).trans hl, (hkept.block _ (block_lt hk) n2).trans hk⟩
    · -- ONE ROUND
      rintro Rs pre x W ⟨hR, hi, hl, hk⟩ hpre
      have n1 : w.heap.size + 1 ∉ Rs := fun hm => by have := hR _ hm; omega
      have n2 : w.heap.size ∉ Rs := fun hm => by have := hR _ hm; omega
      have hlt0 : w.heap.size + 1 < W.heap.size := (Array.getElem?_eq_some_iff.1 hl).1
      have hy := run_yield (P := P) (args := encs x) hl (by rw [hrec]; exact hps x)
      rw [hrec] at hy
      refine ⟨fn, _, assign, body, hy, roundIn_of_wpIn hfn (hassign _ x W _ (by omega) ?_)⟩
      intro a' W0 hk0 hax
      have hi0 := hI _ _ _ _ hi (hk0.mono (fun i hi => by simp at hi))
      have hl0 := (hk0.block _ (block_lt hl) (by simp)).trans hl
      have hk00 := (hk0.block _ (block_lt hk) (by simp)).trans hk
      refine ⟨_, run_beginRound hl0 (by rw [hrec]), ?_⟩
      have hlt : w.heap.size + 1 < W0.heap.size := (Array.getElem?_eq_some_iff.1 hl0).1
      have hl2 : (W0.putObj (w.heap.size + 1) (.loop { rec .ready none with state := .busy })).heap[w.heap.size + 1]? = some (.loop { rec .ready none with state := .busy }) := World.putObj_heap_same hlt
      have hk2 : (W0.putObj (w.heap.size + 1) (.loop { rec .ready none with state := .busy })).heap[w.heap.size]? = some (.deferred (some [])) := (World.putObj_heap_other (by omega)).trans hk00
      have hw1 : Kept [w.heap.size + 1] W0 (W0.putObj (w.heap.size + 1) (.loop { rec .ready none with state := .busy })) := (Kept.refl _ W0).putObj _ (Or.inl (by simp))
      have hw2 : Kept [w.heap.size + 1] W (W0.putObj (w.heap.size + 1) (.loop { rec .ready none with state := .busy })) := (hk0.mono (T := [w.heap.size + 1]) (fun i hi => by simp at hi)).trans hw1 (fun i hi => Or.inl hi)
      refine wpIn_mono (hbody _ Rs pre x a' W _ hR (by omega) hi hw2 (hAx _ _ _ _ _ hax hw1) hpre) ?_
      rintro e a3 W3 hp
      cases e with
      | normal =>
        obtain ⟨⟨S, hk3, hS⟩, hi3⟩ := hp
        have d1 : w.heap.size + 1 ∉ S := fun hm => (hS _ hm).2.2 rfl
        have d2 : w.heap.size ∉ S := fun hm => (hS _ hm).2.1 rfl
        have hl3 := (hk3.block _ (block_lt hl2) d1).trans hl2
        have hk3' := (hk3.block _ (block_lt hk2) d2).trans hk2
        have hr := run_endRound (P := P) (none : Option Code) hl3
        have hl4 := World.putObj_heap_same (o := .loop (rec .ready none)) (Array.getElem?_eq_some_iff.1 hl3).1
        have hw4 : Kept [w.heap.size + 1] W3 (W3.putObj (w.heap.size + 1) (.loop (rec .ready none))) := (Kept.refl _ W3).putObj _ (Or.inl (by simp))
        have hi4 := hI _ _ _ _ hi3 (hw4.mono (T := w.heap.size :: (w.heap.size + 1) :: Rs) (fun i hi => Or.inl (by simp at hi; simp [hi])))
        subst hrec
        refine ⟨_, _, hr, rfl, ⟨hR, hi4, hl4, (World.putObj_heap_other (by omega)).trans hk3'⟩, ?_⟩
        · refine ⟨(w.heap.size + 1) :: S, ?_, ?_⟩
          · have e1 := (hw2.mono (T := (w.heap.size + 1) :: S) (fun i hi => Or.inl (by simp at hi; simp [hi]))).trans hk3 (fun i hi => Or.inl (by simp [hi]))
            have e2 := e1.trans hw4 (fun i hi => Or.inl (by simp at hi; simp [hi]))
            exact e2
          · intro i hi
            rcases List.mem_cons.1 hi with rfl | hi
            · exact n1
            · exact (hS i hi).1
      | ret => exact hp.elim
      | exit id => exact hp.elim
      | goto t => exact hp.elim
      | panic ch => exact hp.elim
      | outgrown => exact hp.elim
    · rintro Rs W' hR hk
      have hR' : ∀ i ∈ Rs, w.heap.size + 2 ≤ i := fun i hi => by have := (hR i hi).1; omega
      refine ⟨hR', h0 Rs W' (fun i hi => ⟨hR' i hi, (hR i hi).2⟩) (hkw.trans hk (fun i hi => by simp at hi)), (hk.block _ (block_lt hL1) (by simp)).trans hL1, (hk.block _ (block_lt hK1) (by simp)).trans hK1⟩
    · -- BEHIND THE ITERATOR
      rintro e W2 ⟨⟨v, rfl⟩, Rs, hR, hi, hl, hk⟩
      have hw5 : Kept [w.heap.size + 1] W2 (W2.putObj (w.heap.size + 1) (.loop { rec .ready none with state := .exhausted })) := (Kept.refl _ W2).putObj _ (Or.inl (by simp))
      have hi5 := hI _ _ _ _ hi (hw5.mono (T := w.heap.size :: (w.heap.size + 1) :: Rs) (fun i hi => Or.inl (by simp at hi; simp [hi])))
      have he := run_endLoop (P := P) hl (by rw [hrec]; simp)
      subst hrec
      exact ⟨none, _, he, hdone Rs _ hi5 ((World.putObj_heap_other (by omega)).trans hk)⟩

/-- append in a round: what comes out, and where it lies. -/
theorem wpListIn_append_lies (w : World) {ops : Array Oper} {rest : List Oper} {o : Oper} {a : Act} {Q : Exit → Act → World → Prop}
    (hg : o.guard = none) (s x : Operand) (t : TypeId) (hop : o.op = Op.call { callee := Callee.builtin Builtin.append, args := #[s, x], argTypes := #[t, t] })
    (base : Nat) (e : TypeId) (i : TypeInfo) (z : Value) (size bytes : Nat) (h1 : P.underlying t = some (.slice e)) (h2 : P.info? e = some i) (h3 : i.zero = some z) (h4 : i.size = size) (h5 : i.bytes = bytes) (h6 : z.cells.size = size) (h7 : 0 < size)
    (v : Value) (k : Nat) (xs : List Value) (hs : a.eval s = v) (hown : w.ownsRow base e size v k xs) (ad : Addr) (m c : Nat) (news : List Value) (hx : a.eval x = .slice (some ad) m c) (hn : news.length = m * size)
    (hc : ∀ j u, news[j]? = some u → w.cell? (ad.add j) = some u) (h1c : ∀ u ∈ news, u.oneCell' = true) (hm : 0 < m) (b1 : k + m ≤ maxLen) (b2 : (k + m) * bytes ≤ 140737488355328) (b3 : base ≤ w.heap.size)
    (hK : ∀ g cap w', w'.ownsRow base e size (.slice (some ⟨g, 0, none⟩) (k + m) cap) (k + m) (xs ++ news) → w.grownBy w' v.ownBlock → (v.ownBlock = some g ∨ g = w.heap.size) → g < w'.heap.size → wpListIn F n P ops Q rest (a.put o.dst (.slice (some ⟨g, 0, none⟩) (k + m) cap)) w') :
    wpListIn F n P ops Q (o :: rest) a w := by
  refine wpListIn_plain hg fun K hK' => ?_
  obtain ⟨g, cap, w', hrun, r1, r2, r3, r4⟩ := run_append_lies (P := P) (w := w) t o.type base e i z size bytes h1 h2 h3 h4 h5 h6 h7 v k xs hown ad m c news hn hc h1c hm b1 b2 b3 _ rfl
  unfold Oper.wpIn
  refine ⟨?_, ?_⟩
  · simp [Oper.about, hop, resolve, Target.leads, Sem.run_pure]
  · rw [Oper.semAt_plain F _ _ (by rw [hop]; intro c hc'; cases hc')]
    simp [execOp, hop, resolve, invoke, builtin, hs, hx, hrun, Result.andThen]
    exact hK' _ _ (hK g cap w' r1 r2 r3 r4)
theorem ownsRow_kept {w w' : World} {S : List Nat} {base : Nat} {e : TypeId} {size : Nat} {v : Value} {n : Nat} {xs : List Value} (h : w.ownsRow base e size v n xs) (hk : Kept S w w') (hd : ∀ k, v.ownBlock = some k → k ∉ S) : w'.ownsRow base e size v n xs := by
  refine ⟨h.1, ?_⟩
  rcases h.2 with h2 | ⟨g, cap, cur, rfl, a1, a2, a3, a4, a5, a6⟩
  · exact Or.inl h2
  · exact Or.inr ⟨g, cap, cur, rfl, a1, (hk.block g (block_lt a2) (hd g rfl)).trans a2, a3, a4, a5, a6⟩
end Go.Proofs.Yteebiemfhicgbaa
