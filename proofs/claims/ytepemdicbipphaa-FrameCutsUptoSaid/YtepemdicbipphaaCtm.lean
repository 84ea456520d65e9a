/- Cutters, the reference's and a book, side by side: what holds between two steps of a script. No program's run. -/
import Derived.Test.YtepemdicbipphaaPld
import Derived.Test.YtepemdicbipphaaBkt
import Derived.Test.YtepemdicbipphaaInp
namespace Go.Proofs.Ytepemdicbipphaa
set_option linter.unusedVariables false
open Go.RowKit

theorem info_fc : (Try.prog.info? 40).map (fun i => (i.zero, i.size, i.bytes)) = some (some (.pointer none), 1, 8) := by kernel_rfl
theorem info_rc : (Try.prog.info? 42).map (fun i => (i.zero, i.size, i.bytes)) = some (some (.pointer none), 1, 8) := by kernel_rfl

/-- Pointers in a row. -/
def ptrs (p : Nat → Nat) (n : Nat) : List Value := (List.range n).map fun i => .pointer (some ⟨p i, 0, none⟩)
theorem ptrs_len (p : Nat → Nat) (n : Nat) : (ptrs p n).length = n := by simp [ptrs]
theorem ptrs_get (p : Nat → Nat) (n i : Nat) (h : i < n) : (ptrs p n)[i]? = some (.pointer (some ⟨p i, 0, none⟩)) := by
  unfold ptrs
  rw [List.getElem?_map, List.getElem?_range h]
  rfl
def put1 {α : Type} (f : Nat → α) (n : Nat) (x : α) : Nat → α := fun i => if i = n then x else f i
theorem put1_at {α : Type} (f : Nat → α) (n : Nat) (x : α) : put1 f n x n = x := if_pos rfl
theorem put1_ne {α : Type} (f : Nat → α) {n i : Nat} (x : α) (h : i ≠ n) : put1 f n x i = f i := if_neg h
theorem ptrs_push (p : Nat → Nat) (n b : Nat) : ptrs p n ++ [.pointer (some ⟨b, 0, none⟩)] = ptrs (put1 p n b) (n + 1) := by
  unfold ptrs
  rw [List.range_succ, List.map_append]
  congr 1
  · apply List.map_congr_left
    intro i hi
    have := List.mem_range.1 hi
    rw [put1_ne p b (by omega)]
  · simp [put1_at]
/-- An element of a row of pointers. -/
theorem ptrs_at {w : World} {B : Nat} {t : TypeId} {v : Value} {p : Nat → Nat} {n i : Nat} (h : w.ownsRow B t 1 v n (ptrs p n)) (hi : i < n) :
    ∃ b c, v = .slice (some ⟨b, 0, none⟩) n c ∧ n ≤ c ∧ w.cell? ⟨b, i, none⟩ = some (.pointer (some ⟨p i, 0, none⟩)) := by
  have hc := fun g => h.cells (g := g)
  rcases h.2 with ⟨_, h0⟩ | ⟨g, cap, cur, e, _, _, hn, _⟩
  · omega
  · have := hc g (by rw [e]; rfl) i _ (ptrs_get p n i hi)
    rw [Addr.add_lit, Nat.zero_add] at this
    exact ⟨g, cap, e, hn, this⟩

/-- A row stays where one of another type grows. -/
theorem row_beside {W w4 : World} {B1 B2 : Nat} {td tc : TypeId} {dv cv : Value} {n m : Nat} {xs ys : List Value} (hd : W.ownsRow B1 td 1 dv n ys) (hc : W.ownsRow B2 tc 1 cv m xs) (hne : td ≠ tc) (g : W.grownBy w4 cv.ownBlock) : w4.ownsRow B1 td 1 dv n ys := by
  have K4 : Kept cv.ownBlock.toList W w4 := (Kept.refl _ W).grown g (fun k e => Or.inl (by rw [e]; simp))
  refine ownsRow_kept hd K4 (fun b hb hm => ?_)
  rcases hc.2 with ⟨rfl, _⟩ | ⟨gg, cap, cur, rfl, _, hgg, _⟩
  · simp [Value.ownBlock] at hm
  · simp [Value.ownBlock] at hm
    subst hm
    exact own_neB hd hgg hne b hb rfl

/-- n cutters, their blocks told apart by colours; F: so many bytes at most were fed to each; w0: the world at the beginning. -/
structure Mny (w0 w : World) (cv dv : Value) (n : Nat) (p q : Nat → Nat) (S R : Nat → List Nat) (st : Nat → CS) (F : Nat) (col : Nat → Nat) : Prop where
  ct : ∀ i, i < n → Ct w (p i) (S i) (st i)
  rf : ∀ i, i < n → Rf w (q i) (R i) (st i)
  sc : ∀ i, i < n → ∀ b ∈ S i, col b = 8 + 2 * i
  rc : ∀ i, i < n → ∀ b ∈ R i, col b = 8 + 2 * i + 1
  gd : ∀ i, i < n → Gd (st i) F
  crow : w.ownsRow w0.heap.size 40 1 cv n (ptrs p n)
  drow : w.ownsRow w0.heap.size 42 1 dv n (ptrs q n)
  cc : ∀ b, cv.ownBlock = some b → col b = 7
  dc : ∀ b, dv.ownBlock = some b → col b = 7
  kept : Kept [] w0 w
  old : ∀ b, b < w0.heap.size → col b = 7
section
variable {w0 w w' : World} {cv dv : Value} {n F : Nat} {p q : Nat → Nat} {S R : Nat → List Nat} {st : Nat → CS} {col col' : Nat → Nat}
theorem Mny.start (w : World) : Mny w w (.slice none 0 0) (.slice none 0 0) 0 (fun _ => 0) (fun _ => 0) (fun _ => []) (fun _ => []) (fun _ => ⟨0, [], 0, 0, false⟩) 0 (fun _ => 7) :=
  ⟨(fun i h => by omega), (fun i h => by omega), (fun i h => by omega), (fun i h => by omega), (fun i h => by omega), World.ownsRow_nil _ _ _ _, World.ownsRow_nil _ _ _ _, (fun b h => by cases h), (fun b h => by cases h), Kept.refl _ _, fun b h => rfl⟩
/-- Nothing of colour 7 or above has turned. -/
theorem Mny.keep {T : List Nat} (h : Mny w0 w cv dv n p q S R st F col) (K : Kept T w w') (hT : ∀ b ∈ T, b < w.heap.size → col b < 7) (hc : ∀ b, b < w.heap.size → 7 ≤ col b → col' b = col b) : Mny w0 w' cv dv n p q S R st F col' := by
  have hz := h.kept.size
  refine ⟨fun i hi => (h.ct i hi).kept K (fun b hb hm => ?_), fun i hi => (h.rf i hi).kept K (fun b hb hm => ?_), fun i hi b hb => ?_, fun i hi b hb => ?_, h.gd, ownsRow_kept h.crow K (fun b hb hm => ?_), ownsRow_kept h.drow K (fun b hb hm => ?_), fun b hb => ?_, fun b hb => ?_, h.kept.trans K (fun b hb => ?_), fun b hb => ?_⟩
  · have := hT b hm ((h.ct i hi).lt b hb); have := h.sc i hi b hb; omega
  · have := hT b hm ((h.rf i hi).lt b hb); have := h.rc i hi b hb; omega
  · have := h.sc i hi b hb; rw [hc b ((h.ct i hi).lt b hb) (by omega)]; exact this
  · have := h.rc i hi b hb; rw [hc b ((h.rf i hi).lt b hb) (by omega)]; exact this
  · have := hT b hm (h.crow.lt b hb).2; have := h.cc b hb; omega
  · have := hT b hm (h.drow.lt b hb).2; have := h.dc b hb; omega
  · have := h.cc b hb; rw [hc b (h.crow.lt b hb).2 (by omega)]; exact this
  · have := h.dc b hb; rw [hc b (h.drow.lt b hb).2 (by omega)]; exact this
  · refine Or.inr (Nat.le_of_not_lt fun hlt => ?_)
    have := hT b hb (by omega); have := h.old b hlt; omega
  · have := h.old b hb; rw [hc b (by omega) (by omega)]; exact this
theorem Mny.pure (h : Mny w0 w cv dv n p q S R st F col) (K : Kept [] w w') : Mny w0 w' cv dv n p q S R st F col := h.keep K (fun b hb => by cases hb) (fun _ _ _ => rfl)
theorem Mny.book (h : Mny w0 w cv dv n p q S R st F col) (f : Fr w col w' col' 0) : Mny w0 w' cv dv n p q S R st F col' := by
  obtain ⟨T, K, hT⟩ := f.kept
  exact h.keep K (fun b hb hlt => by have := hT b hb hlt; omega) f.same
theorem Mny.more {G : Nat} (h : Mny w0 w cv dv n p q S R st F col) (hg : F ≤ G) : Mny w0 w cv dv n p q S R st G col :=
  ⟨h.ct, h.rf, h.sc, h.rc, fun i hi => (h.gd i hi).more hg, h.crow, h.drow, h.cc, h.dc, h.kept, h.old⟩
theorem Mny.pl {k N i : Nat} (h : Mny w0 w cv dv n p q S R st F col) (B : Bkd w k col N) (hi : i < n) : Pl w k col N (p i) (q i) (S i) (R i) (st i) (st i) (8 + 2 * i) :=
  ⟨B, h.ct i hi, h.rf i hi, h.sc i hi, h.rc i hi, by omega⟩
/-- One of them has been used. -/
theorem Mny.step {k N i G : Nat} {st' : CS} (h : Mny w0 w cv dv n p q S R st F col) (hi : i < n) (g : Gd st' G) (hG : F ≤ G) (o : PlOut w k col N (p i) (q i) st' (8 + 2 * i) w') :
    ∃ S' R' col', Mny w0 w' cv dv n p q S' R' (put1 st i st') G col' ∧ Bkd w' k col' N := by
  obtain ⟨Si, Ri, col', P, f⟩ := o
  obtain ⟨T, K, hT⟩ := f.out.kept
  have hc := f.out.same
  have hz := h.kept.size
  refine ⟨put1 S i Si, put1 R i Ri, col', ⟨fun j hj => ?_, fun j hj => ?_, fun j hj b hb => ?_, fun j hj b hb => ?_, fun j hj => ?_, ownsRow_kept h.crow K (fun b hb hm => ?_), ownsRow_kept h.drow K (fun b hb hm => ?_), fun b hb => ?_, fun b hb => ?_, h.kept.trans K (fun b hb => ?_), fun b hb => ?_⟩, P.out.bk⟩
  · by_cases e : j = i
    · subst e; rw [put1_at, put1_at]; exact P.out.ct
    · rw [put1_ne _ _ e, put1_ne _ _ e]
      exact (h.ct j hj).kept K (fun b hb hm => by have := hT b hm ((h.ct j hj).lt b hb); have := h.sc j hj b hb; omega)
  · by_cases e : j = i
    · subst e; rw [put1_at, put1_at]; exact P.out.rf
    · rw [put1_ne _ _ e, put1_ne _ _ e]
      exact (h.rf j hj).kept K (fun b hb hm => by have := hT b hm ((h.rf j hj).lt b hb); have := h.rc j hj b hb; omega)
  · by_cases e : j = i
    · subst e; rw [put1_at] at hb; exact P.out.sc b hb
    · rw [put1_ne _ _ e] at hb
      have := h.sc j hj b hb
      rw [hc b ((h.ct j hj).lt b hb) (by omega)]
      exact this
  · by_cases e : j = i
    · subst e; rw [put1_at] at hb; exact P.out.rc b hb
    · rw [put1_ne _ _ e] at hb
      have := h.rc j hj b hb
      rw [hc b ((h.rf j hj).lt b hb) (by omega)]
      exact this
  · by_cases e : j = i
    · subst e; rw [put1_at]; exact g
    · rw [put1_ne _ _ e]; exact (h.gd j hj).more hG
  · have := hT b hm (h.crow.lt b hb).2; have := h.cc b hb; omega
  · have := hT b hm (h.drow.lt b hb).2; have := h.dc b hb; omega
  · have := h.cc b hb; rw [hc b (h.crow.lt b hb).2 (by omega)]; exact this
  · have := h.dc b hb; rw [hc b (h.drow.lt b hb).2 (by omega)]; exact this
  · refine Or.inr (Nat.le_of_not_lt fun hlt => ?_)
    have := hT b hb (by omega); have := h.old b hlt; omega
  · have := h.old b hb; rw [hc b (by omega) (by omega)]; exact this
/-- One more is made, of both. -/
theorem Mny.push {w2 w3 W w4 V w5 : World} {st0 : CS} {cv' dv' : Value} (h : Mny w0 w cv dv n p q S R st F col) (c : Ct w2 w.heap.size [w.heap.size] st0) (k2 : Kept [] w w2) (r : Rf w3 w2.heap.size [w2.heap.size] st0) (k3 : Kept [] w2 w3) (g : Gd st0 F)
    (kW : Kept [] w3 W) (o4 : w4.ownsRow w0.heap.size 40 1 cv' (n + 1) (ptrs p n ++ [.pointer (some ⟨w.heap.size, 0, none⟩)])) (g4 : W.grownBy w4 cv.ownBlock) (a4 : cv'.ownBlock = cv.ownBlock ∨ cv'.ownBlock = some W.heap.size)
    (kV : Kept [] w4 V) (o5 : w5.ownsRow w0.heap.size 42 1 dv' (n + 1) (ptrs q n ++ [.pointer (some ⟨w2.heap.size, 0, none⟩)])) (g5 : V.grownBy w5 dv.ownBlock) (a5 : dv'.ownBlock = dv.ownBlock ∨ dv'.ownBlock = some V.heap.size) :
    ∃ p' q' S' R' st' col', Mny w0 w5 cv' dv' (n + 1) p' q' S' R' st' F col' := by
  have z0 := h.kept.size
  have z2 := k2.size
  have z3 := k3.size
  have zW := kW.size
  have c1 : w.heap.size < w2.heap.size := c.lt _ (by simp)
  have r1 : w2.heap.size < w3.heap.size := r.lt _ (by simp)
  have K4 : Kept cv.ownBlock.toList W w4 := (Kept.refl _ W).grown g4 (fun k e => Or.inl (by rw [e]; simp))
  have K5 : Kept dv.ownBlock.toList V w5 := (Kept.refl _ V).grown g5 (fun k e => Or.inl (by rw [e]; simp))
  have z4 := K4.size
  have zV := kV.size
  have z5 := K5.size
  have nilm : ∀ (T : List Nat) (x : World), ∀ i ∈ ([] : List Nat), i ∈ T ∨ x.heap.size ≤ i := fun T x i hi => by cases hi
  have A : Kept [] w W := (k2.trans k3 (nilm _ _)).trans kW (nilm _ _)
  have Bk : Kept (cv.ownBlock.toList ++ dv.ownBlock.toList) w w5 := (((A.mono (nilm (cv.ownBlock.toList ++ dv.ownBlock.toList) w)).trans K4 (fun i hi => Or.inl (List.mem_append_left _ hi))).trans kV (nilm _ _)).trans K5 (fun i hi => Or.inl (List.mem_append_right _ hi))
  have cb : ∀ b, cv.ownBlock = some b → w0.heap.size ≤ b ∧ b < w.heap.size ∧ col b = 7 := fun b hb => ⟨(h.crow.lt b hb).1, (h.crow.lt b hb).2, h.cc b hb⟩
  have db : ∀ b, dv.ownBlock = some b → w0.heap.size ≤ b ∧ b < w.heap.size ∧ col b = 7 := fun b hb => ⟨(h.drow.lt b hb).1, (h.drow.lt b hb).2, h.dc b hb⟩
  have inn : ∀ b, b ∈ cv.ownBlock.toList ++ dv.ownBlock.toList → w0.heap.size ≤ b ∧ b < w.heap.size ∧ col b = 7 := fun b hb => by
    rcases List.mem_append.1 hb with e | e
    · exact cb b (by simpa using e)
    · exact db b (by simpa using e)
  obtain ⟨col', hcol⟩ : ∃ f : Nat → Nat, f = fun b => if b < w.heap.size then col b else if b = w.heap.size then 8 + 2 * n else if b = w2.heap.size then 8 + 2 * n + 1 else 7 := ⟨_, rfl⟩
  have hold : ∀ b, b < w.heap.size → col' b = col b := fun b hb => by rw [hcol]; exact if_pos hb
  have hp0 : col' w.heap.size = 8 + 2 * n := by rw [hcol]; simp
  have hq0 : col' w2.heap.size = 8 + 2 * n + 1 := by rw [hcol]; simp only; rw [if_neg (by omega), if_neg (by omega)]; simp
  have h7 : ∀ b, w3.heap.size ≤ b → col' b = 7 := fun b hb => by rw [hcol]; simp only; rw [if_neg (by omega), if_neg (by omega), if_neg (by omega)]
  have C5 : Ct w5 w.heap.size [w.heap.size] st0 := by
    refine ((((c.kept k3 (fun b _ hm => by cases hm)).kept kW (fun b _ hm => by cases hm)).kept K4 (fun b hb hm => ?_)).kept kV (fun b _ hm => by cases hm)).kept K5 (fun b hb hm => ?_)
    · have := cb b (by simpa using hm); simp at hb; omega
    · have := db b (by simpa using hm); simp at hb; omega
  have R5 : Rf w5 w2.heap.size [w2.heap.size] st0 := by
    refine (((r.kept kW (fun b _ hm => by cases hm)).kept K4 (fun b hb hm => ?_)).kept kV (fun b _ hm => by cases hm)).kept K5 (fun b hb hm => ?_)
    · have := cb b (by simpa using hm); simp at hb; omega
    · have := db b (by simpa using hm); simp at hb; omega
  have hcb' : ∀ b, cv'.ownBlock = some b → col' b = 7 := fun b hb => by
    rcases a4 with e | e
    · rw [hb] at e
      have := cb b e.symm
      rw [hold b (by omega)]; exact this.2.2
    · rw [hb] at e
      cases e
      exact h7 _ (by omega)
  have hdb' : ∀ b, dv'.ownBlock = some b → col' b = 7 := fun b hb => by
    rcases a5 with e | e
    · rw [hb] at e
      have := db b e.symm
      rw [hold b (by omega)]; exact this.2.2
    · rw [hb] at e
      cases e
      exact h7 _ (by omega)
  refine ⟨put1 p n w.heap.size, put1 q n w2.heap.size, put1 S n [w.heap.size], put1 R n [w2.heap.size], put1 st n st0, col', ⟨fun j hj => ?_, fun j hj => ?_, fun j hj b hb => ?_, fun j hj b hb => ?_, fun j hj => ?_, ?_, ?_, hcb', hdb', ?_, fun b hb => ?_⟩⟩
  · by_cases e : j = n
    · subst e; rw [put1_at, put1_at, put1_at]; exact C5
    · rw [put1_ne _ _ e, put1_ne _ _ e, put1_ne _ _ e]
      exact (h.ct j (by omega)).kept Bk (fun b hb hm => by have := inn b hm; have := h.sc j (by omega) b hb; omega)
  · by_cases e : j = n
    · subst e; rw [put1_at, put1_at, put1_at]; exact R5
    · rw [put1_ne _ _ e, put1_ne _ _ e, put1_ne _ _ e]
      exact (h.rf j (by omega)).kept Bk (fun b hb hm => by have := inn b hm; have := h.rc j (by omega) b hb; omega)
  · by_cases e : j = n
    · subst e; rw [put1_at] at hb; simp at hb; subst hb; exact hp0
    · rw [put1_ne _ _ e] at hb
      rw [hold b ((h.ct j (by omega)).lt b hb)]
      exact h.sc j (by omega) b hb
  · by_cases e : j = n
    · subst e; rw [put1_at] at hb; simp at hb; subst hb; exact hq0
    · rw [put1_ne _ _ e] at hb
      rw [hold b ((h.rf j (by omega)).lt b hb)]
      exact h.rc j (by omega) b hb
  · by_cases e : j = n
    · subst e; rw [put1_at]; exact g
    · rw [put1_ne _ _ e]; exact h.gd j (by omega)
  · rw [← ptrs_push]
    refine ownsRow_kept (ownsRow_kept o4 kV (fun b _ hm => by cases hm)) K5 (fun b hb hm => ?_)
    have hd := db b (by simpa using hm)
    rcases a4 with e | e
    · have hD : W.ownsRow w0.heap.size 42 1 dv n (ptrs q n) := ownsRow_kept h.drow A (fun b _ hm => by cases hm)
      have hC : W.ownsRow w0.heap.size 40 1 cv n (ptrs p n) := ownsRow_kept h.crow A (fun b _ hm => by cases hm)
      rw [hb] at e
      rcases hC.2 with ⟨h0, _⟩ | ⟨gg, cap, cur, h0, _, hgg, _⟩
      · rw [h0] at e; cases e
      · rw [h0] at e
        simp [Value.ownBlock] at e
        subst e
        exact own_neB hD hgg (by decide) b (by simpa using hm) rfl
    · rw [hb] at e
      have := Option.some.inj e
      omega
  · rw [← ptrs_push]
    exact o5
  · refine (h.kept.trans Bk (fun b hb => Or.inr (inn b hb).1))
  · rw [hold b (by omega)]
    exact h.old b hb
end
/-- A new book. -/
theorem Bkd.new (w : World) (col : Nat → Nat) : Bkd (w.alloc (.cells #[.slice none 0 0, .slice none 0 0, .slice none 0 0, .slice none 0 0, .slice none 0 0, .slice none 0 0] 28 (0, 0))) w.heap.size (upd col w.heap.size 6) 0 := by
  have N : ∀ (v : Nat → Prop) (x : World), FrP x (.slice none 0 0) [] [] v 0 := fun v x => FrP.nil x v
  refine ⟨_, _, _, _, _, _, [], [], [], [], [], [], [], [], [], ⟨heap_alloc_new w _, N _ _, World.ownsRow_nil _ _ _ _, (fun b h => by cases h), rfl, ?_, N _ _, N _ _, N _ _, N _ _, (by unfold upd; simp), ?_, ?_⟩, (by simp), (fun x h => by cases h), (fun x h => by cases h), (fun x h => by cases h)⟩
  · intro i hi
    simp at hi
  · intro i j hi
    simp at hi
  · intro i j hi
    simp at hi
theorem Mny.alloc {w0 w : World} {cv dv : Value} {n F k c : Nat} {p q : Nat → Nat} {S R : Nat → List Nat} {st : Nat → CS} {col : Nat → Nat} (h : Mny w0 w cv dv n p q S R st F col) (o : Obj) (hk : k = w.heap.size) : Mny w0 (w.alloc o) cv dv n p q S R st F (upd col k c) :=
  h.keep ((Kept.refl [] w).alloc o) (fun b hb => by cases hb) (fun b hb _ => by rw [upd_old (by omega)])

/-- What a script costs from its i-th step on. -/
def costL (bs : Nat → List UInt8) : Nat → List Stp → Nat
  | _, [] => 0
  | i, o :: r => 16 + (bs i).length + (if o.kind = 6 then 70000 else 0) + costL bs (i + 1) r
theorem much_cost (bs : Nat → List UInt8) : ∀ (ops : List Stp) (i n : Nat), muchF bs n i ops ≤ 33554432 → n + costL bs i ops ≤ 33554432
  | [], i, n, h => h
  | o :: r, i, n, h => by
    unfold muchF at h
    unfold costL
    split at h
    · have := much_cost bs r (i + 1) _ h
      omega
    · omega
theorem cost_next (bs : Nat → List UInt8) (ops : List Stp) (i : Nat) (hi : i < ops.length) : costL bs i (ops.drop i) = 16 + (bs i).length + (if ops[i].kind = 6 then 70000 else 0) + costL bs (i + 1) (ops.drop (i + 1)) := by
  rw [List.drop_eq_getElem_cons hi]
  rfl
end Go.Proofs.Ytepemdicbipphaa
