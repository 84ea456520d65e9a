/- Writers, the reference's and a book, side by side: what holds between two steps of a script. No program's run. -/
import Derived.Test.YtfdbpbhihccgbaaDne
import Derived.Test.YtfdbpbhihccgbaaGoe
namespace Go.Proofs.Ytfdbpbhihccgbaa
set_option linter.unusedVariables false
open Go.RowKit

theorem info_wp : (Try.prog.info? 28).map (fun i => (i.zero, i.size, i.bytes)) = some (some (.pointer none), 1, 8) := by kernel_rfl
theorem info_vp : (Try.prog.info? 32).map (fun i => (i.zero, i.size, i.bytes)) = some (some (.pointer none), 1, 8) := by kernel_rfl

/-- Pointers in a row. -/
def ptrs (p : Nat → Nat) (n : Nat) : List Value := (List.range n).map fun i => .pointer (some ⟨p i, 0, none⟩)
theorem ptrs_len (p : Nat → Nat) (n : Nat) : (ptrs p n).length = n := by simp [ptrs]
theorem ptrs_get (p : Nat → Nat) (n i : Nat) (h : i < n) : (ptrs p n)[i]? = some (.pointer (some ⟨p i, 0, none⟩)) := by
  unfold ptrs
  rw [List.getElem?_map, List.getElem?_range h]
  rfl
def put1 {α : Type} (f : Nat → α) (n : Nat) (x : α) : Nat → α := fun i => if i = n then x else f i
theorem put1_at {α : Type} (f : Nat → α) (n : Nat) (x : α) : put1 f n x n = x := if_pos rfl
theorem put1_ne {α : Type} (f : Nat → α) {n i : Nat} (x : α) (h : i ≠ n) : put1 f n x i = f i := if_neg h
theorem ptrs_push (p : Nat → Nat) (n b : Nat) : ptrs p n ++ [.pointer (some ⟨b, 0, none⟩)] = ptrs (put1 p n b) (n + 1) := by
  unfold ptrs
  rw [List.range_succ, List.map_append]
  congr 1
  · apply List.map_congr_left
    intro i hi
    have := List.mem_range.1 hi
    rw [put1_ne p b (by omega)]
  · simp [put1_at]
/-- An element of a row of pointers. -/
theorem ptrs_at {w : World} {B : Nat} {t : TypeId} {v : Value} {p : Nat → Nat} {n i : Nat} (h : w.ownsRow B t 1 v n (ptrs p n)) (hi : i < n) :
    ∃ b c, v = .slice (some ⟨b, 0, none⟩) n c ∧ n ≤ c ∧ w.cell? ⟨b, i, none⟩ = some (.pointer (some ⟨p i, 0, none⟩)) := by
  have hc := fun g => h.cells (g := g)
  rcases h.2 with ⟨_, h0⟩ | ⟨g, cap, cur, e, _, _, hn, _⟩
  · omega
  · have := hc g (by rw [e]; rfl) i _ (ptrs_get p n i hi)
    rw [Addr.add_lit, Nat.zero_add] at this
    exact ⟨g, cap, e, hn, this⟩

/-- A row stays where one of another type grows. -/
theorem row_beside {W w4 : World} {B1 B2 : Nat} {td tc : TypeId} {dv cv : Value} {n m : Nat} {xs ys : List Value} (hd : W.ownsRow B1 td 1 dv n ys) (hc : W.ownsRow B2 tc 1 cv m xs) (hne : td ≠ tc) (g : W.grownBy w4 cv.ownBlock) : w4.ownsRow B1 td 1 dv n ys := by
  have K4 : Kept cv.ownBlock.toList W w4 := (Kept.refl _ W).grown g (fun k e => Or.inl (by rw [e]; simp))
  refine Zb.ownsRow_kept hd K4 (fun b hb hm => ?_)
  rcases hc.2 with ⟨rfl, _⟩ | ⟨gg, cap, cur, rfl, _, hgg, _⟩
  · simp [Value.ownBlock] at hm
  · simp [Value.ownBlock] at hm
    subst hm
    exact Zb.own_neB hd hgg hne b hb rfl

/-- n writers of both, their blocks told apart by colours; w0: the world at the beginning; B: the book's blocks. -/
structure Wmn (w0 w : World) (cv dv : Value) (n : Nat) (p q : Nat → Nat) (S R : Nat → List Nat) (st : Nat → WS) (col : Nat → Nat) (B : List Nat) : Prop where
  two : ∀ i, i < n → Two w (p i) (q i) (S i) (R i) (st i) (st i)
  sc : ∀ i, i < n → ∀ b ∈ S i ++ R i, col b = 8 + i
  ok : ∀ i, i < n → (st i).Ok ∧ (st i).Fit
  crow : w.ownsRow w0.heap.size 28 1 cv n (ptrs p n)
  drow : w.ownsRow w0.heap.size 32 1 dv n (ptrs q n)
  cc : ∀ b, cv.ownBlock = some b → col b = 7
  dc : ∀ b, dv.ownBlock = some b → col b = 7
  kept : Kept [] w0 w
  old : ∀ b, b < w0.heap.size → col b = 7
  bc : ∀ b ∈ B, b < w.heap.size ∧ col b = 6
section
variable {w0 w w' : World} {cv dv : Value} {n : Nat} {p q : Nat → Nat} {S R : Nat → List Nat} {st : Nat → WS} {col col' : Nat → Nat} {B B' : List Nat}
theorem Wmn.start (w : World) : Wmn w w (.slice none 0 0) (.slice none 0 0) 0 (fun _ => 0) (fun _ => 0) (fun _ => []) (fun _ => []) (fun _ => ⟨0, [], [], 0⟩) (fun _ => 7) [] :=
  ⟨(fun i h => by omega), (fun i h => by omega), (fun i h => by omega), World.ownsRow_nil _ _ _ _, World.ownsRow_nil _ _ _ _, (fun b h => by cases h), (fun b h => by cases h), Kept.refl _ _, (fun b h => rfl), (fun b h => by cases h)⟩
/-- Nothing of colour 7 or above has turned. -/
theorem Wmn.keep {T : List Nat} (h : Wmn w0 w cv dv n p q S R st col B) (K : Kept T w w') (hT : ∀ b ∈ T, b < w.heap.size → col b < 7) (hc : ∀ b, b < w.heap.size → 7 ≤ col b → col' b = col b) (hB : ∀ b ∈ B', b < w'.heap.size ∧ col' b = 6) : Wmn w0 w' cv dv n p q S R st col' B' := by
  have hz := h.kept.size
  refine ⟨fun i hi => (h.two i hi).kept K (fun b hb hm => ?_), fun i hi b hb => ?_, h.ok, Zb.ownsRow_kept h.crow K (fun b hb hm => ?_), Zb.ownsRow_kept h.drow K (fun b hb hm => ?_), fun b hb => ?_, fun b hb => ?_, h.kept.trans K (fun b hb => ?_), fun b hb => ?_, hB⟩
  · have := hT b hm ((h.two i hi).lt b hb); have := h.sc i hi b hb; omega
  · have := h.sc i hi b hb; rw [hc b ((h.two i hi).lt b hb) (by omega)]; exact this
  · have := hT b hm (h.crow.lt b hb).2; have := h.cc b hb; omega
  · have := hT b hm (h.drow.lt b hb).2; have := h.dc b hb; omega
  · have := h.cc b hb; rw [hc b (h.crow.lt b hb).2 (by omega)]; exact this
  · have := h.dc b hb; rw [hc b (h.drow.lt b hb).2 (by omega)]; exact this
  · refine Or.inr (Nat.le_of_not_lt fun hlt => ?_)
    have := hT b hb (by omega); have := h.old b hlt; omega
  · have := h.old b hb; rw [hc b (by omega) (by omega)]; exact this
theorem Wmn.pure (h : Wmn w0 w cv dv n p q S R st col B) (K : Kept [] w w') : Wmn w0 w' cv dv n p q S R st col B := h.keep K (fun b hb => by cases hb) (fun _ _ _ => rfl) (fun b hb => by have := h.bc b hb; have := K.size; omega)
/-- The book has been used, and has taken nothing of others. -/
theorem Wmn.book {k m : Nat} (h : Wmn w0 w cv dv n p q S R st col B) (o : BklOut w k B m (.bool true) w') : ∃ B' col', Wmn w0 w' cv dv n p q S R st col' B' ∧ Bkl w' k B' m := by
  obtain ⟨B', b', K, s⟩ := o
  have hl := b'.out.lt
  refine ⟨B', fun b => if b ∈ B' then 6 else if b < w.heap.size then col b else 7, h.keep K.out (fun b hb hlt => by have := h.bc b hb; omega) (fun b hb h7 => ?_) (fun b hb => ⟨hl b hb, if_pos hb⟩), b'.out⟩
  have hn : b ∉ B' := fun hm => by
    rcases s.out b hm with x | x | x
    · have := h.bc b x; omega
    · cases x
    · omega
  simp only [if_neg hn, if_pos hb]
theorem Wmn.play {k m i : Nat} (h : Wmn w0 w cv dv n p q S R st col B) (hb : Bkl w k B m) (hi : i < n) : Play w (p i) (q i) (S i) (R i) (st i) (st i) k B m :=
  ⟨h.two i hi, hb, fun b hb hm => by have := h.bc b hb; have := h.sc i hi b hm; omega⟩
/-- One of them has been used. -/
theorem Wmn.step {k m i : Nat} {st' : WS} (h : Wmn w0 w cv dv n p q S R st col B) (hi : i < n) (g : Goes (st i) st') (o : PlayOut w (p i) (q i) (S i) (R i) k B st' st' m w') :
    ∃ S' R' B' col', Wmn w0 w' cv dv n p q S' R' (put1 st i st') col' B' ∧ Bkl w' k B' m := by
  obtain ⟨Si, Ri, B', P, K, s⟩ := o
  have hz := h.kept.size
  have hz2 := K.out.size
  have hl := P.out.lt
  have hap := P.out.apart
  have hT : ∀ b ∈ (S i ++ R i) ++ B, col b = 8 + i ∨ col b = 6 := fun b hb => by
    rcases List.mem_append.1 hb with x | x
    · exact Or.inl (h.sc i hi b x)
    · exact Or.inr (h.bc b x).2
  obtain ⟨col', hc⟩ : ∃ c : Nat → Nat, c = fun b => if b ∈ Si ++ Ri then 8 + i else if b ∈ B' then 6 else if b < w.heap.size then col b else 7 := ⟨_, rfl⟩
  have c1 : ∀ b, b ∈ Si ++ Ri → col' b = 8 + i := fun b hb => by rw [hc]; exact if_pos hb
  have c2 : ∀ b, b ∈ B' → col' b = 6 := fun b hb => by rw [hc]; simp only; rw [if_neg (hap b hb), if_pos hb]
  have c3 : ∀ b, b < w.heap.size → col b ≠ 8 + i → col b ≠ 6 → col' b = col b := fun b hb h1 h2 => by
    have n1 : b ∉ Si ++ Ri := fun hm => by
      rcases s.out b (List.mem_append_left _ hm) with x | x
      · have := hT b x; omega
      · omega
    have n2 : b ∉ B' := fun hm => by
      rcases s.out b (List.mem_append_right _ hm) with x | x
      · have := hT b x; omega
      · omega
    rw [hc]
    simp only
    rw [if_neg n1, if_neg n2, if_pos hb]
  have off : ∀ b, col b ≠ 8 + i → col b ≠ 6 → b ∉ (S i ++ R i) ++ B := fun b h1 h2 hm => by have := hT b hm; omega
  refine ⟨put1 S i Si, put1 R i Ri, B', col', ⟨fun j hj => ?_, fun j hj b hb => ?_, fun j hj => ?_, Zb.ownsRow_kept h.crow K.out (fun b hb hm => ?_), Zb.ownsRow_kept h.drow K.out (fun b hb hm => ?_), fun b hb => ?_, fun b hb => ?_, h.kept.trans K.out (fun b hb => ?_), fun b hb => ?_, fun b hb => ⟨hl b (List.mem_append_right _ hb), c2 b hb⟩⟩, P.out.book⟩
  · by_cases e : j = i
    · subst e; rw [put1_at, put1_at, put1_at]; exact P.out.two
    · rw [put1_ne _ _ e, put1_ne _ _ e, put1_ne _ _ e]
      exact (h.two j hj).kept K.out (fun b hb => by have := h.sc j hj b hb; exact off b (by omega) (by omega))
  · by_cases e : j = i
    · subst e; rw [put1_at, put1_at] at hb; exact c1 b hb
    · rw [put1_ne _ _ e, put1_ne _ _ e] at hb
      have := h.sc j hj b hb
      rw [c3 b ((h.two j hj).lt b hb) (by omega) (by omega)]
      exact this
  · by_cases e : j = i
    · subst e; rw [put1_at]; exact ⟨g.ok, g.fit⟩
    · rw [put1_ne _ _ e]; exact h.ok j hj
  · have := h.cc b hb; exact off b (by omega) (by omega) hm
  · have := h.dc b hb; exact off b (by omega) (by omega) hm
  · have := h.cc b hb; rw [c3 b (h.crow.lt b hb).2 (by omega) (by omega)]; exact this
  · have := h.dc b hb; rw [c3 b (h.drow.lt b hb).2 (by omega) (by omega)]; exact this
  · refine Or.inr (Nat.le_of_not_lt fun hlt => ?_)
    have := h.old b hlt
    exact off b (by omega) (by omega) hb
  · have := h.old b hb; rw [c3 b (by omega) (by omega) (by omega)]; exact this
/-- One more is made, of both. -/
theorem Wmn.push {w2 w3 W w4 V w5 : World} {st0 : WS} {cv' dv' : Value} (h : Wmn w0 w cv dv n p q S R st col []) (c : Wr 77 w2 w.heap.size [w.heap.size] st0) (k2 : Kept [] w w2) (r : Wr 79 w3 w2.heap.size [w2.heap.size] st0) (k3 : Kept [] w2 w3) (g : st0.Ok ∧ st0.Fit)
    (kW : Kept [] w3 W) (o4 : w4.ownsRow w0.heap.size 28 1 cv' (n + 1) (ptrs p n ++ [.pointer (some ⟨w.heap.size, 0, none⟩)])) (g4 : W.grownBy w4 cv.ownBlock) (a4 : cv'.ownBlock = cv.ownBlock ∨ cv'.ownBlock = some W.heap.size)
    (kV : Kept [] w4 V) (o5 : w5.ownsRow w0.heap.size 32 1 dv' (n + 1) (ptrs q n ++ [.pointer (some ⟨w2.heap.size, 0, none⟩)])) (g5 : V.grownBy w5 dv.ownBlock) (a5 : dv'.ownBlock = dv.ownBlock ∨ dv'.ownBlock = some V.heap.size) :
    ∃ p' q' S' R' st' col', Wmn w0 w5 cv' dv' (n + 1) p' q' S' R' st' col' [] := by
  have z0 := h.kept.size
  have z2 := k2.size
  have z3 := k3.size
  have zW := kW.size
  have c1 : w.heap.size < w2.heap.size := c.lt _ (by simp)
  have r1 : w2.heap.size < w3.heap.size := r.lt _ (by simp)
  have K4 : Kept cv.ownBlock.toList W w4 := (Kept.refl _ W).grown g4 (fun k e => Or.inl (by rw [e]; simp))
  have K5 : Kept dv.ownBlock.toList V w5 := (Kept.refl _ V).grown g5 (fun k e => Or.inl (by rw [e]; simp))
  have z4 := K4.size
  have zV := kV.size
  have z5 := K5.size
  have nilm : ∀ (T : List Nat) (x : World), ∀ i ∈ ([] : List Nat), i ∈ T ∨ x.heap.size ≤ i := fun T x i hi => by cases hi
  have A : Kept [] w W := (k2.trans k3 (nilm _ _)).trans kW (nilm _ _)
  have Bk : Kept (cv.ownBlock.toList ++ dv.ownBlock.toList) w w5 := (((A.mono (nilm (cv.ownBlock.toList ++ dv.ownBlock.toList) w)).trans K4 (fun i hi => Or.inl (List.mem_append_left _ hi))).trans kV (nilm _ _)).trans K5 (fun i hi => Or.inl (List.mem_append_right _ hi))
  have cb : ∀ b, cv.ownBlock = some b → w0.heap.size ≤ b ∧ b < w.heap.size ∧ col b = 7 := fun b hb => ⟨(h.crow.lt b hb).1, (h.crow.lt b hb).2, h.cc b hb⟩
  have db : ∀ b, dv.ownBlock = some b → w0.heap.size ≤ b ∧ b < w.heap.size ∧ col b = 7 := fun b hb => ⟨(h.drow.lt b hb).1, (h.drow.lt b hb).2, h.dc b hb⟩
  have inn : ∀ b, b ∈ cv.ownBlock.toList ++ dv.ownBlock.toList → w0.heap.size ≤ b ∧ b < w.heap.size ∧ col b = 7 := fun b hb => by
    rcases List.mem_append.1 hb with e | e
    · exact cb b (by simpa using e)
    · exact db b (by simpa using e)
  obtain ⟨col', hcol⟩ : ∃ f : Nat → Nat, f = fun b => if b < w.heap.size then col b else if b = w.heap.size then 8 + n else if b = w2.heap.size then 8 + n else 7 := ⟨_, rfl⟩
  have hold : ∀ b, b < w.heap.size → col' b = col b := fun b hb => by rw [hcol]; exact if_pos hb
  have hp0 : col' w.heap.size = 8 + n := by rw [hcol]; simp
  have hq0 : col' w2.heap.size = 8 + n := by rw [hcol]; simp only; rw [if_neg (by omega), if_neg (by omega)]; simp
  have h7 : ∀ b, w3.heap.size ≤ b → col' b = 7 := fun b hb => by rw [hcol]; simp only; rw [if_neg (by omega), if_neg (by omega), if_neg (by omega)]
  have C5 : Two w5 w.heap.size w2.heap.size [w.heap.size] [w2.heap.size] st0 st0 := by
    refine ⟨((((c.kept k3 (fun b _ hm => by cases hm)).kept kW (fun b _ hm => by cases hm)).kept K4 (fun b hb hm => ?_)).kept kV (fun b _ hm => by cases hm)).kept K5 (fun b hb hm => ?_), (((r.kept kW (fun b _ hm => by cases hm)).kept K4 (fun b hb hm => ?_)).kept kV (fun b _ hm => by cases hm)).kept K5 (fun b hb hm => ?_), fun b hb hm => ?_⟩
    · have := cb b (by simpa using hm); simp at hb; omega
    · have := db b (by simpa using hm); simp at hb; omega
    · have := cb b (by simpa using hm); simp at hb; omega
    · have := db b (by simpa using hm); simp at hb; omega
    · simp at hb hm; omega
  have hcb' : ∀ b, cv'.ownBlock = some b → col' b = 7 := fun b hb => by
    rcases a4 with e | e
    · rw [hb] at e
      have := cb b e.symm
      rw [hold b (by omega)]; exact this.2.2
    · rw [hb] at e
      cases e
      exact h7 _ (by omega)
  have hdb' : ∀ b, dv'.ownBlock = some b → col' b = 7 := fun b hb => by
    rcases a5 with e | e
    · rw [hb] at e
      have := db b e.symm
      rw [hold b (by omega)]; exact this.2.2
    · rw [hb] at e
      cases e
      exact h7 _ (by omega)
  refine ⟨put1 p n w.heap.size, put1 q n w2.heap.size, put1 S n [w.heap.size], put1 R n [w2.heap.size], put1 st n st0, col', ⟨fun j hj => ?_, fun j hj b hb => ?_, fun j hj => ?_, ?_, ?_, hcb', hdb', ?_, fun b hb => ?_, fun b hb => by cases hb⟩⟩
  · by_cases e : j = n
    · subst e; rw [put1_at, put1_at, put1_at, put1_at, put1_at]; exact C5
    · rw [put1_ne _ _ e, put1_ne _ _ e, put1_ne _ _ e, put1_ne _ _ e, put1_ne _ _ e]
      exact (h.two j (by omega)).kept Bk (fun b hb hm => by have := inn b hm; have := h.sc j (by omega) b hb; omega)
  · by_cases e : j = n
    · subst e; rw [put1_at, put1_at] at hb
      have hb' : b = w.heap.size ∨ b = w2.heap.size := by simpa using hb
      rcases hb' with rfl | rfl
      · exact hp0
      · exact hq0
    · rw [put1_ne _ _ e, put1_ne _ _ e] at hb
      rw [hold b ((h.two j (by omega)).lt b hb)]
      exact h.sc j (by omega) b hb
  · by_cases e : j = n
    · subst e; rw [put1_at]; exact g
    · rw [put1_ne _ _ e]; exact h.ok j (by omega)
  · rw [← ptrs_push]
    refine Zb.ownsRow_kept (Zb.ownsRow_kept o4 kV (fun b _ hm => by cases hm)) K5 (fun b hb hm => ?_)
    have hd := db b (by simpa using hm)
    rcases a4 with e | e
    · have hD : W.ownsRow w0.heap.size 32 1 dv n (ptrs q n) := Zb.ownsRow_kept h.drow A (fun b _ hm => by cases hm)
      have hC : W.ownsRow w0.heap.size 28 1 cv n (ptrs p n) := Zb.ownsRow_kept h.crow A (fun b _ hm => by cases hm)
      rw [hb] at e
      rcases hC.2 with ⟨h0, _⟩ | ⟨gg, cap, cur, h0, _, hgg, _⟩
      · rw [h0] at e; cases e
      · rw [h0] at e
        simp [Value.ownBlock] at e
        subst e
        exact Zb.own_neB hD hgg (by decide) b (by simpa using hm) rfl
    · rw [hb] at e
      have := Option.some.inj e
      omega
  · rw [← ptrs_push]
    exact o5
  · refine (h.kept.trans Bk (fun b hb => Or.inr (inn b hb).1))
  · rw [hold b (by omega)]
    exact h.old b hb
/-- The book is made. -/
theorem Wmn.made (h : Wmn w0 w cv dv n p q S R st col []) (o : Obj) : Wmn w0 (w.alloc o) cv dv n p q S R st (Zb.upd col w.heap.size 6) [w.heap.size] :=
  h.keep ((Kept.refl [] w).alloc o) (fun b hb => by cases hb) (fun b hb _ => by rw [Zb.upd_old (by omega)]) (fun b hb => by
    simp at hb
    subst hb
    refine ⟨by simp, ?_⟩
    unfold Zb.upd
    simp)
end
end Go.Proofs.Ytfdbpbhihccgbaa
