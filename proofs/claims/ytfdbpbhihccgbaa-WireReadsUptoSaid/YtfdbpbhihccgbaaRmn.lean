/- Readers, the reference's and a book, side by side, under a hand: what holds between two steps of a script. No program's run. -/
import Derived.Test.YtfdbpbhihccgbaaRtl
import Derived.Test.YtfdbpbhihccgbaaWmn
namespace Go.Proofs.Ytfdbpbhihccgbaa
set_option linter.unusedVariables false
open Go.RowKit

theorem info_rp : (Try.prog.info? 55).map (fun i => (i.zero, i.size, i.bytes)) = some (some (.pointer none), 1, 8) := by kernel_rfl
theorem info_qp : (Try.prog.info? 58).map (fun i => (i.zero, i.size, i.bytes)) = some (some (.pointer none), 1, 8) := by kernel_rfl

/-- The cells of a block of three. -/
theorem three {w : World} {p : Nat} {a b c : Value} {t : TypeId} (h : w.heap[p]? = some (.cells #[a, b, c] t (0, 0))) :
    w.cell? ⟨p, 0, none⟩ = some a ∧ w.cell? ⟨p, 1, none⟩ = some b ∧ w.cell? ⟨p, 2, none⟩ = some c ∧ (∀ i, w.frozen? ⟨p, i, none⟩ = false) := by
  refine ⟨?_, ?_, ?_, fun i => ?_⟩
  · rw [cell_of_row w p 0 _ t (0, 0) h]; rfl
  · rw [cell_of_row w p 1 _ t (0, 0) h]; rfl
  · rw [cell_of_row w p 2 _ t (0, 0) h]; rfl
  · simp [World.frozen?, h]

/-- n readers of both, under a hand at block g, with a book at block k; c and d of them lie in its rows; all blocks lie below z. Colours: 5 the hand and its rows, 6 the book's, 7 what nobody turns, 8 + i the i-th reader's own. -/
structure Rmn (w0 w : World) (z g k : Nat) (cv dv : Value) (n c d : Nat) (p q : Nat → Nat) (T U : Nat → List Nat) (st : Nat → RS) (col : Nat → Nat) (B : List Nat) : Prop where
  zle : z ≤ w.heap.size
  two : ∀ i, i < n → Pr w (p i) (q i) (T i) (U i) (st i)
  sc : ∀ i, i < n → (p i < z ∧ col (p i) = 8 + i) ∧ (q i < z ∧ col (q i) = 8 + i)
  data : ∀ i, i < n → ∀ b ∈ T i ++ U i, b < z ∧ col b = 7
  fine : ∀ i, i < n → (st i).Fine
  hand : w.heap[g]? = some (.cells #[cv, dv, .pointer (some ⟨k, 0, none⟩)] 53 (0, 0))
  gc : g < z ∧ col g = 5
  g0 : w0.heap.size ≤ g
  crow : w.ownsRow w0.heap.size 55 1 cv c (ptrs p c)
  drow : w.ownsRow w0.heap.size 58 1 dv d (ptrs q d)
  cc : ∀ b, cv.ownBlock = some b → b < z ∧ col b = 5
  dc : ∀ b, dv.ownBlock = some b → b < z ∧ col b = 5
  kept : Kept [] w0 w
  old : ∀ b, b < w0.heap.size → b < z ∧ col b = 7
  bc : ∀ b ∈ B, b < z ∧ col b = 6
section
variable {w0 w w' : World} {z g k : Nat} {cv dv : Value} {n c d : Nat} {p q : Nat → Nat} {T U : Nat → List Nat} {st : Nat → RS} {col col' : Nat → Nat} {B B' : List Nat}
theorem Rmn.plt2 (h : Rmn w0 w z g k cv dv n c d p q T U st col B) {i : Nat} (hi : i < n) : p i < w.heap.size ∧ q i < w.heap.size := ⟨(h.two i hi).a.lt, (h.two i hi).b.lt⟩
theorem Rmn.up (h : Rmn w0 w z g k cv dv n c d p q T U st col B) : Rmn w0 w w.heap.size g k cv dv n c d p q T U st col B := by
  have hz := h.zle
  have f : ∀ {b x : Nat}, b < z ∧ col b = x → b < w.heap.size ∧ col b = x := fun h => ⟨Nat.lt_of_lt_of_le h.1 hz, h.2⟩
  exact ⟨Nat.le_refl _, h.two, fun i hi => ⟨f (h.sc i hi).1, f (h.sc i hi).2⟩, fun i hi b hb => f (h.data i hi b hb), h.fine, h.hand, f h.gc, h.g0, h.crow, h.drow, fun b hb => f (h.cc b hb), fun b hb => f (h.dc b hb), h.kept, fun b hb => f (h.old b hb), fun b hb => f (h.bc b hb)⟩
theorem Rmn.recol (h : Rmn w0 w z g k cv dv n c d p q T U st col B) (hc : ∀ b, b < z → col' b = col b) : Rmn w0 w z g k cv dv n c d p q T U st col' B := by
  have f : ∀ {b x : Nat}, b < z ∧ col b = x → b < z ∧ col' b = x := fun h => ⟨h.1, (hc _ h.1).trans h.2⟩
  exact ⟨h.zle, h.two, fun i hi => ⟨f (h.sc i hi).1, f (h.sc i hi).2⟩, fun i hi b hb => f (h.data i hi b hb), h.fine, h.hand, f h.gc, h.g0, h.crow, h.drow, fun b hb => f (h.cc b hb), fun b hb => f (h.dc b hb), h.kept, fun b hb => f (h.old b hb), fun b hb => f (h.bc b hb)⟩
/-- What turned was of colour 6, or new. -/
theorem Rmn.keep {S : List Nat} (h : Rmn w0 w z g k cv dv n c d p q T U st col B) (K : Kept S w w') (hS : ∀ b ∈ S, b < z → col b = 6) (hB : ∀ b ∈ B', b < z ∧ col b = 6) : Rmn w0 w' z g k cv dv n c d p q T U st col B' := by
  have off : ∀ b, b < z → col b ≠ 6 → b ∉ S := fun b h1 h2 hm => h2 (hS b hm h1)
  have gc := h.gc
  refine ⟨Nat.le_trans h.zle K.size, fun i hi => ?_, h.sc, h.data, h.fine, ?_, gc, h.g0, Zb.ownsRow_kept h.crow K (fun b hb => ?_), Zb.ownsRow_kept h.drow K (fun b hb => ?_), h.cc, h.dc, h.kept.trans K (fun b hb => ?_), h.old, hB⟩
  · have hs := h.sc i hi
    exact (h.two i hi).kept K (off _ hs.1.1 (by omega)) (off _ hs.2.1 (by omega)) (fun b hb => off b (h.data i hi b hb).1 (by have := h.data i hi b hb; omega))
  · rw [K.block g (block_lt h.hand) (off g gc.1 (by omega))]; exact h.hand
  · exact off b (h.cc b hb).1 (by have := h.cc b hb; omega)
  · exact off b (h.dc b hb).1 (by have := h.dc b hb; omega)
  · refine Or.inr (Nat.le_of_not_lt fun hlt => ?_)
    have := h.old b hlt
    exact off b this.1 (by omega) hb
theorem Rmn.pure (h : Rmn w0 w z g k cv dv n c d p q T U st col B) (K : Kept [] w w') : Rmn w0 w' z g k cv dv n c d p q T U st col B := h.keep K (fun b hb => by cases hb) h.bc
/-- The book has been used; v: what it may have taken. -/
theorem Rmn.book {m : Nat} {v : Value} (h : Rmn w0 w z g k cv dv n c d p q T U st col B) (hv : ∀ b, v.ownBlock = some b → z ≤ b) (o : BklOut w k B m v w') : ∃ B' col' z', Rmn w0 w' z' g k cv dv n c d p q T U st col' B' ∧ Bkl w' k B' m := by
  obtain ⟨B', b', K, s⟩ := o
  have hl := b'.out.lt
  have h1 : Rmn w0 w' z g k cv dv n c d p q T U st col [] := h.keep K.out (fun b hb hlt => (h.bc b hb).2) (fun b hb => by cases hb)
  have hzl := h.zle
  have h2 := h1.recol (col' := fun b => if b < z then col b else 6) (fun b hb => if_pos hb)
  refine ⟨B', _, _, { h2.up with bc := fun b hb => ⟨hl b hb, ?_⟩ }, b'.out⟩
  by_cases hlt : b < z
  · simp only [if_pos hlt]
    rcases s.out b hb with x | x | x
    · exact (h.bc b x).2
    · have := hv b x; omega
    · omega
  · simp only [if_neg hlt]
/-- One pair has been used. -/
theorem Rmn.step {i : Nat} {s' : RS} (h : Rmn w0 w z g k cv dv n c d p q T U st col B) (hi : i < n) (f : s'.Fine) (P : Pr w' (p i) (q i) (T i) (U i) s') (K : Kept [p i, q i] w w') : Rmn w0 w' z g k cv dv n c d p q T U (put1 st i s') col B ∧ ∀ b ∈ B, b ∉ [p i, q i] := by
  have gc := h.gc
  have hs := h.sc i hi
  have off : ∀ b, col b ≠ 8 + i → b ∉ [p i, q i] := fun b h1 hm => by
    have hm2 : b = p i ∨ b = q i := by simpa using hm
    rcases hm2 with rfl | rfl
    · exact h1 hs.1.2
    · exact h1 hs.2.2
  refine ⟨⟨Nat.le_trans h.zle K.size, fun j hj => ?_, h.sc, h.data, fun j hj => ?_, ?_, gc, h.g0, Zb.ownsRow_kept h.crow K (fun b hb => ?_), Zb.ownsRow_kept h.drow K (fun b hb => ?_), h.cc, h.dc, h.kept.trans K (fun b hb => ?_), h.old, h.bc⟩, fun b hb => ?_⟩
  · by_cases e : j = i
    · subst e; rw [put1_at]; exact P
    · rw [put1_ne _ _ e]
      have hsj := h.sc j hj
      exact (h.two j hj).kept K (off _ (by omega)) (off _ (by omega)) (fun b hb => off b (by have := h.data j hj b hb; omega))
  · by_cases e : j = i
    · subst e; rw [put1_at]; exact f
    · rw [put1_ne _ _ e]; exact h.fine j hj
  · rw [K.block g (block_lt h.hand) (off g (by omega))]; exact h.hand
  · exact off b (by have := h.cc b hb; omega)
  · exact off b (by have := h.dc b hb; omega)
  · refine Or.inr (Nat.le_of_not_lt fun hlt => ?_)
    exact off b (by have := h.old b hlt; omega) hb
  · exact off b (by have := h.bc b hb; omega)
/-- A new pair is known. -/
theorem Rmn.reg {r s : Nat} {T' U' : List Nat} {s' : RS} (h : Rmn w0 w z g k cv dv n c d p q T U st col B) (hc : c = n ∨ c = n + 1 ∧ p n = r) (hd : d = n ∨ d = n + 1 ∧ q n = s) (P : Pr w r s T' U' s') (f : s'.Fine)
    (hr : r < z ∧ col r = 8 + n ∨ z ≤ r) (hs : z ≤ s) (hT : ∀ b ∈ T', b < z ∧ col b = 7 ∨ z ≤ b) (hU : ∀ b ∈ U', z ≤ b) :
    ∃ col', Rmn w0 w w.heap.size g k cv dv (n + 1) c d (put1 p n r) (put1 q n s) (put1 T n T') (put1 U n U') (put1 st n s') col' B := by
  have hzl := h.zle
  have h2 := (h.recol (col' := fun b => if b < z then col b else if b = r ∨ b = s then 8 + n else 7) (fun b hb => if_pos hb)).up
  have er : ptrs (put1 p n r) c = ptrs p c := by
    unfold ptrs
    apply List.map_congr_left
    intro i hi
    have := List.mem_range.1 hi
    by_cases e : i = n
    · subst e
      rw [put1_at]
      rcases hc with hc | ⟨_, hc⟩
      · omega
      · rw [hc]
    · rw [put1_ne p r e]
  have es : ptrs (put1 q n s) d = ptrs q d := by
    unfold ptrs
    apply List.map_congr_left
    intro i hi
    have := List.mem_range.1 hi
    by_cases e : i = n
    · subst e
      rw [put1_at]
      rcases hd with hd | ⟨_, hd⟩
      · omega
      · rw [hd]
    · rw [put1_ne q s e]
  refine ⟨_, h2.zle, fun j hj => ?_, fun j hj => ?_, fun j hj b hb => ?_, fun j hj => ?_, h2.hand, h2.gc, h2.g0, by rw [er]; exact h2.crow, by rw [es]; exact h2.drow, h2.cc, h2.dc, h2.kept, h2.old, h2.bc⟩
  · by_cases e : j = n
    · subst e; rw [put1_at, put1_at, put1_at, put1_at, put1_at]; exact P
    · rw [put1_ne _ _ e, put1_ne _ _ e, put1_ne _ _ e, put1_ne _ _ e, put1_ne _ _ e]; exact h2.two j (by omega)
  · by_cases e : j = n
    · subst e
      rw [put1_at, put1_at]
      refine ⟨⟨P.a.lt, ?_⟩, P.b.lt, ?_⟩
      · rcases hr with hr | hr
        · simp only [if_pos hr.1]; exact hr.2
        · simp only [if_neg (Nat.not_lt.2 hr)]; simp
      · simp only [if_neg (Nat.not_lt.2 hs)]; simp
    · rw [put1_ne _ _ e, put1_ne _ _ e]; exact h2.sc j (by omega)
  · by_cases e : j = n
    · subst e
      rw [put1_at, put1_at] at hb
      refine ⟨P.lt b hb, ?_⟩
      have hne : b ≠ r ∧ b ≠ s := by
        rcases List.mem_append.1 hb with x | x
        · exact ⟨fun e => P.rT (e ▸ x), fun e => P.qT (e ▸ x)⟩
        · exact ⟨fun e => P.rU (e ▸ x), fun e => P.qU (e ▸ x)⟩
      have h3 : ¬ (b = r ∨ b = s) := by omega
      rcases List.mem_append.1 hb with x | x
      · rcases hT b x with y | y
        · simp only [if_pos y.1]; exact y.2
        · simp only [if_neg (Nat.not_lt.2 y), if_neg h3]
      · simp only [if_neg (Nat.not_lt.2 (hU b x)), if_neg h3]
    · rw [put1_ne _ _ e, put1_ne _ _ e] at hb; exact h2.data j (by omega) b hb
  · by_cases e : j = n
    · subst e; rw [put1_at]; exact f
    · rw [put1_ne _ _ e]; exact h2.fine j (by omega)
/-- The hand, while a row has grown and is not stored yet. -/
theorem Rmn.handc {W w4 : World} (h : Rmn w0 w z g k cv dv n c d p q T U st col B) (kW : Kept [] w W) (g4 : W.grownBy w4 cv.ownBlock) : w4.heap[g]? = some (.cells #[cv, dv, .pointer (some ⟨k, 0, none⟩)] 53 (0, 0)) := by
  have K4 : Kept cv.ownBlock.toList W w4 := (Kept.refl _ W).grown g4 (fun k e => Or.inl (by rw [e]; simp))
  have hgW : W.heap[g]? = some (.cells #[cv, dv, .pointer (some ⟨k, 0, none⟩)] 53 (0, 0)) := by rw [kW.block g (block_lt h.hand) (by simp)]; exact h.hand
  have hCW : W.ownsRow w0.heap.size 55 1 cv c (ptrs p c) := Zb.ownsRow_kept h.crow kW (fun b _ hm => by cases hm)
  rw [K4.block g (block_lt hgW) (fun hm => Zb.own_neB hCW hgW (by decide) g (by simpa using hm) rfl)]
  exact hgW
theorem Rmn.handd {W w4 : World} (h : Rmn w0 w z g k cv dv n c d p q T U st col B) (kW : Kept [] w W) (g4 : W.grownBy w4 dv.ownBlock) : w4.heap[g]? = some (.cells #[cv, dv, .pointer (some ⟨k, 0, none⟩)] 53 (0, 0)) := by
  have K4 : Kept dv.ownBlock.toList W w4 := (Kept.refl _ W).grown g4 (fun k e => Or.inl (by rw [e]; simp))
  have hgW : W.heap[g]? = some (.cells #[cv, dv, .pointer (some ⟨k, 0, none⟩)] 53 (0, 0)) := by rw [kW.block g (block_lt h.hand) (by simp)]; exact h.hand
  have hDW : W.ownsRow w0.heap.size 58 1 dv d (ptrs q d) := Zb.ownsRow_kept h.drow kW (fun b _ hm => by cases hm)
  rw [K4.block g (block_lt hgW) (fun hm => Zb.own_neB hDW hgW (by decide) g (by simpa using hm) rfl)]
  exact hgW
/-- The code's row grows. -/
theorem Rmn.growc {W w4 : World} {r : Nat} {cv' : Value} (h : Rmn w0 w z g k cv dv n c d p q T U st col B) (hn : ∀ i, i < n → put1 p c r i = p i) (kW : Kept [] w W) (o4 : w4.ownsRow w0.heap.size 55 1 cv' (c + 1) (ptrs p c ++ [.pointer (some ⟨r, 0, none⟩)])) (g4 : W.grownBy w4 cv.ownBlock) (a4 : cv'.ownBlock = cv.ownBlock ∨ cv'.ownBlock = some W.heap.size) :
    ∃ col' S, Rmn w0 (w4.setCell ⟨g, 0, none⟩ cv') w4.heap.size g k cv' dv n (c + 1) d (put1 p c r) q T U st col' B ∧ (∀ b, b < w.heap.size → col' b = col b) ∧ Kept S w (w4.setCell ⟨g, 0, none⟩ cv') ∧ ∀ b ∈ S, b < z ∧ col b = 5 := by
  have z0 := h.zle
  have zW := kW.size
  have K4 : Kept cv.ownBlock.toList W w4 := (Kept.refl _ W).grown g4 (fun k e => Or.inl (by rw [e]; simp))
  have z4 := K4.size
  have gc := h.gc
  obtain ⟨w5, hw5⟩ : ∃ w5, w5 = w4.setCell ⟨g, 0, none⟩ cv' := ⟨_, rfl⟩
  have K5 : Kept [g] w4 w5 := by rw [hw5]; exact (Kept.refl _ _).setCell (Or.inl (by simp)) _
  have e5 : w5.heap.size = w4.heap.size := by rw [hw5]; simp [World.setCell]
  have hnil : ∀ (x : World) (S : List Nat), ∀ i ∈ ([] : List Nat), i ∈ S ∨ x.heap.size ≤ i := fun x S i hi => by cases hi
  have KA : Kept (g :: cv.ownBlock.toList) w w5 := (((kW.mono (hnil w (g :: cv.ownBlock.toList))).trans K4 (fun i hi => Or.inl (List.mem_cons_of_mem _ hi))).trans K5 (fun i hi => Or.inl (by simp at hi; simp [hi])))
  have inn : ∀ b, b ∈ g :: cv.ownBlock.toList → b < z ∧ col b = 5 := fun b hb => by
    rcases List.mem_cons.1 hb with rfl | e
    · exact gc
    · exact h.cc b (by simpa using e)
  have off : ∀ b, col b ≠ 5 → b ∉ g :: cv.ownBlock.toList := fun b h1 hm => h1 (inn b hm).2
  have hgW : W.heap[g]? = some (.cells #[cv, dv, .pointer (some ⟨k, 0, none⟩)] 53 (0, 0)) := by rw [kW.block g (block_lt h.hand) (by simp)]; exact h.hand
  have hCW : W.ownsRow w0.heap.size 55 1 cv c (ptrs p c) := Zb.ownsRow_kept h.crow kW (fun b _ hm => by cases hm)
  have hDW : W.ownsRow w0.heap.size 58 1 dv d (ptrs q d) := Zb.ownsRow_kept h.drow kW (fun b _ hm => by cases hm)
  have hg4 : w4.heap[g]? = some (.cells #[cv, dv, .pointer (some ⟨k, 0, none⟩)] 53 (0, 0)) := by
    rw [K4.block g (block_lt hgW) (fun hm => Zb.own_neB hCW hgW (by decide) g (by simpa using hm) rfl)]; exact hgW
  have hD4 := row_beside hDW hCW (by decide) g4
  have f : ∀ {b x : Nat}, b < z ∧ col b = x → b < w4.heap.size ∧ (if b < w.heap.size then col b else 5) = x := fun h => ⟨by omega, by rw [if_pos (by omega)]; exact h.2⟩
  refine ⟨fun b => if b < w.heap.size then col b else 5, g :: cv.ownBlock.toList, ?_, fun b hb => if_pos hb, by rw [← hw5]; exact KA, inn⟩
  rw [← hw5]
  refine ⟨by omega, fun i hi => ?_, fun i hi => ?_, fun i hi b hb => f (h.data i hi b hb), h.fine, ?_, f gc, h.g0, ?_, ?_, fun b hb => ?_, fun b hb => f (h.dc b hb), h.kept.trans KA (fun b hb => ?_), fun b hb => f (h.old b hb), fun b hb => f (h.bc b hb)⟩
  · have hs := h.sc i hi
    rw [hn i hi]
    exact (h.two i hi).kept KA (off _ (by omega)) (off _ (by omega)) (fun b hb => off b (by have := h.data i hi b hb; omega))
  · rw [hn i hi]
    exact ⟨f (h.sc i hi).1, f (h.sc i hi).2⟩
  · rw [hw5]
    exact heap_set (i := 0) cv' hg4
  · rw [← ptrs_push]
    exact Zb.ownsRow_kept o4 K5 (fun b hb hm => Zb.own_neB o4 hg4 (by decide) b hb (by simpa using hm))
  · exact Zb.ownsRow_kept hD4 K5 (fun b hb hm => Zb.own_neB hD4 hg4 (by decide) b hb (by simpa using hm))
  · rcases a4 with e | e
    · exact f (h.cc b (by rw [← e]; exact hb))
    · rw [hb] at e
      have e2 := Option.some.inj e
      have := (o4.lt b hb).2
      exact ⟨this, by rw [if_neg (by omega)]⟩
  · refine Or.inr (Nat.le_of_not_lt fun hlt => ?_)
    have := h.old b hlt
    have := inn b hb
    omega
/-- The reference's row grows. -/
theorem Rmn.growd {W w4 : World} {s : Nat} {dv' : Value} (h : Rmn w0 w z g k cv dv n c d p q T U st col B) (hn : ∀ i, i < n → put1 q d s i = q i) (kW : Kept [] w W) (o4 : w4.ownsRow w0.heap.size 58 1 dv' (d + 1) (ptrs q d ++ [.pointer (some ⟨s, 0, none⟩)])) (g4 : W.grownBy w4 dv.ownBlock) (a4 : dv'.ownBlock = dv.ownBlock ∨ dv'.ownBlock = some W.heap.size) :
    ∃ col' S, Rmn w0 (w4.setCell ⟨g, 1, none⟩ dv') w4.heap.size g k cv dv' n c (d + 1) p (put1 q d s) T U st col' B ∧ (∀ b, b < w.heap.size → col' b = col b) ∧ Kept S w (w4.setCell ⟨g, 1, none⟩ dv') ∧ ∀ b ∈ S, b < z ∧ col b = 5 := by
  have z0 := h.zle
  have zW := kW.size
  have K4 : Kept dv.ownBlock.toList W w4 := (Kept.refl _ W).grown g4 (fun k e => Or.inl (by rw [e]; simp))
  have z4 := K4.size
  have gc := h.gc
  obtain ⟨w5, hw5⟩ : ∃ w5, w5 = w4.setCell ⟨g, 1, none⟩ dv' := ⟨_, rfl⟩
  have K5 : Kept [g] w4 w5 := by rw [hw5]; exact (Kept.refl _ _).setCell (Or.inl (by simp)) _
  have e5 : w5.heap.size = w4.heap.size := by rw [hw5]; simp [World.setCell]
  have hnil : ∀ (x : World) (S : List Nat), ∀ i ∈ ([] : List Nat), i ∈ S ∨ x.heap.size ≤ i := fun x S i hi => by cases hi
  have KA : Kept (g :: dv.ownBlock.toList) w w5 := (((kW.mono (hnil w (g :: dv.ownBlock.toList))).trans K4 (fun i hi => Or.inl (List.mem_cons_of_mem _ hi))).trans K5 (fun i hi => Or.inl (by simp at hi; simp [hi])))
  have inn : ∀ b, b ∈ g :: dv.ownBlock.toList → b < z ∧ col b = 5 := fun b hb => by
    rcases List.mem_cons.1 hb with rfl | e
    · exact gc
    · exact h.dc b (by simpa using e)
  have off : ∀ b, col b ≠ 5 → b ∉ g :: dv.ownBlock.toList := fun b h1 hm => h1 (inn b hm).2
  have hgW : W.heap[g]? = some (.cells #[cv, dv, .pointer (some ⟨k, 0, none⟩)] 53 (0, 0)) := by rw [kW.block g (block_lt h.hand) (by simp)]; exact h.hand
  have hCW : W.ownsRow w0.heap.size 55 1 cv c (ptrs p c) := Zb.ownsRow_kept h.crow kW (fun b _ hm => by cases hm)
  have hDW : W.ownsRow w0.heap.size 58 1 dv d (ptrs q d) := Zb.ownsRow_kept h.drow kW (fun b _ hm => by cases hm)
  have hg4 : w4.heap[g]? = some (.cells #[cv, dv, .pointer (some ⟨k, 0, none⟩)] 53 (0, 0)) := by
    rw [K4.block g (block_lt hgW) (fun hm => Zb.own_neB hDW hgW (by decide) g (by simpa using hm) rfl)]; exact hgW
  have hC4 := row_beside hCW hDW (by decide) g4
  have f : ∀ {b x : Nat}, b < z ∧ col b = x → b < w4.heap.size ∧ (if b < w.heap.size then col b else 5) = x := fun h => ⟨by omega, by rw [if_pos (by omega)]; exact h.2⟩
  refine ⟨fun b => if b < w.heap.size then col b else 5, g :: dv.ownBlock.toList, ?_, fun b hb => if_pos hb, by rw [← hw5]; exact KA, inn⟩
  rw [← hw5]
  refine ⟨by omega, fun i hi => ?_, fun i hi => ?_, fun i hi b hb => f (h.data i hi b hb), h.fine, ?_, f gc, h.g0, ?_, ?_, fun b hb => f (h.cc b hb), fun b hb => ?_, h.kept.trans KA (fun b hb => ?_), fun b hb => f (h.old b hb), fun b hb => f (h.bc b hb)⟩
  · have hs := h.sc i hi
    rw [hn i hi]
    exact (h.two i hi).kept KA (off _ (by omega)) (off _ (by omega)) (fun b hb => off b (by have := h.data i hi b hb; omega))
  · rw [hn i hi]
    exact ⟨f (h.sc i hi).1, f (h.sc i hi).2⟩
  · rw [hw5]
    exact heap_set (i := 1) dv' hg4
  · exact Zb.ownsRow_kept hC4 K5 (fun b hb hm => Zb.own_neB hC4 hg4 (by decide) b hb (by simpa using hm))
  · rw [← ptrs_push]
    exact Zb.ownsRow_kept o4 K5 (fun b hb hm => Zb.own_neB o4 hg4 (by decide) b hb (by simpa using hm))
  · rcases a4 with e | e
    · exact f (h.dc b (by rw [← e]; exact hb))
    · rw [hb] at e
      have e2 := Option.some.inj e
      have := (o4.lt b hb).2
      exact ⟨this, by rw [if_neg (by omega)]⟩
  · refine Or.inr (Nat.le_of_not_lt fun hlt => ?_)
    have := h.old b hlt
    have := inn b hb
    omega
theorem put1_put1 {α : Type} (f : Nat → α) (n : Nat) (x : α) : put1 (put1 f n x) n x = put1 f n x := by
  funext i
  unfold put1
  split <;> rfl
end
end Go.Proofs.Ytfdbpbhihccgbaa
