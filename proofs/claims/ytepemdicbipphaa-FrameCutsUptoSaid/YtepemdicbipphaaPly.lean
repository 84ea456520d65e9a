/- A cutter, the reference's and a book, side by side, told apart by colours: what a step leaves. No program's run. -/
import Derived.Test.YtepemdicbipphaaBkd
import Derived.Test.YtepemdicbipphaaRfb
import Derived.Test.YtepemdicbipphaaLnt
namespace Go.Proofs.Ytepemdicbipphaa
set_option linter.unusedVariables false
open Go.RowKit

/-- What holds of a cutter that has been used right; F: so many bytes at most were fed. -/
def Gd (st : CS) (F : Nat) : Prop := st.Ok ∧ st.taken + st.hand.length ≤ st.fed ∧ st.fed ≤ F
theorem CS.feed_facts : ∀ (l : List UInt8) (st : CS), st.Ok → (st.fedS l).Ok ∧ (st.fedS l).hand.length = st.hand.length + st.feedK l ∧ (st.fedS l).taken = st.taken ∧ (st.fedS l).fed = st.fed + st.feedK l ∧ st.feedK l ≤ l.length
  | [], st, ok => by
    obtain ⟨a, b⟩ := CS.stop_bad ok [] (Or.inr (Or.inr rfl))
    rw [a, b]
    exact ⟨ok, rfl, rfl, rfl, Nat.le_refl _⟩
  | x :: r, st, ok => by
    by_cases hs : st.dead = true ∨ st.whole = true
    · obtain ⟨a, b⟩ := CS.stop_bad ok (x :: r) (hs.imp id Or.inl)
      rw [a, b]
      exact ⟨ok, rfl, rfl, rfl, Nat.zero_le _⟩
    · have hd : st.dead = false := by
        cases h : st.dead
        · rfl
        · exact absurd (Or.inl h) hs
      have hw : st.whole = false := by
        cases h : st.whole
        · rfl
        · exact absurd (Or.inr h) hs
      obtain ⟨a, b⟩ := CS.feed_byte ok hd hw x r
      obtain ⟨p1, p2, p3, p4, p5⟩ := CS.feed_facts r (st.byte x) (ok.byte hd hw x)
      rw [a, b]
      have h1 : (st.byte x).hand.length = st.hand.length + 1 := by show (st.hand ++ [x]).length = _; simp
      have h2 : (st.byte x).fed = st.fed + 1 := rfl
      refine ⟨p1, by omega, p3, by omega, ?_⟩
      rw [List.length_cons]
      omega
theorem Gd.feed {st : CS} {F : Nat} (h : Gd st F) (l : List UInt8) : Gd (st.fedS l) (F + l.length) := by
  obtain ⟨p1, p2, p3, p4, p5⟩ := CS.feed_facts l st h.1
  have := h.2.1
  have := h.2.2
  exact ⟨p1, by omega, by omega⟩
theorem Gd.next {st : CS} {F : Nat} (h : Gd st F) : Gd st.next F := by
  refine ⟨h.1.next, ?_, ?_⟩
  · unfold CS.next
    split
    · rename_i hw
      have := (CS.whole_iff h.1).1 hw
      have := h.2.1
      show st.taken + 1 + 0 ≤ st.fed
      omega
    · exact h.2.1
  · unfold CS.next
    split
    · exact h.2.2
    · exact h.2.2
theorem Gd.limit {st : CS} {F : Nat} (h : Gd st F) (n : Nat) : Gd (Cut.CS.limit st n) F := by
  unfold Cut.CS.limit
  split
  · rename_i hl
    have := of_decide_eq_true hl
    exact ⟨⟨this.1, this.2, h.1.live, h.1.died⟩, h.2.1, h.2.2⟩
  · exact h
theorem Gd.more {st : CS} {F G : Nat} (h : Gd st F) (hg : F ≤ G) : Gd st G := ⟨h.1, h.2.1, Nat.le_trans h.2.2 hg⟩

def newc (col : Nat → Nat) (n c : Nat) : Nat → Nat := fun b => if b < n then col b else c
theorem newc_old {col : Nat → Nat} {n c b : Nat} (h : b < n) : newc col n c b = col b := by unfold newc; rw [if_pos h]
theorem newc_new {col : Nat → Nat} {n c b : Nat} (h : n ≤ b) : newc col n c b = c := by unfold newc; rw [if_neg (by omega)]

/-- The cutter, of colour a, the reference's, of colour a + 1, and the book. -/
structure Pl (w : World) (k : Nat) (col : Nat → Nat) (N p q : Nat) (S R : List Nat) (st sr : CS) (a : Nat) : Prop where
  bk : Bkd w k col N
  ct : Ct w p S st
  rf : Rf w q R sr
  sc : ∀ b ∈ S, col b = a
  rc : ∀ b ∈ R, col b = a + 1
  ha : 8 ≤ a
section
variable {w w' w1 : World} {k N p q a : Nat} {col col' : Nat → Nat} {S R S' R' T : List Nat} {st sr st' sr' : CS}
theorem Fr.side {w2 : World} (h : Fr w col w1 col' a) (K : Kept T w1 w2) (hT : ∀ b ∈ T, w.heap.size ≤ b) : Fr w col w2 col' a := by
  obtain ⟨S, k, hS⟩ := h.kept
  refine ⟨⟨S ++ T, (k.mono (fun i hi => Or.inl (List.mem_append_left _ hi))).trans K (fun i hi => Or.inl (List.mem_append_right _ hi)), fun b hb hlt => ?_⟩, h.same⟩
  rcases List.mem_append.1 hb with e | e
  · exact hS b e hlt
  · have := hT b e; omega
/-- New blocks, of colour 7, and nothing else. -/
theorem Pl.fresh (h : Pl w k col N p q S R st sr a) (K : Kept [] w w') : Pl w' k (newc col w.heap.size 7) N p q S R st sr a ∧ Fr w col w' (newc col w.heap.size 7) a :=
  ⟨⟨h.bk.kept K (fun b hb => by cases hb) (fun b hb => newc_old hb), h.ct.kept K (fun _ _ hm => by cases hm), h.rf.kept K (fun _ _ hm => by cases hm), fun b hb => by rw [newc_old (h.ct.lt b hb)]; exact h.sc b hb, fun b hb => by rw [newc_old (h.rf.lt b hb)]; exact h.rc b hb, h.ha⟩, ⟨[], K, fun b hb => by cases hb⟩, fun b hb _ => newc_old hb⟩
theorem Pl.pure (h : Pl w k col N p q S R st sr a) (K : Kept [] w w') : Pl w' k col N p q S R st sr a :=
  ⟨h.bk.kept K (fun b hb => by cases hb) (fun b hb => rfl), h.ct.kept K (fun _ _ hm => by cases hm), h.rf.kept K (fun _ _ hm => by cases hm), h.sc, h.rc, h.ha⟩
/-- Blocks of colour 7 are written over. -/
theorem Pl.side (h : Pl w k col N p q S R st sr a) (K : Kept T w w') (hT : ∀ b ∈ T, col b = 7) : Pl w' k col N p q S R st sr a := by
  have ha := h.ha
  exact ⟨h.bk.kept K (fun b hb _ => by rw [hT b hb]; decide) (fun b hb => rfl), h.ct.kept K (fun b hb hm => by have := hT b hm; have := h.sc b hb; omega), h.rf.kept K (fun b hb hm => by have := hT b hm; have := h.rc b hb; omega), h.sc, h.rc, h.ha⟩
/-- The cutter has been used. -/
theorem Pl.cut (h : Pl w k col N p q S R st sr a) (K : Kept S w w') (c : Ct w' p S' st') (s : ∀ i ∈ S', i ∈ S ∨ w.heap.size ≤ i) : Pl w' k (newc col w.heap.size a) N p q S' R st' sr a ∧ Fr w col w' (newc col w.heap.size a) a := by
  have ha := h.ha
  refine ⟨⟨h.bk.kept K (fun b hb _ => by rw [h.sc b hb]; omega) (fun b hb => newc_old hb), c, h.rf.kept K (fun b hb hm => by have := h.sc b hm; have := h.rc b hb; omega), fun b hb => ?_, fun b hb => by rw [newc_old (h.rf.lt b hb)]; exact h.rc b hb, ha⟩, ⟨S, K, fun b hb _ => Or.inr (Or.inl (h.sc b hb))⟩, fun b hb _ => newc_old hb⟩
  rcases s b hb with e | e
  · rw [newc_old (h.ct.lt b e)]; exact h.sc b e
  · exact newc_new e
/-- .. and has no new block: what is new is of colour 7. -/
theorem Pl.cut7 (h : Pl w k col N p q S R st sr a) (K : Kept S w w') (c : Ct w' p S' st') (s : ∀ i ∈ S', i ∈ S) : Pl w' k (newc col w.heap.size 7) N p q S' R st' sr a ∧ Fr w col w' (newc col w.heap.size 7) a := by
  have ha := h.ha
  exact ⟨⟨h.bk.kept K (fun b hb _ => by rw [h.sc b hb]; omega) (fun b hb => newc_old hb), c, h.rf.kept K (fun b hb hm => by have := h.sc b hm; have := h.rc b hb; omega), fun b hb => by rw [newc_old (h.ct.lt b (s b hb))]; exact h.sc b (s b hb), fun b hb => by rw [newc_old (h.rf.lt b hb)]; exact h.rc b hb, ha⟩, ⟨S, K, fun b hb _ => Or.inr (Or.inl (h.sc b hb))⟩, fun b hb _ => newc_old hb⟩
/-- The reference's has been used. -/
theorem Pl.ref (h : Pl w k col N p q S R st sr a) (K : Kept R w w') (c : Rf w' q R' sr') (s : ∀ i ∈ R', i ∈ R ∨ w.heap.size ≤ i) : Pl w' k (newc col w.heap.size (a + 1)) N p q S R' st sr' a ∧ Fr w col w' (newc col w.heap.size (a + 1)) a := by
  have ha := h.ha
  refine ⟨⟨h.bk.kept K (fun b hb _ => by rw [h.rc b hb]; omega) (fun b hb => newc_old hb), h.ct.kept K (fun b hb hm => by have := h.rc b hm; have := h.sc b hb; omega), c, fun b hb => by rw [newc_old (h.ct.lt b hb)]; exact h.sc b hb, fun b hb => ?_, ha⟩, ⟨R, K, fun b hb _ => Or.inr (Or.inr (h.rc b hb))⟩, fun b hb _ => newc_old hb⟩
  rcases s b hb with e | e
  · rw [newc_old (h.rf.lt b e)]; exact h.rc b e
  · exact newc_new e
theorem Pl.ref7 (h : Pl w k col N p q S R st sr a) (K : Kept R w w') (c : Rf w' q R' sr') (s : ∀ i ∈ R', i ∈ R) : Pl w' k (newc col w.heap.size 7) N p q S R' st sr' a ∧ Fr w col w' (newc col w.heap.size 7) a := by
  have ha := h.ha
  exact ⟨⟨h.bk.kept K (fun b hb _ => by rw [h.rc b hb]; omega) (fun b hb => newc_old hb), h.ct.kept K (fun b hb hm => by have := h.rc b hm; have := h.sc b hb; omega), c, fun b hb => by rw [newc_old (h.ct.lt b hb)]; exact h.sc b hb, fun b hb => by rw [newc_old (h.rf.lt b (s b hb))]; exact h.rc b (s b hb), ha⟩, ⟨R, K, fun b hb _ => Or.inr (Or.inr (h.rc b hb))⟩, fun b hb _ => newc_old hb⟩
/-- The book has been used. -/
theorem Pl.book {N' : Nat} (h : Pl w k col N p q S R st sr a) (b' : Bkd w' k col' N') (K : ∃ S, Kept S w w' ∧ ∀ b ∈ S, b < w.heap.size → col b ≤ 6) (hc : ∀ b, b < w.heap.size → 8 ≤ col b → col' b = col b) : Pl w' k col' N' p q S R st sr a := by
  have ha := h.ha
  obtain ⟨S0, k0, h0⟩ := K
  refine ⟨b', h.ct.kept k0 (fun b hb hm => ?_), h.rf.kept k0 (fun b hb hm => ?_), fun b hb => ?_, fun b hb => ?_, ha⟩
  · have := h0 b hm (h.ct.lt b hb); have := h.sc b hb; omega
  · have := h0 b hm (h.rf.lt b hb); have := h.rc b hb; omega
  · rw [hc b (h.ct.lt b hb) (by rw [h.sc b hb]; exact ha)]; exact h.sc b hb
  · rw [hc b (h.rf.lt b hb) (by rw [h.rc b hb]; omega)]; exact h.rc b hb
end
/-- What a step of both leaves. -/
def PlOut (w : World) (k : Nat) (col : Nat → Nat) (N p q : Nat) (st : CS) (a : Nat) (w' : World) : Prop := ∃ S' R' col', Hid (Pl w' k col' N p q S' R' st st a) ∧ Hid (Fr w col w' col' a)
theorem PlOut.after {w w1 w2 : World} {k N p q a : Nat} {col col1 : Nat → Nat} {st : CS} (f : Fr w col w1 col1 a) (h : PlOut w1 k col1 N p q st a w2) : PlOut w k col N p q st a w2 := by
  obtain ⟨S, R, c, h1, h2⟩ := h
  exact ⟨S, R, c, h1, f.trans h2.out⟩
end Go.Proofs.Ytepemdicbipphaa
