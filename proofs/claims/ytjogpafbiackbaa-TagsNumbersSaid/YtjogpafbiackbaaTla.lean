/- tags: the law's run as it lies in memory. -/
import Derived.Test.YtjogpafbiackbaaThs
namespace Go.Proofs.Ytjogpafbiackbaa
set_option linter.unusedVariables false
open Go.RowKit Go.Shelf
namespace Tg
open Go.Proofs.Ytjogpafbiackbaa.Mpf Go.PlainAid

def Th.C (x : Th) : List Value := [.int .u16 x.tag, .bool x.fl, .int .i64 x.nm, .bool x.ca, .bool x.de, .bool x.an, .bool x.wr]
def thC (l : List Th) : List Value := l.flatMap Th.C
def iI (z : Int) : Value := .int .i64 z
theorem thC_length : ∀ l, (thC l).length = l.length * 7
  | [] => rfl
  | x :: l => by
    have := thC_length l
    unfold thC at this ⊢
    simp only [List.flatMap_cons, List.length_append, this, List.length_cons]
    show 7 + _ = _
    omega
theorem thC_get : ∀ (l : List Th) (k j : Nat) (x : Th), l[k]? = some x → j < 7 → (thC l)[k * 7 + j]? = x.C[j]?
  | [], k, j, x, h, _ => by simp at h
  | y :: l, 0, j, x, h, hj => by
    simp at h
    subst h
    have e : thC (y :: l) = y.C ++ thC l := rfl
    rw [e, List.getElem?_append_left (by show 0 * 7 + j < 7; omega), Nat.zero_mul, Nat.zero_add]
  | y :: l, k + 1, j, x, h, hj => by
    have := thC_get l k j x (by simpa using h) hj
    have e : thC (y :: l) = y.C ++ thC l := rfl
    have l7 : y.C.length = 7 := rfl
    rw [e, List.getElem?_append_right (by rw [l7]; omega), l7, show (k + 1) * 7 + j - 7 = k * 7 + j by omega]
    exact this
theorem thC_set : ∀ (l : List Th) (k j : Nat) (x x' : Th) (v : Value), l[k]? = some x → j < 7 → x'.C = x.C.set j v → thC (l.set k x') = (thC l).set (k * 7 + j) v
  | [], k, j, x, x', v, h, _, _ => by simp at h
  | y :: l, 0, j, x, x', v, h, hj, hc => by
    simp at h
    subst h
    have e : thC (y :: l) = y.C ++ thC l := rfl
    have l7 : y.C.length = 7 := rfl
    show x'.C ++ thC l = _
    rw [e, List.set_append_left _ _ (by rw [l7]; omega), hc, Nat.zero_mul, Nat.zero_add]
  | y :: l, k + 1, j, x, x', v, h, hj, hc => by
    have := thC_set l k j x x' v (by simpa using h) hj hc
    have e : thC (y :: l) = y.C ++ thC l := rfl
    have l7 : y.C.length = 7 := rfl
    show y.C ++ thC (l.set k x') = _
    rw [e, List.set_append_right _ _ (by rw [l7]; omega), l7, this, show (k + 1) * 7 + j - 7 = k * 7 + j by omega]
theorem thC_snoc (l : List Th) (x : Th) : thC (l ++ [x]) = thC l ++ x.C := by simp [thC]
theorem own_cell {w : World} {base : Nat} {e : TypeId} {size : Nat} {g n c : Nat} {xs : List Value} (h : w.ownsRow base e size (.slice (some ⟨g, 0, none⟩) n c) n xs) {j : Nat} {v : Value} (hj : xs[j]? = some v) : w.cell? ⟨g, j, none⟩ = some v ∧ w.frozen? ⟨g, j, none⟩ = false := by
  rcases h.2 with ⟨hv, -⟩ | ⟨g', cap, cur, hv, hbase, hb, h1, h2, h3, h4⟩
  · cases hv
  · cases hv
    refine ⟨?_, by simp [World.frozen?, hb]⟩
    rw [cell_of_row w g j cur _ (0, 0) hb, ← Array.getElem?_toList]
    rw [← h4, List.getElem?_take] at hj
    split at hj
    · exact hj
    · cases hj
theorem own_set {w : World} {base : Nat} {e : TypeId} {size : Nat} {g n c : Nat} {xs : List Value} (h : w.ownsRow base e size (.slice (some ⟨g, 0, none⟩) n c) n xs) {j : Nat} (hj : j < xs.length) (v : Value) : (w.setCell ⟨g, j, none⟩ v).ownsRow base e size (.slice (some ⟨g, 0, none⟩) n c) n (xs.set j v) := by
  refine ⟨by rw [List.length_set]; exact h.1, ?_⟩
  rcases h.2 with ⟨hv, -⟩ | ⟨g', cap, cur, hv, hbase, hb, h1, h2, h3, h4⟩
  · cases hv
  · cases hv
    refine Or.inr ⟨g, c, cur.setIfInBounds j v, rfl, hbase, heap_set v hb, h1, h2, by simpa using h3, ?_⟩
    rw [Array.toList_setIfInBounds, List.take_set, h4]
theorem own_lt {w : World} {base : Nat} {e : TypeId} {size : Nat} {g n c : Nat} {xs : List Value} (h : w.ownsRow base e size (.slice (some ⟨g, 0, none⟩) n c) n xs) : base ≤ g ∧ ∃ cur, w.heap[g]? = some (.cells cur e (0, 0)) := by
  rcases h.2 with ⟨hv, -⟩ | ⟨g', cap, cur, hv, hbase, hb, h1, h2, h3, h4⟩
  · cases hv
  · cases hv
    exact ⟨hbase, cur, hb⟩
/-- The law's state. -/
structure LS where
  l : List Th
  hs : List Int
  said : Nat
structure LWx (D : Nat) (w : World) (R p gl cl gh ch : Nat) (L : LS) : Prop where
  box : Bx w R 33 #[.pointer (some ⟨p, 0, none⟩), .slice (some ⟨gl, 0, none⟩) L.l.length cl, .slice (some ⟨gh, 0, none⟩) 16 ch, .int .i64 L.said]
  things : w.ownsRow D 39 7 (.slice (some ⟨gl, 0, none⟩) L.l.length cl) L.l.length (thC L.l)
  holds : w.ownsRow D 3 1 (.slice (some ⟨gh, 0, none⟩) 16 ch) 16 (L.hs.map iI)
  hR : D ≤ R
def LW (D : Nat) (w : World) (R p : Nat) (L : LS) : Prop := ∃ gl cl gh ch, LWx D w R p gl cl gh ch L
section
variable {D : Nat} {w : World} {R p gl cl gh ch : Nat} {L : LS}
theorem LWx.ne1 (h : LWx D w R p gl cl gh ch L) : R ≠ gl ∧ R ≠ gh ∧ gl ≠ gh := by
  obtain ⟨h1, cur1, h2⟩ := own_lt h.things
  obtain ⟨h3, cur2, h4⟩ := own_lt h.holds
  exact ⟨Bx.type_ne h.box (show Bx w gl _ cur1 from h2) (by decide), Bx.type_ne h.box (show Bx w gh _ cur2 from h4) (by decide), Bx.type_ne (show Bx w gl _ cur1 from h2) (show Bx w gh _ cur2 from h4) (by decide)⟩
theorem LWx.kept {S : List Nat} {w' : World} (h : LWx D w R p gl cl gh ch L) (k : Kept S w w') (h1 : R ∉ S) (h2 : gl ∉ S) (h3 : gh ∉ S) : LWx D w' R p gl cl gh ch L :=
  ⟨h.box.kept k h1, ownsRow_kept h.things k (fun g hg => by cases hg; exact h2), ownsRow_kept h.holds k (fun g hg => by cases hg; exact h3), h.hR⟩
theorem LWx.kt {Ba : Nat} {w' : World} (h : LWx D w R p gl cl gh ch L) (k : KT Ba w w') : LWx D w' R p gl cl gh ch L :=
  ⟨k.bx h.box (by decide) (by decide), ownsRow_kt h.things k (by decide) (by decide), ownsRow_kt h.holds k (by decide) (by decide), h.hR⟩
theorem LWx.drew (h : LWx D w R p gl cl gh ch L) : LWx D w.drew R p gl cl gh ch L := h.kept (Kept.refl [] w).drew (by simp) (by simp) (by simp)
theorem LWx.lt (h : LWx D w R p gl cl gh ch L) : R < w.heap.size ∧ gl < w.heap.size ∧ gh < w.heap.size := by
  obtain ⟨h1, cur1, h2⟩ := own_lt h.things
  obtain ⟨h3, cur2, h4⟩ := own_lt h.holds
  exact ⟨h.box.lt, block_lt h2, block_lt h4⟩
/-- A thing's fields. -/
theorem LWx.thing (h : LWx D w R p gl cl gh ch L) {k : Nat} {x : Th} (hx : L.l[k]? = some x) :
    w.cell? ⟨gl, k * 7, none⟩ = some (.int .u16 x.tag) ∧ w.cell? ⟨gl, k * 7 + 1, none⟩ = some (.bool x.fl) ∧ w.cell? ⟨gl, k * 7 + 2, none⟩ = some (.int .i64 x.nm) ∧ w.cell? ⟨gl, k * 7 + 3, none⟩ = some (.bool x.ca) ∧ w.cell? ⟨gl, k * 7 + 4, none⟩ = some (.bool x.de) ∧ w.cell? ⟨gl, k * 7 + 5, none⟩ = some (.bool x.an) ∧ w.cell? ⟨gl, k * 7 + 6, none⟩ = some (.bool x.wr) := by
  have f := fun j hj v (hv : x.C[j]? = some v) => (own_cell h.things ((thC_get L.l k j x hx hj).trans hv)).1
  exact ⟨f 0 (by decide) _ rfl, f 1 (by decide) _ rfl, f 2 (by decide) _ rfl, f 3 (by decide) _ rfl, f 4 (by decide) _ rfl, f 5 (by decide) _ rfl, f 6 (by decide) _ rfl⟩
theorem LWx.froz (h : LWx D w R p gl cl gh ch L) {k : Nat} (hk : k < L.l.length) (j : Nat) (hj : j < 7) : w.frozen? ⟨gl, k * 7 + j, none⟩ = false := by
  have hx := List.getElem?_eq_getElem hk
  have e : (thC L.l)[k * 7 + j]? = some (L.l[k].C[j]'(by show j < 7; exact hj)) := by rw [thC_get L.l k j _ hx hj, List.getElem?_eq_getElem]
  exact (own_cell h.things e).2
/-- A thing's field is set. -/
theorem LWx.setf (h : LWx D w R p gl cl gh ch L) {k j : Nat} {x x' : Th} (hx : L.l[k]? = some x) (hj : j < 7) (v : Value) (hv : x'.C = x.C.set j v) : LWx D (w.setCell ⟨gl, k * 7 + j, none⟩ v) R p gl cl gh ch { L with l := L.l.set k x' } := by
  have ne := h.ne1
  have hk := (List.getElem?_eq_some_iff.1 hx).1
  refine ⟨?_, ?_, ownsRow_kept h.holds ((Kept.refl [gl] w).setCell (Or.inl (by simp)) v) (fun g hg => by cases hg; simpa using fun e => ne.2.2 e.symm), h.hR⟩
  · have := h.box.other (a := ⟨gl, k * 7 + j, none⟩) (fun e => ne.1 e.symm) v
    simpa using this
  · have := own_set h.things (j := k * 7 + j) (by rw [thC_length]; omega) v
    rw [← thC_set L.l k j x x' v hx hj hv] at this
    simpa using this
theorem LWx.hold (h : LWx D w R p gl cl gh ch L) {t : Nat} {z : Int} (hz : L.hs[t]? = some z) : w.cell? ⟨gh, t, none⟩ = some (.int .i64 z) ∧ w.frozen? ⟨gh, t, none⟩ = false :=
  own_cell h.holds (by rw [List.getElem?_map, hz]; rfl)
theorem LWx.seth (h : LWx D w R p gl cl gh ch L) {t : Nat} (ht : t < L.hs.length) (z : Int) : LWx D (w.setCell ⟨gh, t, none⟩ (.int .i64 z)) R p gl cl gh ch { L with hs := L.hs.set t z } := by
  have ne := h.ne1
  refine ⟨h.box.other (a := ⟨gh, t, none⟩) (fun e => ne.2.1 e.symm) _, ownsRow_kept h.things ((Kept.refl [gh] w).setCell (Or.inl (by simp)) _) (fun g hg => by cases hg; simpa using ne.2.2), ?_, h.hR⟩
  have := own_set h.holds (j := t) (by rw [List.length_map]; exact ht) (.int .i64 z)
  rw [List.map_set]
  exact this
theorem LWx.sets (h : LWx D w R p gl cl gh ch L) (n : Nat) : LWx D (w.setCell ⟨R, 3, none⟩ (.int .i64 n)) R p gl cl gh ch { L with said := n } := by
  have ne := h.ne1
  exact ⟨h.box.set 3 _, ownsRow_kept h.things ((Kept.refl [R] w).setCell (Or.inl (by simp)) _) (fun g hg => by cases hg; simpa using fun e => ne.1 e.symm), ownsRow_kept h.holds ((Kept.refl [R] w).setCell (Or.inl (by simp)) _) (fun g hg => by cases hg; simpa using fun e => ne.2.1 e.symm), h.hR⟩
/-- What lies below the law's blocks is as it was. -/
structure Lo (D : Nat) (w w' : World) : Prop where
  os : w'.os = w.os
  tape : w'.tape = w.tape
  output : w'.output = w.output
  size : w.heap.size ≤ w'.heap.size
  block : ∀ i, i < D → i < w.heap.size → w'.heap[i]? = w.heap[i]?
theorem Lo.refl (D : Nat) (w : World) : Lo D w w := ⟨rfl, rfl, rfl, Nat.le_refl _, fun _ _ _ => rfl⟩
theorem Lo.trans {a b c : World} (h : Lo D a b) (k : Lo D b c) : Lo D a c := ⟨k.os.trans h.os, k.tape.trans h.tape, k.output.trans h.output, Nat.le_trans h.size k.size, fun i hi hl => (k.block i hi (Nat.lt_of_lt_of_le hl h.size)).trans (h.block i hi hl)⟩
theorem Lo.of_kt {w' : World} (k : KT D w w') : Lo D w w' := ⟨k.os, k.tape, k.output, k.size, fun i hi hl => k.block i hl (Or.inl hi)⟩
theorem Lo.of_kept {S : List Nat} {w' : World} (k : Kept S w w') (hS : ∀ i ∈ S, D ≤ i) : Lo D w w' := ⟨k.os, k.tape, k.output, k.size, fun i hi hl => k.block i hl (fun hm => by have := hS i hm; omega)⟩
/-- The law's run and the table, as they must be. -/
structure Run (D : Nat) (w : World) (R p : Nat) (L : LS) (T : TS) : Prop where
  lw : LW D w R p L
  tb : TB D w p T
  inv : Inv none T L.l.length (fun k => L.l[k]?) (fun t => L.hs[t]?) L.said
  hl : L.hs.length = 16
  few : L.l.length ≤ 305
  fsd : L.said ≤ 50
/-- A law's own step leaves the table alone. -/
theorem TB.own {T : TS} {w' : World} {S : List Nat} (h : TB D w p T) (hl : LWx D w R p gl cl gh ch L) (k : Kept S w w') (hS : ∀ i ∈ S, i = R ∨ i = gl ∨ i = gh ∨ w.heap.size ≤ i) : TB D w' p T :=
  h.keptL k (fun i hi hlt => by
    obtain ⟨-, cur1, h2⟩ := own_lt hl.things
    obtain ⟨-, cur2, h4⟩ := own_lt hl.holds
    rcases hS i hi with rfl | rfl | rfl | q
    · exact ⟨_, _, _, hl.box, by decide, by decide⟩
    · exact ⟨_, _, _, h2, by decide, by decide⟩
    · exact ⟨_, _, _, h4, by decide, by decide⟩
    · omega)
end
end Tg
end Go.Proofs.Ytjogpafbiackbaa
