/- tags: a thing is laid behind the others. -/
import Derived.Test.YtjogpafbiackbaaTlc
import Derived.Test.YtjogpafbiackbaaTld
namespace Go.Proofs.Ytjogpafbiackbaa
set_option linter.unusedVariables false
open Go.RowKit Go.Shelf
namespace Tg
open Go.Proofs.Ytjogpafbiackbaa.Mpf Go.PlainAid
section
variable {D : Nat} {w : World} {R p gl cl gh ch : Nat} {L : LS} {T : TS}
theorem info_thing : (Try.prog.info? 39).map (fun i => (i.zero, i.size, i.bytes)) = some (some (.agg #[.int .u16 0, .bool false, .int .i64 0, .bool false, .bool false, .bool false, .bool false]), 7, 24) := by kernel_rfl
theorem thing_parts : ∃ i0, Try.prog.info? 39 = some i0 ∧ i0.zero = some (.agg #[.int .u16 0, .bool false, .int .i64 0, .bool false, .bool false, .bool false, .bool false]) ∧ i0.size = 7 ∧ i0.bytes = 24 := by
  have h := info_thing
  cases hi : Try.prog.info? 39 with
  | none => rw [hi] at h; cases h
  | some i => rw [hi] at h; simp at h; exact ⟨i, rfl, h.1, h.2.1, h.2.2⟩
theorem hs_put {hs : List Int} {t : Nat} (ht : t < hs.length) (z : Int) : (fun u => (hs.set t z)[u]?) = put (fun u => hs[u]?) t (some z) := by
  funext u
  rw [put_eq, List.getElem?_set]
  by_cases e : t = u
  · subst e; simp [ht]
  · rw [if_neg e, if_neg (fun h => e h.symm)]
theorem snoc_put (l : List Th) (x : Th) : (fun j => (l ++ [x])[j]?) = put (fun j => l[j]?) l.length (some x) := by
  funext j
  rw [put_eq]
  by_cases e : j = l.length
  · subst e; simp
  · rw [if_neg e]
    by_cases h : j < l.length
    · rw [List.getElem?_append_left h]
    · rw [List.getElem?_eq_none (by simp; omega), List.getElem?_eq_none (by omega)]
theorem push_thing {W : World} (hW : LWx D W R p gl cl gh ch L) (hT : TB D W p T) (x : Th) {tag : Nat} (ht : tag < 16) (hhs : L.hs.length = 16) (hfew : L.l.length ≤ 304) (hDW : D ≤ W.heap.size) :
    ∃ gl' cl' w3, (Builtin.append_ #[30, 30] 30 #[.slice (some ⟨gl, 0, none⟩) L.l.length cl, .slice (some ⟨W.heap.size, 0, none⟩) 1 1]).run Try.prog ((W.alloc (.cells x.C.toArray 39)).drew) = .ok (.slice (some ⟨gl', 0, none⟩) (L.l.length + 1) cl') w3 ∧
      w3.cell? ⟨R, 1, none⟩ = some (.slice (some ⟨gl, 0, none⟩) L.l.length cl) ∧ w3.frozen? ⟨R, 1, none⟩ = false ∧
      (w3.setCell ⟨R, 1, none⟩ (.slice (some ⟨gl', 0, none⟩) (L.l.length + 1) cl')).cell? ⟨R, 2, none⟩ = some (.slice (some ⟨gh, 0, none⟩) 16 ch) ∧
      (∃ z : Int, (w3.setCell ⟨R, 1, none⟩ (.slice (some ⟨gl', 0, none⟩) (L.l.length + 1) cl')).cell? ⟨gh, tag, none⟩ = some (.int .i64 z)) ∧
      (w3.setCell ⟨R, 1, none⟩ (.slice (some ⟨gl', 0, none⟩) (L.l.length + 1) cl')).frozen? ⟨gh, tag, none⟩ = false ∧
      LW D ((w3.setCell ⟨R, 1, none⟩ (.slice (some ⟨gl', 0, none⟩) (L.l.length + 1) cl')).setCell ⟨gh, tag, none⟩ (.int .i64 L.l.length)) R p ⟨L.l ++ [x], L.hs.set tag L.l.length, L.said⟩ ∧
      TB D ((w3.setCell ⟨R, 1, none⟩ (.slice (some ⟨gl', 0, none⟩) (L.l.length + 1) cl')).setCell ⟨gh, tag, none⟩ (.int .i64 L.l.length)) p T ∧
      Lo D W ((w3.setCell ⟨R, 1, none⟩ (.slice (some ⟨gl', 0, none⟩) (L.l.length + 1) cl')).setCell ⟨gh, tag, none⟩ (.int .i64 L.l.length)) := by
  obtain ⟨i0, hi, hz0, hz1, hz2⟩ := thing_parts
  have ne := hW.ne1
  have lt := hW.lt
  obtain ⟨D1, hD1⟩ : ∃ D1, D1 = (W.alloc (.cells x.C.toArray 39)).drew := ⟨_, rfl⟩
  have kD : Kept [] W D1 := by rw [hD1]; exact ((Kept.refl [] W).alloc _).drew
  have hD := hW.kept kD (by simp) (by simp) (by simp)
  have hTD := hT.kept0 kD
  have bN : D1.heap[W.heap.size]? = some (.cells x.C.toArray 39 (0, 0)) := by rw [hD1]; exact Bx.made W _ _
  obtain ⟨v', w3, hr, ho, hg, hat⟩ := run_append_src (P := Try.prog) D1 D 30 30 39 i0 _ 7 24 Try.underlying30 hi hz0 hz1 hz2 rfl (by decide)
    (.slice (some ⟨gl, 0, none⟩) L.l.length cl) L.l.length (thC L.l) hD.things (.slice (some ⟨W.heap.size, 0, none⟩) 1 1) 1 x.C (Or.inr ⟨_, _, rfl, World.news_of_block (cs := x.C.toArray) bN⟩) rfl (by intro u hu; simp [Th.C] at hu; rcases hu with rfl | rfl | rfl | rfl | rfl | rfl | rfl <;> rfl) (by unfold maxLen; omega) (by omega) (by rw [hD1]; simp; omega)
  rw [← thC_snoc] at ho
  obtain ⟨gl', cl', rfl⟩ : ∃ g c, v' = .slice (some ⟨g, 0, none⟩) (L.l.length + 1) c := by
    rcases ho.2 with ⟨-, h0⟩ | ⟨g, cap, cur, rfl, -⟩
    · omega
    · exact ⟨g, cap, rfl⟩
  have k3 : Kept [gl] D1 w3 := (Kept.refl _ _).grown hg (fun k e => by cases e; exact Or.inl (by simp))
  have box3 := hD.box.kept k3 (by simpa using ne.1)
  have hol3 := ownsRow_kept hD.holds k3 (fun g hg' => by cases hg'; simpa using fun e => ne.2.2 e.symm)
  have hgl : gl' ≠ R ∧ gl' ≠ gh := by
    rcases hat with q | q
    · simp [Value.ownBlock] at q
      subst q
      exact ⟨fun e => ne.1 e.symm, ne.2.2⟩
    · simp [Value.ownBlock] at q
      have := hD.lt
      omega
  obtain ⟨w4, hw4⟩ : ∃ w4, w4 = w3.setCell ⟨R, 1, none⟩ (.slice (some ⟨gl', 0, none⟩) (L.l.length + 1) cl') := ⟨_, rfl⟩
  have k4 : Kept [R] w3 w4 := by rw [hw4]; exact (Kept.refl _ _).setCell (Or.inl (by simp)) _
  have box4 : Bx w4 R 33 #[.pointer (some ⟨p, 0, none⟩), .slice (some ⟨gl', 0, none⟩) (L.l.length + 1) cl', .slice (some ⟨gh, 0, none⟩) 16 ch, .int .i64 L.said] := by rw [hw4]; exact box3.set 1 _
  have th4 := ownsRow_kept ho k4 (fun g hg' => by cases hg'; simpa using hgl.1)
  have hol4 := ownsRow_kept hol3 k4 (fun g hg' => by cases hg'; simpa using fun e => ne.2.1 e.symm)
  have L4 : LWx D w4 R p gl' cl' gh ch ⟨L.l ++ [x], L.hs, L.said⟩ := ⟨by simpa using box4, by simpa using th4, hol4, hW.hR⟩
  have hz := List.getElem?_eq_getElem (l := L.hs) (i := tag) (by omega)
  have hh := L4.hold (t := tag) (z := L.hs[tag]'(by omega)) hz
  have L5 := L4.seth (t := tag) (by show tag < L.hs.length; omega) (L.l.length : Int)
  have T3 := hTD.own hD k3 (by simp)
  have hX3 : LWx D w3 R p gl cl gh ch L → True := fun _ => trivial
  have T4 : TB D w4 p T := T3.keptL k4 (fun i hi hl => by simp at hi; subst hi; exact ⟨_, _, _, box3, by decide, by decide⟩)
  have k5 : Kept [gh] w4 (w4.setCell ⟨gh, tag, none⟩ (.int .i64 L.l.length)) := (Kept.refl _ _).setCell (Or.inl (by simp)) _
  have T5 := T4.own L4 k5 (by simp)
  refine ⟨gl', cl', w3, by rw [← hD1]; exact hr, box3.cell 1 rfl, box3.frozen 1, ?_⟩
  rw [← hw4]
  refine ⟨box4.cell 2 rfl, ⟨_, hh.1⟩, hh.2, ⟨gl', cl', gh, ch, L5⟩, T5, ?_⟩
  have h1 := (own_lt hW.things).1
  have h2 := (own_lt hW.holds).1
  have h3 := hW.hR
  exact ((Lo.of_kept kD (by simp)).trans (Lo.of_kept k3 (by simpa using h1))).trans ((Lo.of_kept k4 (by simpa using h3)).trans (Lo.of_kept k5 (by simpa using h2)))
end
end Tg
end Go.Proofs.Ytjogpafbiackbaa
