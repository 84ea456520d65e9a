/- Records one behind the other, as a reader goes through them: plain facts. No program's run. -/
import Derived.Test.YteebiemfhicgbaaRev
namespace Go.Proofs.Yteebiemfhicgbaa
set_option linter.unusedVariables false

/-- What Each goes through, from a reader on: the place and the record. -/
def recs : Nat → RS → List (Nat × Rec)
  | 0, _ => []
  | k + 1, st => if st.left.length = 0 then [] else if st.took.err = 0 then (st.pos, st.rec') :: recs k st.took else []
/-- Where the last one of these ends. -/
def endOf : List (Nat × Rec) → Nat
  | [] => 0
  | [p] => p.1 + p.2.size
  | _ :: q :: l => endOf (q :: l)
def encs : List (Nat × Rec) → List UInt8
  | [] => []
  | p :: l => p.2.enc ++ encs l

theorem endOf_snoc : ∀ (l : List (Nat × Rec)) (p : Nat × Rec), endOf (l ++ [p]) = p.1 + p.2.size
  | [], p => rfl
  | [_], p => rfl
  | _ :: q :: l, p => by
    show endOf ((q :: l) ++ [p]) = _
    exact endOf_snoc (q :: l) p
theorem encs_append : ∀ l m, encs (l ++ m) = encs l ++ encs m
  | [], m => rfl
  | p :: l, m => by
    show p.2.enc ++ encs (l ++ m) = (p.2.enc ++ encs l) ++ encs m
    rw [encs_append l m, List.append_assoc]

theorem took_zero {st : RS} (h : st.took.err = 0) : st.took = { st with left := st.left.drop st.rec'.size, pos := st.pos + st.rec'.size } := by
  have h0 := Rdr.RS.fail_zero (st := st.past) h
  obtain ⟨h1, h2⟩ := h0
  obtain ⟨h3, h4⟩ := RS.end_rev h2
  have hc : st.counted.err = 0 := by
    unfold RS.past at h1
    split at h1
    · rename_i k; exact absurd h1 k
    · rename_i k; simpa using k
  obtain ⟨e1, -⟩ := Rdr.RS.counted_zero hc
  have hpart : st.part.left = st.piece := by
    unfold RS.part
    rw [if_neg (by rw [hc]; simp)]
  have hpast : st.past = st.next (2 + st.piece.length) := by
    unfold RS.past
    rw [if_neg (by rw [hc]; simp), e1]
  obtain ⟨f1, _⟩ := RS.fields_rev (p := st.part) h3 h4
  have hr : st.rec' = st.part.fields := by unfold RS.rec'; rw [if_pos h]
  have hlen : st.part.fields.size - 2 = st.piece.length := by rw [← Rec.body_length, ← f1, hpart]
  have hn : (st.next (2 + st.piece.length)).err = 0 := by rw [← hpast]; exact h1
  obtain ⟨_, _, h5, _⟩ := Rdr.RS.next_zero hn
  have e : st.took = st.past := by
    unfold RS.took
    rw [h2]
    unfold RS.fail RS.failAt
    rw [if_neg (by simp)]
  have h6 : 2 ≤ st.part.fields.size := by unfold Rec.size; omega
  have h7 : st.rec'.size = 2 + st.piece.length := by rw [hr]; omega
  rw [e, hpast, h5, h7]
theorem took_pos {st : RS} (h : st.took.err = 0) : st.took.pos = st.pos + st.rec'.size := by rw [took_zero h]

theorem recs_spec : ∀ (k : Nat) (st : RS), st.err = 0 → (∀ p ∈ recs k st, p.2.Ok ∧ p.2.err = 0) ∧ (∃ rest, st.left = encs (recs k st) ++ rest) ∧ (recs k st ≠ [] → endOf (recs k st) = st.pos + (encs (recs k st)).length)
  | 0, st, h => ⟨fun p hp => (by cases hp), ⟨st.left, rfl⟩, fun h => absurd rfl h⟩
  | k + 1, st, h => by
    unfold recs
    by_cases c1 : st.left.length = 0
    · rw [if_pos c1]
      exact ⟨fun p hp => (by cases hp), ⟨st.left, rfl⟩, fun h => absurd rfl h⟩
    · rw [if_neg c1]
      by_cases c2 : st.took.err = 0
      · rw [if_pos c2]
        obtain ⟨a1, a2, a3, a4⟩ := Rec.took_rev c2
        obtain ⟨i1, ⟨rest, i2⟩, i3⟩ := recs_spec k st.took c2
        have hp := took_pos c2
        refine ⟨?_, ⟨rest, ?_⟩, fun _ => ?_⟩
        · intro p hp
          rcases List.mem_cons.1 hp with rfl | hp
          · exact ⟨a2, a3⟩
          · exact i1 p hp
        · show st.left = (st.rec'.enc ++ encs (recs k st.took)) ++ rest
          rw [List.append_assoc, ← i2]
          exact a4
        · show _ = st.pos + (st.rec'.enc ++ encs (recs k st.took)).length
          rw [List.length_append, Rec.enc_length]
          by_cases hn : recs k st.took = []
          · rw [hn]
            show st.pos + st.rec'.size = st.pos + (st.rec'.size + 0)
            omega
          · have := i3 hn
            obtain ⟨q, l, hq⟩ : ∃ q l, recs k st.took = q :: l := by
              cases hh : recs k st.took with
              | nil => exact absurd hh hn
              | cons q l => exact ⟨q, l, rfl⟩
            rw [hq] at this ⊢
            show endOf (q :: l) = _
            rw [this, hp]
            omega
      · rw [if_neg c2]
        exact ⟨fun p hp => (by cases hp), ⟨st.left, rfl⟩, fun h => absurd rfl h⟩

/-- All of them in these bytes. -/
def allRecs (bs : List UInt8) : List (Nat × Rec) := recs bs.length ⟨bs, 0, 0, 0⟩
theorem allRecs_ok {bs : List UInt8} {p : Nat × Rec} (h : p ∈ allRecs bs) : p.2.Ok ∧ p.2.err = 0 := (recs_spec _ _ rfl).1 p h
theorem allRecs_le (bs : List UInt8) : (encs (allRecs bs)).length ≤ bs.length := by
  obtain ⟨rest, h⟩ := (recs_spec bs.length ⟨bs, 0, 0, 0⟩ rfl).2.1
  have := congrArg List.length h
  rw [List.length_append] at this
  show (encs (recs bs.length ⟨bs, 0, 0, 0⟩)).length ≤ bs.length
  have e : (⟨bs, 0, 0, 0⟩ : RS).left = bs := rfl
  rw [e] at this
  omega
theorem allRecs_end (bs : List UInt8) : endOf (allRecs bs) = (encs (allRecs bs)).length := by
  by_cases hn : allRecs bs = []
  · rw [hn]; rfl
  · have := (recs_spec bs.length ⟨bs, 0, 0, 0⟩ rfl).2.2 hn
    have e : (⟨bs, 0, 0, 0⟩ : RS).pos = 0 := rfl
    rw [e, Nat.zero_add] at this
    exact this
/-- They are all of the bytes, just if the last one ends where the bytes end. -/
theorem allRecs_all {bs : List UInt8} (h : endOf (allRecs bs) = bs.length) : encs (allRecs bs) = bs := by
  rw [allRecs_end] at h
  obtain ⟨rest, e⟩ := (recs_spec bs.length ⟨bs, 0, 0, 0⟩ rfl).2.1
  have e' : bs = encs (allRecs bs) ++ rest := e
  have h2 := congrArg List.length e'
  rw [List.length_append] at h2
  have h3 : rest = [] := List.eq_nil_of_length_eq_zero (by omega)
  rw [h3, List.append_nil] at e'
  exact e'.symm
theorem encs_ge : ∀ l, 49 * l.length ≤ (encs l).length
  | [] => Nat.le_refl _
  | p :: l => by
    have := encs_ge l
    show 49 * (l.length + 1) ≤ (p.2.enc ++ encs l).length
    rw [List.length_append, Rec.enc_length]
    unfold Rec.size
    omega
theorem allRecs_length (bs : List UInt8) : 49 * (allRecs bs).length ≤ bs.length := Nat.le_trans (encs_ge _) (allRecs_le bs)
/-- A place in these bytes. -/
theorem recs_pos : ∀ (k : Nat) (st : RS) (p : Nat × Rec), p ∈ recs k st → p.1 + p.2.size ≤ st.pos + st.left.length
  | 0, st, p, h => by cases h
  | k + 1, st, p, h => by
    unfold recs at h
    by_cases c1 : st.left.length = 0
    · rw [if_pos c1] at h; cases h
    · rw [if_neg c1] at h
      by_cases c2 : st.took.err = 0
      · rw [if_pos c2] at h
        obtain ⟨a1, a2, a3, a4⟩ := Rec.took_rev c2
        have hp := took_pos c2
        have hl := congrArg List.length a4
        rw [List.length_append, Rec.enc_length] at hl
        rcases List.mem_cons.1 h with rfl | h
        · show st.pos + st.rec'.size ≤ _
          omega
        · have := recs_pos k st.took p h
          omega
      · rw [if_neg c2] at h; cases h
theorem allRecs_pos {bs : List UInt8} {p : Nat × Rec} (h : p ∈ allRecs bs) : p.1 + p.2.size ≤ bs.length := by
  have := recs_pos _ _ p h
  have e : (⟨bs, 0, 0, 0⟩ : RS).pos + (⟨bs, 0, 0, 0⟩ : RS).left.length = bs.length := by show 0 + bs.length = _; omega
  omega
end Go.Proofs.Yteebiemfhicgbaa
