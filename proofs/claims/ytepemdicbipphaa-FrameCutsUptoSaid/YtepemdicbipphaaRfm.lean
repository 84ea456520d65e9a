/- Feed, byte by byte: the mathematics. No program's run. -/
import Derived.Test.YtepemdicbipphaaFed
namespace Go.Proofs.Ytepemdicbipphaa
set_option linter.unusedVariables false

def CS.byte (st : CS) (x : UInt8) : CS := { st with hand := st.hand ++ [x], fed := st.fed + 1, dead := decide (st.hand.length = 3) && !rightB (leval (st.hand ++ [x])) st.lim }
theorem CS.stop_bad {st : CS} (ok : st.Ok) (l : List UInt8) (h : st.dead = true ∨ st.whole = true ∨ l = []) : st.feedK l = 0 ∧ st.fedS l = st := by
  have key : st.sizeK l = 0 ∧ st.sized l = st ∧ (st.restK (l.drop 0) = 0) := by
    rcases h with h | h | h
    · have h4 : 4 ≤ st.hand.length := Nat.le_of_eq (ok.died h).symm
      have hw : st.want = 0 := by unfold CS.want; rw [if_pos h]
      refine ⟨by unfold CS.sizeK; rw [if_pos h4], by unfold CS.sized; rw [if_pos h4], by unfold CS.restK; rw [hw]; omega⟩
    · obtain ⟨h1, h4, h3⟩ := (CS.whole_iff ok).1 h
      have hw : st.want = 0 := by unfold CS.want; rw [if_neg (by simp [h1]), if_neg (by omega)]; omega
      refine ⟨by unfold CS.sizeK; rw [if_pos h4], by unfold CS.sized; rw [if_pos h4], by unfold CS.restK; rw [hw]; omega⟩
    · subst h
      have hk : st.sizeK [] = 0 := by unfold CS.sizeK; split <;> simp
      refine ⟨hk, ?_, by unfold CS.restK; simp⟩
      unfold CS.sized
      split
      · rfl
      · rename_i h4
        have hd : st.dead = false := by
          cases hd : st.dead
          · rfl
          · exact absurd (Nat.le_of_eq (ok.died hd).symm) h4
        obtain ⟨a, b, c, d, e⟩ := st
        simp only [List.take_nil, List.append_nil, CS.mk.injEq, true_and]
        rw [show decide (b.length = 4) = false from decide_eq_false (by show ¬ _; have : ¬ 4 ≤ b.length := h4; omega)]
        exact hd.symm
  obtain ⟨k1, k2, k3⟩ := key
  have hK : st.feedK l = 0 := by unfold CS.feedK; rw [k1, k2, k3]
  refine ⟨hK, ?_⟩
  unfold CS.fedS
  rw [hK, k1, k2]
  unfold CS.rested
  rw [k3]
  simp
theorem CS.byte_sized {st : CS} (x : UInt8) (r : List UInt8) (h4 : st.hand.length < 4) : st.sizeK (x :: r) = (st.byte x).sizeK r + 1 ∧ st.sized (x :: r) = { (st.byte x).sized r with fed := st.fed } := by
  have hb : (st.byte x).hand = st.hand ++ [x] := rfl
  have hbl : (st.byte x).hand.length = st.hand.length + 1 := by rw [hb]; simp
  have e1 : st.sizeK (x :: r) = (st.byte x).sizeK r + 1 := by
    unfold CS.sizeK
    rw [if_neg (by omega), hbl]
    simp only [List.length_cons]
    split <;> omega
  refine ⟨e1, ?_⟩
  unfold CS.sized
  rw [if_neg (by omega), e1, hbl]
  by_cases h3 : st.hand.length = 3
  · have h0 : (st.byte x).sizeK r = 0 := by unfold CS.sizeK; rw [if_pos (by rw [hbl]; omega)]
    rw [if_pos (by omega), h0]
    simp only [CS.byte, List.take_succ_cons, List.take_zero, CS.mk.injEq, true_and]
    simp [h3]
  · rw [if_neg (by omega)]
    simp only [CS.byte, List.take_succ_cons, CS.mk.injEq, true_and, List.append_assoc, List.singleton_append]
    simp
theorem CS.Ok.byte {st : CS} (ok : st.Ok) (hd : st.dead = false) (hw : st.whole = false) (x : UInt8) : (st.byte x).Ok := by
  have hbl : (st.byte x).hand.length = st.hand.length + 1 := by show (st.hand ++ [x]).length = _; simp
  refine ⟨ok.l1, ok.l2, fun h1 h2 => ?_, fun h1 => ?_⟩
  · by_cases h3 : st.hand.length = 3
    · have h1' : (decide (st.hand.length = 3) && !rightB (leval (st.hand ++ [x])) st.lim) = false := h1
      rw [decide_eq_true h3, Bool.true_and, Bool.not_eq_false'] at h1'
      have hr := of_decide_eq_true h1'
      have hs : (st.byte x).says = leval (st.hand ++ [x]) := by unfold CS.says; rw [List.take_of_length_le (by rw [hbl]; omega)]; rfl
      have := ok.l2
      rw [hs, hbl]
      omega
    · have h4 : 4 ≤ st.hand.length := by rw [hbl] at h2; omega
      have hs : (st.byte x).says = st.says := by unfold CS.says; show leval ((st.hand ++ [x]).take 4) = _; rw [List.take_append_of_le_length h4]
      obtain ⟨k1, k2, k3⟩ := ok.live hd h4
      have hne : st.says ≠ st.hand.length := fun e => by
        have := (CS.whole_iff ok).2 ⟨hd, h4, e⟩
        rw [this] at hw
        cases hw
      rw [hs, hbl]
      omega
  · have h1' : (decide (st.hand.length = 3) && !rightB (leval (st.hand ++ [x])) st.lim) = true := h1
    rw [Bool.and_eq_true] at h1'
    have := of_decide_eq_true h1'.1
    rw [hbl]
    omega
theorem CS.feed_byte {st : CS} (ok : st.Ok) (hd : st.dead = false) (hw : st.whole = false) (x : UInt8) (r : List UInt8) :
    st.feedK (x :: r) = (st.byte x).feedK r + 1 ∧ st.fedS (x :: r) = (st.byte x).fedS r := by
  by_cases h4 : st.hand.length < 4
  · obtain ⟨e1, e2⟩ := CS.byte_sized (st := st) x r h4
    have e3 : (x :: r).drop (st.sizeK (x :: r)) = r.drop ((st.byte x).sizeK r) := by rw [e1, List.drop_succ_cons]
    have e4 : (st.sized (x :: r)).want = ((st.byte x).sized r).want := by rw [e2]; rfl
    have e5 : (st.sized (x :: r)).restK (r.drop ((st.byte x).sizeK r)) = ((st.byte x).sized r).restK (r.drop ((st.byte x).sizeK r)) := by unfold CS.restK; rw [e4]
    have hK : st.feedK (x :: r) = (st.byte x).feedK r + 1 := by unfold CS.feedK; rw [e3, e5, e1]; omega
    refine ⟨hK, ?_⟩
    unfold CS.fedS
    rw [hK, e3]
    unfold CS.rested
    rw [e5, e2]
    show CS.mk _ _ (st.fed + ((st.byte x).feedK r + 1)) _ _ = CS.mk _ _ (st.fed + 1 + (st.byte x).feedK r) _ _
    rw [show st.fed + ((st.byte x).feedK r + 1) = st.fed + 1 + (st.byte x).feedK r by omega]
  · have h4' : 4 ≤ st.hand.length := by omega
    obtain ⟨k1, k2, k3⟩ := ok.live hd h4'
    have hne : st.says ≠ st.hand.length := fun e => by
      have := (CS.whole_iff ok).2 ⟨hd, h4', e⟩
      rw [this] at hw
      cases hw
    have hbl : (st.byte x).hand.length = st.hand.length + 1 := by show (st.hand ++ [x]).length = _; simp
    have hbd : (st.byte x).dead = false := by show (decide (st.hand.length = 3) && _) = false; rw [decide_eq_false (by omega)]; rfl
    have hbs : (st.byte x).says = st.says := by unfold CS.says; show leval ((st.hand ++ [x]).take 4) = _; rw [List.take_append_of_le_length h4']
    have w1 : st.want = st.says - st.hand.length := by unfold CS.want; rw [if_neg (by simp [hd]), if_neg h4]
    have w2 : (st.byte x).want = st.says - st.hand.length - 1 := by unfold CS.want; rw [if_neg (by simp [hbd]), if_neg (by omega), hbs, hbl]; omega
    have s1 : ∀ l, st.sizeK l = 0 := fun l => by unfold CS.sizeK; rw [if_pos h4']
    have s2 : ∀ l, (st.byte x).sizeK l = 0 := fun l => by unfold CS.sizeK; rw [if_pos (by omega)]
    have s3 : ∀ l, st.sized l = st := fun l => by unfold CS.sized; rw [if_pos h4']
    have s4 : ∀ l, (st.byte x).sized l = st.byte x := fun l => by unfold CS.sized; rw [if_pos (by omega)]
    have r1 : st.restK (x :: r) = (st.byte x).restK r + 1 := by unfold CS.restK; rw [w1, w2, List.length_cons]; omega
    have hK : st.feedK (x :: r) = (st.byte x).feedK r + 1 := by unfold CS.feedK; rw [s1, s2, s3, s4, List.drop_zero, List.drop_zero, r1]; omega
    refine ⟨hK, ?_⟩
    unfold CS.fedS
    rw [hK, s1, s2, s3, s4, List.drop_zero, List.drop_zero]
    unfold CS.rested
    rw [r1, List.take_succ_cons]
    show CS.mk _ _ (st.fed + ((st.byte x).feedK r + 1)) _ _ = CS.mk _ _ (st.fed + 1 + (st.byte x).feedK r) _ _
    rw [show st.fed + ((st.byte x).feedK r + 1) = st.fed + 1 + (st.byte x).feedK r by omega, hbd, hd]
    simp only [CS.byte, List.append_assoc, List.singleton_append]
end Go.Proofs.Ytepemdicbipphaa
