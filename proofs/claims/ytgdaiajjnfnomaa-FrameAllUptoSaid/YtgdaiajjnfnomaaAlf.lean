/- The frames of a list of bytes; All; what it goes through. -/
import Derived.Test.YtgdaiajjnfnomaaFrm
import Derived.Test.YtgdaiajjnfnomaaRgs
import Derived.RangeFuncNested
import Derived.RangeFuncBound
import Derived.RangeFuncCalls
import Derived.RangeFuncLeaves
import Derived.Shelf.Abstract
import Derived.Shelf.RegionOpen
import Derived.TacticsInMore
import Derived.LoopNIn
import Derived.LoopIn
import Derived.Laws.EntriesVeiled
import Derived.Scope
import Derived.WalkMore
namespace Go.Proofs.Ytgdaiajjnfnomaa
set_option linter.unusedVariables false
open Go.RowKit Go.Shelf
attribute [local go_sem] Oper.semAt_some

section
variable {P : Program} {b : Frame} {a : Act} {k : List Item} {cs : List Frame} {w : World} {F : Fence} {n : Nat} {Q : Exit → Act → World → Prop}
theorem stepR_scope {c : Code} : step P (lone (b.atR a (.code (.scope c) :: k)) cs w) = .next (lone (b.atR a (.code c :: .inScope c :: k)) cs w) :=
  step_lone_go (by simp [stepG, stepG.exec, Frame.atR])
theorem stepR_inScope {c : Code} : step P (lone (b.atR a (.inScope c :: k)) cs w) = .next (lone (b.atR a k) cs w) :=
  step_lone_go (by simp [stepG, stepG.exec, Frame.atR])
theorem wpIn_label {i : Nat} (h : Q .normal a w) : (Code.label i).wpIn F n P Q a w := by
  intro b k cs hro hb hr
  exact ⟨.normal, a, w, h, .one (fenced_calm hb hr rfl) stepR_label⟩
/-- A body with a label that nothing jumps to by goto. -/
theorem wpIn_scope {c : Code} (h : c.wpIn F n P (Exit.noGoto Q) a w) : (Code.scope c).wpIn F n P Q a w := by
  intro b k cs hro hb hr
  have h0 : (lone (b.atR a (.code (.scope c) :: k)) cs w).fenced P F := fenced_calm hb hr rfl
  obtain ⟨e, a₁, w₁, hq, harr⟩ := h b (.inScope c :: k) cs hro hb hr
  cases e with
  | normal => exact ⟨.normal, a₁, w₁, hq, .head h0 stepR_scope (StepsIn.trans harr (.one (fenced_calm hb hr rfl) stepR_inScope))⟩
  | exit id =>
    have hx : exitTo id (.inScope c :: k) = exitTo id k := by simp [exitTo]
    exact ⟨.exit id, a₁, w₁, hq, fun k' hk => .head h0 stepR_scope (harr.1 k' (by rw [hx]; exact hk)),
      fun hr' hk => let ⟨k₁, h1, h2⟩ := harr.2 hr' (by rw [hx]; exact hk); ⟨k₁, h1, .head h0 stepR_scope h2⟩⟩
  | goto l => exact hq.elim
  | ret => exact ⟨_, a₁, w₁, hq, .of_steps (.one h0 stepR_scope) harr⟩
  | panic ch => exact ⟨_, a₁, w₁, hq, .of_steps (.one h0 stepR_scope) harr⟩
  | outgrown => exact ⟨_, a₁, w₁, hq, .of_steps (.one h0 stepR_scope) harr⟩
end

/-- The frames of these bytes, one behind the other, up to the first that is not there whole, or whose size is not right. -/
def cutF (L : Nat) : Nat → List UInt8 → List (List UInt8)
  | 0, _ => []
  | k + 1, bs => if bs.length < 4 then [] else if rightB (leval (bs.take 4)) L = false then [] else if bs.length < leval (bs.take 4) then [] else bs.take (leval (bs.take 4)) :: cutF L k (bs.drop (leval (bs.take 4)))
def frames (L : Nat) (bs : List UInt8) : List (List UInt8) := cutF L bs.length bs
theorem rightB_iff (s L : Nat) : rightB s L = true ↔ 7 ≤ s ∧ s ≤ L := by unfold rightB; simp
theorem cutF_fuel (L : Nat) : ∀ (k : Nat) (bs : List UInt8), bs.length ≤ k → cutF L k bs = frames L bs := by
  intro k
  induction k using Nat.strongRecOn with
  | _ k ih =>
    intro bs hk
    cases k with
    | zero => have : bs = [] := List.eq_nil_of_length_eq_zero (by omega); rw [this]; rfl
    | succ k =>
      unfold frames
      cases hb : bs.length with
      | zero =>
        unfold cutF
        rw [if_pos (by omega)]
      | succ m =>
        unfold cutF
        split
        · rfl
        · split
          · rfl
          · rename_i h1 h2
            have h3 := (rightB_iff _ _).1 (by simpa using h2)
            split
            · rfl
            · have hd : (bs.drop (leval (bs.take 4))).length ≤ m := by rw [List.length_drop]; omega
              rw [ih k (by omega) _ (by omega)]
              by_cases hm : m = k
              · rw [hm, ih k (by omega) _ (by omega)]
              · rw [ih m (by omega) _ hd]

/-- There is a frame at the head, or there is none. -/
def hasFrame (L : Nat) (bs : List UInt8) : Prop := 4 ≤ bs.length ∧ rightB (leval (bs.take 4)) L = true ∧ leval (bs.take 4) ≤ bs.length
theorem frames_some {L : Nat} {bs : List UInt8} (h : hasFrame L bs) : frames L bs = bs.take (leval (bs.take 4)) :: frames L (bs.drop (leval (bs.take 4))) := by
  obtain ⟨h1, h2, h3⟩ := h
  have h4 := (rightB_iff _ _).1 h2
  obtain ⟨m, hm⟩ : ∃ m, bs.length = m + 1 := ⟨bs.length - 1, by omega⟩
  conv => lhs; unfold frames; rw [hm]; unfold cutF
  rw [if_neg (by omega), if_neg (by rw [h2]; simp), if_neg (by omega), cutF_fuel L m _ (by rw [List.length_drop]; omega)]
theorem frames_none {L : Nat} {bs : List UInt8} (h : ¬ hasFrame L bs) : frames L bs = [] := by
  unfold frames
  cases hb : bs.length with
  | zero => rfl
  | succ m =>
    unfold cutF
    split
    · rfl
    · split
      · rfl
      · split
        · rfl
        · rename_i h1 h2 h3
          exact absurd ⟨by omega, by simpa using h2, by omega⟩ h
theorem hasFrame_frm {L : Nat} {bs : List UInt8} (h : hasFrame L bs) : Frm L (bs.take (leval (bs.take 4))) := by
  obtain ⟨h1, h2, h3⟩ := h
  have h4 := (rightB_iff _ _).1 h2
  have hl : (bs.take (leval (bs.take 4))).length = leval (bs.take 4) := by rw [List.length_take]; omega
  refine ⟨by omega, by omega, ?_⟩
  rw [hl, List.take_take, Nat.min_eq_left (by omega)]

/-- No frame: whatever goes in, it is not whole, and nothing goes in a second time. -/
theorem CS.feed_stuck {st : CS} {bs : List UInt8} (h0 : st.hand = []) (hd : st.dead = false) (h : ¬ hasFrame st.lim bs) :
    (st.fedS bs).whole = false ∧ (st.fedS bs).feedK (bs.drop (st.feedK bs)) = 0 ∧ st.feedK bs ≤ bs.length ∧ (0 < st.feedK bs ∨ bs = []) := by
  have hk : st.sizeK bs = min 4 bs.length := CS.sizeK_0 h0 bs
  have hs := CS.sized_0 h0 bs
  by_cases h4 : bs.length < 4
  · have ht : bs.take 4 = bs := List.take_of_length_le (by omega)
    have hs' : st.sized bs = { st with hand := bs } := by
      rw [hs, ht]
      have : decide (bs.length = 4) = false := decide_eq_false (by omega)
      rw [this, Bool.false_and, ← hd]
    have hdr : bs.drop (st.sizeK bs) = [] := List.drop_eq_nil_of_le (by omega)
    have hK : st.feedK bs = bs.length := by unfold CS.feedK CS.restK; rw [hdr, hk]; simp; omega
    have hS : st.fedS bs = { st with hand := bs, fed := st.fed + bs.length } := by
      unfold CS.fedS CS.rested
      rw [hK, hs', hdr]
      simp
    refine ⟨?_, ?_, by omega, ?_⟩
    · rw [hS]; unfold CS.whole CS.want; rw [if_neg (by rw [hd]; simp), if_pos h4]; simp; omega
    · rw [hK, List.drop_length]
      unfold CS.feedK CS.restK CS.sizeK
      simp
    · rw [hK]
      cases bs with
      | nil => exact Or.inr rfl
      | cons a l => left; simp
  · have hk4 : st.sizeK bs = 4 := by omega
    have htl : (bs.take 4).length = 4 := by rw [List.length_take]; omega
    by_cases hr : rightB (leval (bs.take 4)) st.lim = true
    · have h3 : bs.length < leval (bs.take 4) := by
        refine Nat.lt_of_not_le fun hc => h ⟨by omega, hr, hc⟩
      have hs' : st.sized bs = { st with hand := bs.take 4 } := by
        rw [hs, hr]
        simp only [Bool.not_true, Bool.and_false]
        rw [← hd]
      have hw : (st.sized bs).want = leval (bs.take 4) - 4 := by
        rw [hs']
        unfold CS.want CS.says
        simp only []
        rw [if_neg (by rw [hd]; simp), if_neg (by rw [htl]; omega), List.take_take, Nat.min_self, htl]
      have hrk : (st.sized bs).restK (bs.drop (st.sizeK bs)) = bs.length - 4 := by
        unfold CS.restK
        rw [hw, hk4, List.length_drop]
        omega
      have hK : st.feedK bs = bs.length := by unfold CS.feedK; rw [hrk, hk4]; omega
      have hS : st.fedS bs = { st with hand := bs, fed := st.fed + bs.length } := by
        unfold CS.fedS CS.rested
        rw [hK, hrk, hs', hk4]
        rw [List.take_of_length_le (l := bs.drop 4) (by rw [List.length_drop]; omega), List.take_append_drop]
      refine ⟨?_, ?_, by omega, by omega⟩
      · rw [hS]; unfold CS.whole CS.want CS.says; rw [if_neg (by rw [hd]; simp), if_neg (by simpa using h4)]; simp; omega
      · rw [hK, List.drop_length]
        unfold CS.feedK CS.restK CS.sizeK
        simp
    · have hr' : rightB (leval (bs.take 4)) st.lim = false := by simpa using hr
      have hdd := CS.feed_dies (st := st) (b := bs.take 4) (bs.drop 4) h0 htl hr'
      rw [List.take_append_drop] at hdd
      rw [hdd.1, hdd.2]
      refine ⟨by unfold CS.whole; rfl, ?_, by omega, by omega⟩
      exact (CS.feed_dead (st := { st with hand := bs.take 4, fed := st.fed + 4, dead := true }) _ rfl htl).1
end Go.Proofs.Ytgdaiajjnfnomaa
