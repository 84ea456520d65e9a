/- A stream that is fed in chunks: what a cutter has of it. No program's run. -/
import Derived.Test.YtamienlndingnaaAlf
namespace Go.Proofs.Ytamienlndingnaa
set_option linter.unusedVariables false
open Go.RowKit

/-- What a hand can be under a limit. -/
def HandOk (L : Nat) (hand : List UInt8) (dead : Bool) : Prop :=
  (dead = false ∧ (hand.length < 4 ∨ (rightB (leval (hand.take 4)) L = true ∧ hand.length ≤ leval (hand.take 4)))) ∨ (dead = true ∧ hand.length = 4 ∧ rightB (leval hand) L = false)

theorem HandOk.ok {st : CS} (h7 : 7 ≤ st.lim) (hL : st.lim ≤ 65536) (h : HandOk st.lim st.hand st.dead) : st.Ok := by
  refine ⟨h7, hL, fun hd h4 => ?_, fun hd => ?_⟩
  · rcases h with ⟨-, h | ⟨h1, h2⟩⟩ | ⟨h1, -⟩
    · omega
    · have := (rightB_iff _ _).1 h1
      exact ⟨this.1, by unfold CS.says; omega, h2⟩
    · rw [hd] at h1; cases h1
  · rcases h with ⟨h1, -⟩ | ⟨-, h2, -⟩
    · rw [hd] at h1; cases h1
    · exact h2

/-- Feed, whatever is in the hand. -/
theorem CS.feed_gen {st : CS} (l : List UInt8) (h : HandOk st.lim st.hand st.dead) :
    st.feedK l ≤ l.length ∧ (st.fedS l).hand = st.hand ++ l.take (st.feedK l) ∧ (st.fedS l).fed = st.fed + st.feedK l ∧ (st.fedS l).taken = st.taken ∧ (st.fedS l).lim = st.lim ∧
    HandOk st.lim (st.fedS l).hand (st.fedS l).dead ∧ (st.feedK l < l.length → (st.fedS l).whole = true ∨ (st.fedS l).dead = true) ∧ ((st.fedS l).dead = false → st.dead = false) := by
  rcases h with ⟨hd, hh⟩ | ⟨hd, h4, hr⟩
  · by_cases hlt : st.hand.length < 4
    · have hk : st.sizeK l = min (4 - st.hand.length) l.length := by unfold CS.sizeK; rw [if_neg (by omega)]
      have hsz : st.sized l = { st with hand := st.hand ++ l.take (st.sizeK l), dead := decide ((st.hand ++ l.take (st.sizeK l)).length = 4) && !rightB (leval (st.hand ++ l.take (st.sizeK l))) st.lim } := by unfold CS.sized; rw [if_neg (by omega)]
      by_cases hs : st.hand.length + l.length < 4
      · have hk' : st.sizeK l = l.length := by omega
        have hdr : l.drop (st.sizeK l) = [] := List.drop_eq_nil_of_le (by omega)
        have hK : st.feedK l = l.length := by unfold CS.feedK CS.restK; rw [hdr, hk']; simp
        have hnl : (st.hand ++ l.take (st.sizeK l)).length = st.hand.length + l.length := by rw [List.length_append, List.length_take]; omega
        have hS : st.fedS l = { st with hand := st.hand ++ l, fed := st.fed + l.length } := by
          unfold CS.fedS CS.rested
          rw [hK, hdr, hsz, decide_eq_false (show ¬ (st.hand ++ l.take (st.sizeK l)).length = 4 by omega), Bool.false_and, hk', List.take_length, ← hd]
          simp
        rw [hS, hK]
        exact ⟨Nat.le_refl _, by simp, rfl, rfl, rfl, Or.inl ⟨hd, Or.inl (by simp; omega)⟩, fun h => by omega, fun _ => hd⟩
      · have hk' : st.sizeK l = 4 - st.hand.length := by omega
        obtain ⟨h4, hh4⟩ : ∃ h4, h4 = st.hand ++ l.take (st.sizeK l) := ⟨_, rfl⟩
        have hl4 : h4.length = 4 := by rw [hh4, List.length_append, List.length_take]; omega
        rw [← hh4, hl4, decide_eq_true rfl, Bool.true_and] at hsz
        by_cases hr : rightB (leval h4) st.lim = true
        · have h7 := (rightB_iff _ _).1 hr
          rw [hr, Bool.not_true] at hsz
          have hw : (st.sized l).want = leval h4 - 4 := by
            rw [hsz]
            unfold CS.want CS.says
            simp only []
            rw [if_neg (by simp), if_neg (by omega), List.take_of_length_le (by omega), hl4]
          have hrk : (st.sized l).restK (l.drop (st.sizeK l)) = min (l.length - st.sizeK l) (leval h4 - 4) := by unfold CS.restK; rw [hw, List.length_drop]
          have hK : st.feedK l = st.sizeK l + min (l.length - st.sizeK l) (leval h4 - 4) := by unfold CS.feedK; rw [hrk]
          have hS : st.fedS l = { st with hand := st.hand ++ l.take (st.feedK l), fed := st.fed + st.feedK l } := by
            unfold CS.fedS CS.rested
            rw [hrk, hsz]
            simp only []
            rw [hK, List.take_add, ← List.append_assoc, ← hh4, ← hd]
          have ht4 : (st.hand ++ l.take (st.feedK l)).take 4 = h4 := by
            rw [hK, List.take_add, ← List.append_assoc, ← hh4, List.take_append_of_le_length (by omega), List.take_of_length_le (by omega)]
          have hlen : (st.hand ++ l.take (st.feedK l)).length = st.hand.length + st.feedK l := by rw [List.length_append, List.length_take]; omega
          rw [hS]
          refine ⟨by omega, rfl, rfl, rfl, rfl, Or.inl ⟨hd, Or.inr ⟨by simp only []; rw [ht4]; exact hr, by simp only []; rw [ht4, hlen]; omega⟩⟩, fun hlt2 => Or.inl ?_, fun _ => hd⟩
          unfold CS.whole CS.want CS.says
          simp only []
          rw [hd, if_neg (by simp), ht4, if_neg (by omega), hlen]
          simp
          omega
        · have hr' : rightB (leval h4) st.lim = false := by simpa using hr
          rw [hr', Bool.not_false] at hsz
          have hrk : (st.sized l).restK (l.drop (st.sizeK l)) = 0 := by unfold CS.restK CS.want; rw [hsz]; simp
          have hK : st.feedK l = st.sizeK l := by unfold CS.feedK; rw [hrk]; rfl
          have hS : st.fedS l = { st with hand := h4, fed := st.fed + st.feedK l, dead := true } := by
            unfold CS.fedS CS.rested
            rw [hrk, hsz]
            simp
          rw [hS]
          refine ⟨by omega, by rw [hK]; exact hh4, rfl, rfl, rfl, Or.inr ⟨rfl, hl4, hr'⟩, fun _ => Or.inr rfl, fun h => by cases h⟩
    · have hk : st.sizeK l = 0 := by unfold CS.sizeK; rw [if_pos (by omega)]
      have hsz : st.sized l = st := by unfold CS.sized; rw [if_pos (by omega)]
      obtain ⟨hr, hle⟩ : rightB (leval (st.hand.take 4)) st.lim = true ∧ st.hand.length ≤ leval (st.hand.take 4) := by
        rcases hh with h | h
        · exact absurd h hlt
        · exact h
      have hw : st.want = leval (st.hand.take 4) - st.hand.length := by unfold CS.want; rw [if_neg (by rw [hd]; simp), if_neg hlt]; rfl
      have hrk : (st.sized l).restK (l.drop (st.sizeK l)) = min l.length (leval (st.hand.take 4) - st.hand.length) := by unfold CS.restK; rw [hsz, hw, hk, List.drop_zero]
      have hK : st.feedK l = min l.length (leval (st.hand.take 4) - st.hand.length) := by unfold CS.feedK; rw [hrk, hk]; omega
      have hS : st.fedS l = { st with hand := st.hand ++ l.take (st.feedK l), fed := st.fed + st.feedK l } := by
        unfold CS.fedS CS.rested
        rw [hrk, hsz, hk, List.drop_zero, ← hK]
      have ht4 : (st.hand ++ l.take (st.feedK l)).take 4 = st.hand.take 4 := List.take_append_of_le_length (by omega)
      have hlen : (st.hand ++ l.take (st.feedK l)).length = st.hand.length + st.feedK l := by rw [List.length_append, List.length_take]; omega
      rw [hS]
      refine ⟨by omega, rfl, rfl, rfl, rfl, Or.inl ⟨hd, Or.inr ⟨by simp only []; rw [ht4]; exact hr, by simp only []; rw [ht4, hlen]; omega⟩⟩, fun hlt2 => Or.inl ?_, fun _ => hd⟩
      unfold CS.whole CS.want CS.says
      simp only []
      rw [hd, if_neg (by simp), ht4, if_neg (by omega), hlen]
      simp
      omega
  · obtain ⟨a, b⟩ := CS.feed_dead (st := st) l hd h4
    rw [a, b]
    exact ⟨Nat.zero_le _, by simp, rfl, rfl, rfl, Or.inr ⟨hd, h4, hr⟩, fun _ => Or.inr hd, fun h => h⟩

/-- Whole: the hand is a frame. -/
theorem HandOk.whole {st : CS} (h : HandOk st.lim st.hand st.dead) (hw : st.whole = true) : st.dead = false ∧ Frm st.lim st.hand := by
  unfold CS.whole CS.want at hw
  rw [Bool.and_eq_true] at hw
  have hd : st.dead = false := by simpa using hw.1
  have hw2 := of_decide_eq_true hw.2
  rw [if_neg (by rw [hd]; simp)] at hw2
  rcases h with ⟨-, h | ⟨h1, h2⟩⟩ | ⟨h1, -⟩
  · rw [if_pos h] at hw2; omega
  · have h7 := (rightB_iff _ _).1 h1
    refine ⟨hd, ?_⟩
    by_cases h4 : st.hand.length < 4
    · rw [if_pos h4] at hw2; omega
    · rw [if_neg h4] at hw2
      unfold CS.says at hw2
      exact ⟨by omega, by omega, by omega⟩
  · rw [hd] at h1; cases h1
/-- Not whole, with nothing behind, or dead: there is no frame in it. -/
theorem HandOk.none {st : CS} (h : HandOk st.lim st.hand st.dead) (hw : st.whole = false) (r : List UInt8) (hr : r = [] ∨ st.dead = true) : frames st.lim (st.hand ++ r) = [] := by
  refine frames_none fun hf => ?_
  obtain ⟨f1, f2, f3⟩ := hf
  rcases h with ⟨hd, hh⟩ | ⟨hd, h4, hb⟩
  · have hr' : r = [] := by
      rcases hr with h | h
      · exact h
      · rw [hd] at h; cases h
    subst hr'
    rw [List.append_nil] at f1 f2 f3
    have h4 : ¬ st.hand.length < 4 := by omega
    unfold CS.whole CS.want at hw
    rw [hd, if_neg (by simp), if_neg h4] at hw
    rcases hh with h | ⟨h1, h2⟩
    · exact h4 h
    · have : st.says - st.hand.length = 0 := by unfold CS.says; omega
      rw [this] at hw
      simp at hw
  · rw [List.take_append_of_le_length (by omega), List.take_of_length_le (by omega), hb] at f2
    cases f2

theorem frames_append {L : Nat} {f : List UInt8} (r : List UInt8) (h : Frm L f) : frames L (f ++ r) = f :: frames L r := by
  have h7 := h.n7
  have ht : (f ++ r).take 4 = f.take 4 := List.take_append_of_le_length (by omega)
  have hf : hasFrame L (f ++ r) := ⟨by rw [List.length_append]; omega, by rw [ht, h.says]; exact (rightB_iff _ _).2 ⟨h7, h.nL⟩, by rw [ht, h.says, List.length_append]; omega⟩
  rw [frames_some hf, ht, h.says, List.take_left, List.drop_left]
theorem frames_flat {L : Nat} : ∀ (fs : List (List UInt8)) (r : List UInt8), (∀ f ∈ fs, Frm L f) → frames L (fs.flatten ++ r) = fs ++ frames L r
  | [], r, _ => rfl
  | f :: fs, r, h => by
    rw [List.flatten_cons, List.append_assoc, frames_append _ (h f (by simp)), frames_flat fs r (fun g hg => h g (List.mem_cons_of_mem _ hg))]
    rfl
theorem flat_len {L : Nat} : ∀ (fs : List (List UInt8)), (∀ f ∈ fs, Frm L f) → 7 * fs.length ≤ fs.flatten.length
  | [], _ => by simp
  | f :: fs, h => by
    have h1 := (h f (by simp)).n7
    have h2 := flat_len fs (fun g hg => h g (List.mem_cons_of_mem _ hg))
    simp only [List.flatten_cons, List.length_append, List.length_cons]
    omega

/-- What a cutter has of a stream. -/
structure Str (L : Nat) (b : List UInt8) (at' : Nat) (fr : List (List UInt8)) (st : CS) : Prop where
  lim : st.lim = L
  taken : st.taken = fr.length
  fed : st.fed = at'
  le : at' ≤ b.length
  eq : b.take at' = fr.flatten ++ st.hand
  frm : ∀ f ∈ fr, Frm L f
  hand : HandOk L st.hand st.dead
theorem Str.feed {L at' n : Nat} {b : List UInt8} {fr : List (List UInt8)} {st : CS} (h : Str L b at' fr st) (l : List UInt8) (hl : l = (b.drop at').take n) (hn : at' + n ≤ b.length) :
    Str L b (at' + st.feedK l) fr (st.fedS l) ∧ st.feedK l ≤ n ∧ (st.feedK l < n → (st.fedS l).whole = true ∨ (st.fedS l).dead = true) := by
  have hlim := h.lim
  have hh := h.hand
  rw [← hlim] at hh
  obtain ⟨g1, g2, g3, g4, g5, g6, g7, g8⟩ := CS.feed_gen l hh
  have hll : l.length = n := by rw [hl, List.length_take, List.length_drop]; omega
  rw [hll] at g1 g7
  refine ⟨⟨by rw [g5, hlim], by rw [g4, h.taken], by rw [g3, h.fed], by omega, ?_, h.frm, by rw [← hlim]; exact g6⟩, g1, g7⟩
  rw [g2, ← List.append_assoc, ← h.eq, List.take_add]
  obtain ⟨K, hK⟩ : ∃ K, K = st.feedK l := ⟨_, rfl⟩
  rw [← hK] at g1 ⊢
  rw [hl, List.take_take, Nat.min_eq_left g1]
theorem Str.next {L at' : Nat} {b : List UInt8} {fr : List (List UInt8)} {st : CS} (h : Str L b at' fr st) (hw : st.whole = true) : Str L b at' (fr ++ [st.hand]) st.next ∧ Frm L st.hand := by
  have hlim := h.lim
  have hh := h.hand
  rw [← hlim] at hh
  obtain ⟨hd, hf⟩ := hh.whole hw
  have e : st.next = { st with hand := [], taken := st.taken + 1 } := by unfold CS.next; rw [if_pos hw]
  rw [e]
  rw [hlim] at hf
  refine ⟨⟨hlim, by simp [h.taken], h.fed, h.le, by simp [h.eq], fun g hg => ?_, Or.inl ⟨hd, Or.inl (by simp)⟩⟩, hf⟩
  rcases List.mem_append.1 hg with hg | hg
  · exact h.frm g hg
  · simp at hg; rw [hg]; exact hf
theorem Str.done {L at' : Nat} {b : List UInt8} {fr : List (List UInt8)} {st : CS} (h : Str L b at' fr st) (hw : st.whole = false) (he : at' = b.length ∨ st.dead = true) : frames L b = fr := by
  have hlim := h.lim
  have hh := h.hand
  rw [← hlim] at hh
  have e : b = fr.flatten ++ (st.hand ++ b.drop at') := by
    rw [← List.append_assoc, ← h.eq, List.take_append_drop]
  have hn := hh.none hw (b.drop at') (by
    rcases he with h | h
    · exact Or.inl (List.drop_eq_nil_of_le (by omega))
    · exact Or.inr h)
  rw [hlim] at hn
  conv => lhs; rw [e]
  rw [frames_flat _ _ h.frm, hn, List.append_nil]
theorem Str.count {L at' : Nat} {b : List UInt8} {fr : List (List UInt8)} {st : CS} (h : Str L b at' fr st) : 7 * fr.length ≤ at' ∧ fr.flatten.length + st.hand.length = at' ∧ fr.flatten = b.take fr.flatten.length := by
  have h1 := flat_len fr h.frm
  have h2 : (b.take at').length = fr.flatten.length + st.hand.length := by rw [h.eq, List.length_append]
  rw [List.length_take, Nat.min_eq_left h.le] at h2
  refine ⟨by omega, h2.symm, ?_⟩
  have h3 : (b.take at').take fr.flatten.length = fr.flatten := by rw [h.eq, List.take_left]
  rw [List.take_take, Nat.min_eq_left (by omega)] at h3
  exact h3.symm
end Go.Proofs.Ytamienlndingnaa
