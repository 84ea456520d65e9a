/- The mathematics of frames: what Feed does with a whole frame, with a part of one, with a size that is not right. No program's run. -/
import Derived.Test.YtgdaiajjnfnomaaFed
namespace Go.Proofs.Ytgdaiajjnfnomaa
set_option linter.unusedVariables false
open Go.RowKit

/-- A frame under a limit. -/
structure Frm (L : Nat) (f : List UInt8) : Prop where
  n7 : 7 ≤ f.length
  nL : f.length ≤ L
  says : leval (f.take 4) = f.length

theorem CS.sizeK_0 {st : CS} (h : st.hand = []) (l : List UInt8) : st.sizeK l = min 4 l.length := by
  unfold CS.sizeK
  rw [h]
  simp

theorem CS.sized_0 {st : CS} (h : st.hand = []) (l : List UInt8) : st.sized l = { st with hand := l.take 4, dead := decide ((l.take 4).length = 4) && !rightB (leval (l.take 4)) st.lim } := by
  have h1 : ¬ 4 ≤ st.hand.length := by rw [h]; simp
  have h2 : st.hand ++ l.take (st.sizeK l) = l.take 4 := by
    rw [h, List.nil_append, CS.sizeK_0 h, List.take_eq_take_iff]
    omega
  unfold CS.sized
  rw [if_neg h1, h2]

/-- A whole frame goes in, and nothing of what stands behind it. -/
theorem CS.feed_frame {st : CS} {f : List UInt8} (r : List UInt8) (h0 : st.hand = []) (hd : st.dead = false) (hf : Frm st.lim f) :
    st.feedK (f ++ r) = f.length ∧ st.fedS (f ++ r) = { st with hand := f, fed := st.fed + f.length } := by
  have h7 := hf.n7
  have hL := hf.nL
  have hk : st.sizeK (f ++ r) = 4 := by rw [CS.sizeK_0 h0, List.length_append]; omega
  have ht : (f ++ r).take 4 = f.take 4 := List.take_append_of_le_length (by omega)
  have htl : (f.take 4).length = 4 := by rw [List.length_take]; omega
  have hs : st.sized (f ++ r) = { st with hand := f.take 4 } := by
    rw [CS.sized_0 h0, ht, hf.says]
    have : rightB f.length st.lim = true := decide_eq_true ⟨h7, hL⟩
    rw [this]
    simp only [Bool.not_true, Bool.and_false]
    rw [← hd]
  have hw : (st.sized (f ++ r)).want = f.length - 4 := by
    rw [hs]
    unfold CS.want CS.says
    simp only []
    rw [if_neg (by rw [hd]; simp), if_neg (by rw [htl]; omega), List.take_take, Nat.min_self, hf.says, htl]
  have hdr : (f ++ r).drop 4 = f.drop 4 ++ r := List.drop_append_of_le_length (by omega)
  have hr : (st.sized (f ++ r)).restK ((f ++ r).drop (st.sizeK (f ++ r))) = f.length - 4 := by
    unfold CS.restK
    rw [hw, hk, hdr, List.length_append, List.length_drop]
    omega
  have hK : st.feedK (f ++ r) = f.length := by unfold CS.feedK; rw [hr, hk]; omega
  refine ⟨hK, ?_⟩
  unfold CS.fedS CS.rested
  rw [hK, hr, hs, hk, hdr]
  have e1 : (f.drop 4 ++ r).take (f.length - 4) = f.drop 4 := by
    rw [List.take_append_of_le_length (by rw [List.length_drop]; omega)]
    exact List.take_of_length_le (by rw [List.length_drop]; omega)
  simp only [e1, List.take_append_drop]

/-- A size that is not right: four bytes go in, and it dies. -/
theorem CS.feed_dies {st : CS} {b : List UInt8} (r : List UInt8) (h0 : st.hand = []) (h4 : b.length = 4) (hb : rightB (leval b) st.lim = false) :
    st.feedK (b ++ r) = 4 ∧ st.fedS (b ++ r) = { st with hand := b, fed := st.fed + 4, dead := true } := by
  have hk : st.sizeK (b ++ r) = 4 := by rw [CS.sizeK_0 h0, List.length_append]; omega
  have ht : (b ++ r).take 4 = b := by rw [List.take_append_of_le_length (by omega)]; exact List.take_of_length_le (by omega)
  have hs : st.sized (b ++ r) = { st with hand := b, dead := true } := by
    rw [CS.sized_0 h0, ht, hb]
    simp [h4]
  have hr : (st.sized (b ++ r)).restK ((b ++ r).drop (st.sizeK (b ++ r))) = 0 := by
    unfold CS.restK
    rw [hs]
    unfold CS.want
    simp
  have hK : st.feedK (b ++ r) = 4 := by unfold CS.feedK; rw [hr, hk]
  refine ⟨hK, ?_⟩
  unfold CS.fedS CS.rested
  rw [hK, hr, hs]
  simp

/-- Who is dead takes nothing. -/
theorem CS.feed_dead {st : CS} (l : List UInt8) (hd : st.dead = true) (h4 : st.hand.length = 4) : st.feedK l = 0 ∧ st.fedS l = st := by
  have hk : st.sizeK l = 0 := by unfold CS.sizeK; rw [if_pos (by omega)]
  have hs : st.sized l = st := by unfold CS.sized; rw [if_pos (by omega)]
  have hr : (st.sized l).restK (l.drop (st.sizeK l)) = 0 := by
    unfold CS.restK CS.want
    rw [hs, if_pos hd]
    omega
  have hK : st.feedK l = 0 := by unfold CS.feedK; rw [hr, hk]
  refine ⟨hK, ?_⟩
  unfold CS.fedS CS.rested
  rw [hK, hr, hs]
  simp

/-- A frame in its hand: it is whole, and Next takes it. -/
theorem CS.next_frame {st : CS} {L : Nat} {f : List UInt8} (hd : st.dead = false) (hh : st.hand = f) (hf : Frm L f) : st.whole = true ∧ st.got = f ∧ st.next = { st with hand := [], taken := st.taken + 1 } := by
  have h7 := hf.n7
  have hw : st.whole = true := by
    unfold CS.whole CS.want CS.says
    rw [hd, hh, if_neg (by simp), if_neg (by omega), hf.says]
    simp
  refine ⟨hw, ?_, ?_⟩
  · unfold CS.got; rw [if_pos hw, hh]
  · unfold CS.next; rw [if_pos hw]

/-- A body made longer, or cut; the frame with it. -/
def pad (l : List UInt8) : List UInt8 := l ++ List.replicate (3 - l.length) 9
def body (l : List UInt8) (L : Nat) : List UInt8 := (pad l).take (L - 4)
def frameOf (l : List UInt8) (L : Nat) : List UInt8 := [UInt8.ofNat ((body l L).length + 4), UInt8.ofNat (((body l L).length + 4) / 256), UInt8.ofNat (((body l L).length + 4) / 65536), 0] ++ body l L
theorem pad_snoc {l : List UInt8} (h : l.length < 3) : pad (l ++ [9]) = pad l := by
  unfold pad
  rw [List.append_assoc, List.length_append]
  congr 1
  have e : 3 - l.length = (3 - (l.length + 1)) + 1 := by omega
  show [9] ++ List.replicate (3 - (l.length + 1)) 9 = _
  rw [e, List.replicate_succ]
  rfl
theorem pad_long {l : List UInt8} (h : 3 ≤ l.length) : pad l = l := by
  unfold pad
  rw [show 3 - l.length = 0 by omega]
  simp
theorem pad_length (l : List UInt8) : 3 ≤ (pad l).length ∧ (pad l).length ≤ l.length + 3 := by unfold pad; rw [List.length_append, List.length_replicate]; omega
theorem u8_nat (n : Nat) : (UInt8.ofNat n).toNat = n % 256 := by simp
theorem frameOf_frm (l : List UInt8) (L : Nat) (h7 : 7 ≤ L) (hL : L ≤ 65536) : Frm L (frameOf l L) := by
  obtain ⟨p1, p2⟩ := pad_length l
  have hb : 3 ≤ (body l L).length ∧ (body l L).length ≤ L - 4 := by unfold body; rw [List.length_take]; omega
  have hlen : (frameOf l L).length = (body l L).length + 4 := by unfold frameOf; rw [List.length_append]; simp; omega
  refine ⟨by omega, by omega, ?_⟩
  rw [hlen]
  have ht : (frameOf l L).take 4 = [UInt8.ofNat ((body l L).length + 4), UInt8.ofNat (((body l L).length + 4) / 256), UInt8.ofNat (((body l L).length + 4) / 65536), 0] := rfl
  rw [ht]
  show (UInt8.ofNat _).toNat + 256 * ((UInt8.ofNat _).toNat + 256 * ((UInt8.ofNat _).toNat + 256 * ((0 : UInt8).toNat + 256 * 0))) = _
  rw [u8_nat, u8_nat, u8_nat]
  show _ + 256 * (_ + 256 * (_ + 256 * (0 + 256 * 0))) = _
  omega
end Go.Proofs.Ytgdaiajjnfnomaa
