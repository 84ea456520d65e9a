/- The law's fed, taken and asked: both are the same. -/
import Derived.Test.YtepemdicbipphaaPly
namespace Go.Proofs.Ytepemdicbipphaa
set_option linter.unusedVariables false
open Go.RowKit

namespace Two
set_option maxHeartbeats 1000000 in
theorem fed_any (w : World) (k : Nat) (col : Nat → Nat) (N p q : Nat) (S R T : List Nat) (st : CS) (a F : Nat) (b : Value) (l : List UInt8) (hl : l.length ≤ 1152921504) (hF : F ≤ 1000000000000) (g : Hid (Gd st F)) (hb : Hid (Src w b l T)) (hT : Hid (∀ t ∈ T, col t = 7)) (hT2 : Hid (∀ t ∈ T, t < w.heap.size)) (h : Hid (Pl w k col N p q S R st st a)) :
    Calls Try.prog 30 #[.pointer (some ⟨p, 0, none⟩), .pointer (some ⟨q, 0, none⟩), b] w fun e w' => e = .returned (.tuple #[.int .i64 (st.feedK l), .bool true]) ∧ PlOut w k col N p q (st.fedS l) a w' := by
  obtain ⟨ba, bc, rfl⟩ := src_slice hb.out
  have hfd : st.fed ≤ 1152921504606 := by have := g.out.2.2; omega
  have hhd : st.hand.length ≤ st.fed := by have := g.out.2.1; omega
  have OK := Lib.hid g.out.1
  have ha := h.out.ha
  have LENT := Lib.hid (Lst.lent_any w _ l T hl hb)
  go_enter Try.func30, Try.ntmps30
  go_wp2_with fail
  refine LENT.out.mono ?_
  rintro e w1 ⟨v1, rfl, o1, k1⟩
  obtain ⟨g1, c1, rfl, hg, hg2, hc, hc2, own1⟩ := own_marked o1.out
  obtain ⟨P1, F1⟩ := h.out.fresh k1
  have G7 : Hid (newc col w.heap.size 7 g1 = 7) := newc_new hg
  have ROW := Lib.hid own1
  have FEED := Lib.hid (Cut.feed_any w1 p S [g1] st (some ⟨g1, 0, none⟩) c1 l hl (by omega) hc2 hfd OK (marked_seg own1).src (fun t ht hm => by
    simp at ht
    subst ht
    have := P1.sc t hm
    have := G7.out
    omega) P1.ct)
  have P1h := Lib.hid P1
  have F1h := Lib.hid F1
  have hz1 := k1.size
  have K1 := Lib.hid k1
  clear LENT o1 own1 P1 F1 k1
  go_wp2_with fail
  refine FEED.out.mono ?_
  rintro e w2 ⟨rfl, S2, h2, k2, s2⟩
  obtain ⟨P2, F2⟩ := P1h.out.cut k2.out h2.out s2.out
  have hz2 := k2.out.size
  have P2h := Lib.hid P2
  have F2h := Lib.hid (F1h.out.trans F2)
  have G72 : Hid (newc (newc col w.heap.size 7) w1.heap.size a g1 = 7) := by show _ = _; rw [newc_old hg2]; exact G7.out
  have hTS : ∀ t ∈ T, t ∉ S := fun t ht hm => by have := hT.out t ht; have := h.out.sc t hm; omega
  have SRC2 : Hid (Src w2 (.slice ba l.length bc) l T) := (hb.out.kept K1.out (fun _ _ hm => by cases hm)).kept k2.out hTS
  have ROW2 : Hid (w2.ownsRow 0 5 1 (.slice (some ⟨g1, 0, none⟩) (l.length + 3) c1) (l.length + 3) ((Lst.marked l).map bv)) := ownsRow_kept ROW.out k2.out (fun t ht hm => by
    simp [Value.ownBlock] at ht
    subst ht
    have := P1h.out.sc g1 hm
    have := G7.out
    omega)
  have RFEED := Lib.hid (Ref.feed_any w2 q R T st _ l hl hfd hhd OK SRC2 (fun t ht hm => by
    have := hT.out t ht; have := h.out.rc t hm; omega) P2h.out.rf)
  clear FEED h2 k2 s2 P2 F2 hTS
  go_wp2_with fail
  refine RFEED.out.mono ?_
  rintro e w3 ⟨rfl, R3, h3, k3, s3⟩
  obtain ⟨P3, F3⟩ := P2h.out.ref k3.out h3.out s3.out
  have hz3 := k3.out.size
  have P3h := Lib.hid P3
  have F3h := Lib.hid (F2h.out.trans F3)
  have G73 : Hid (newc (newc (newc col w.heap.size 7) w1.heap.size a) w2.heap.size (a + 1) g1 = 7) := by show _ = _; rw [newc_old (by omega)]; exact G72.out
  have SRC3 : Hid (Src w3 (.slice ba l.length bc) l T) := SRC2.out.kept k3.out (fun t ht hm => by
    have := hT.out t ht; have := h.out.rc t hm; omega)
  have ROW3 : Hid (w3.ownsRow 0 5 1 (.slice (some ⟨g1, 0, none⟩) (l.length + 3) c1) (l.length + 3) ((Lst.marked l).map bv)) := ownsRow_kept ROW2.out k3.out (fun t ht hm => by
    simp [Value.ownBlock] at ht
    subst ht
    have := P2h.out.rc g1 hm
    have := G72.out
    omega)
  have KEPT := Lib.hid (Lst.kept_true w3 g1 c1 _ l T hl ROW3 SRC3)
  clear RFEED h3 k3 s3 P3 F3
  obtain ⟨n, hn⟩ : ∃ n, n = st.feedK l := ⟨_, rfl⟩
  rw [← hn]
  have HNN := Lib.hid hn
  clear hn
  go_wp2_with fail
  refine KEPT.out.mono ?_
  rintro e w4 ⟨rfl, k4⟩
  have K4 := Lib.hid k4
  clear k4 KEPT
  go_wp2_with fail
  go_ret2
  exact ⟨by rw [← HNN.out]; rfl, S2, R3, _, P3h.out.side K4.out (fun b hb => by simp at hb; subst hb; exact G73.out), F3h.out.side K4.out (fun b hb => by simp at hb; subst hb; exact hg)⟩

set_option maxHeartbeats 1000000 in
theorem taken_any (w : World) (k : Nat) (col : Nat → Nat) (N p q : Nat) (S R : List Nat) (st : CS) (a F : Nat) (hN : N ≤ 1000000000) (hF : F ≤ 1000000000000) (g : Hid (Gd st F)) (h : Hid (Pl w k col N p q S R st st a)) :
    Calls Try.prog 31 #[.pointer (some ⟨p, 0, none⟩), .pointer (some ⟨q, 0, none⟩), .pointer (some ⟨k, 0, none⟩)] w fun e w' => e = .returned (.tuple #[.bool st.whole, .bool true]) ∧ PlOut w k col (N + 5) p q st.next a w' := by
  have htk : st.taken ≤ 1152921504606846976 := by have := g.out.2.1; have := g.out.2.2; omega
  have OK := Lib.hid g.out.1
  have hgl : st.got.length ≤ 65536 := by
    unfold CS.got
    split
    · rename_i hw
      obtain ⟨q1, q2, q3⟩ := (CS.whole_iff OK.out).1 hw
      have := (OK.out.live q1 q2).2.1
      omega
    · simp
  have NEXT := Lib.hid (Cut.next_any w p S st OK htk h.out.ct)
  obtain ⟨whole, hwh⟩ : ∃ b, b = st.whole := ⟨_, rfl⟩
  rw [← hwh]
  have HWH := Lib.hid hwh
  clear hwh
  go_enter Try.func31, Try.ntmps31
  go_wp2_with fail
  refine NEXT.out.mono ?_
  rintro e w1 ⟨v1, S1, rfl, o1, c1, k1, s1⟩
  rw [← HWH.out]
  obtain ⟨P1, F1⟩ := h.out.cut7 k1.out c1.out s1.out
  have P1h := Lib.hid P1
  have F1h := Lib.hid F1
  have hz1 := k1.out.size
  have RNEXT := Lib.hid (Ref.next_any w1 q R st OK htk P1.rf)
  clear NEXT P1 F1
  go_wp2_with fail
  refine RNEXT.out.mono ?_
  rintro e w2 ⟨v2, R2, rfl, o2, c2, k2, s2⟩
  rw [← HWH.out]
  obtain ⟨P2, F2⟩ := P1h.out.ref7 k2.out c2.out s2.out
  have P2h := Lib.hid P2
  have F2h := Lib.hid (F1h.out.trans F2)
  have hz2 := k2.out.size
  have V1 : Hid (Own w2 0 v1 st.got) := ownsRow_kept (World.ownsRow.mono o1.out (Nat.zero_le _)) k2.out (fun b hb hm => by
    have h1 := (o1.out.lt b hb)
    have h2 := P1h.out.rc b hm
    rw [newc_new h1.1] at h2
    have := h.out.ha
    omega)
  have VC : Hid (∀ b, v1.ownBlock = some b → newc (newc col w.heap.size 7) w1.heap.size 7 b = 7 ∧ w.heap.size ≤ b ∧ b < w2.heap.size) := fun b hb => by
    have h1 := (o1.out.lt b hb)
    exact ⟨by rw [newc_old h1.2, newc_new h1.1], h1.1, by omega⟩
  have SAME := Lib.hid (Lst.same_any w2 v1 v2 st.got st.got v1.ownBlock.toList v2.ownBlock.toList (by omega) (Seg.of_own V1.out) (Seg.of_own o2.out))
  rw [decide_eq_true (rfl : st.got = st.got)] at SAME
  clear RNEXT P2 F2 c1 k1 s1 c2 k2 s2 o1
  go_wp2_with fail
  refine SAME.out.mono ?_
  rintro e w3 ⟨rfl, k3⟩
  have K3 := Lib.hid k3
  have P3h := Lib.hid (P2h.out.pure k3)
  have F3h := Lib.hid (F2h.out.pure k3)
  have hz3 := k3.size
  have OWNS := Lib.hid (Bk.owns_any w3 k _ N v1 st.got hN (by omega) (ownsRow_kept V1.out k3 (fun _ _ hm => by cases hm)) (fun b hb => (VC.out b hb).1) P3h.out.bk)
  clear SAME k3
  go_wp2_with fail
  refine OWNS.out.mono ?_
  rintro e w4 ⟨rfl, col4, b4, k4, h4⟩
  clear OWNS
  go_wp2_with fail
  go_ret2
  have hsame : ∀ b, b < w3.heap.size → 8 ≤ newc (newc col w.heap.size 7) w1.heap.size 7 b → col4 b = newc (newc col w.heap.size 7) w1.heap.size 7 b := fun b hb h8 => h4.out b hb (fun e => by have := (VC.out b e).1; omega)
  refine ⟨by first | rfl | (simp), S1, R2, col4, P3h.out.book b4.out k4.out hsame, ?_⟩
  obtain ⟨S0, k0, hS0⟩ := k4.out
  obtain ⟨S3, k3, hS3⟩ := F3h.out.kept
  refine ⟨⟨S3 ++ S0, (k3.mono (fun i hi => Or.inl (List.mem_append_left _ hi))).trans k0 (fun i hi => Or.inl (List.mem_append_right _ hi)), fun b hb hlt => ?_⟩, fun b hb h7 => ?_⟩
  · rcases List.mem_append.1 hb with e | e
    · exact hS3 b e hlt
    · have := hS0 b e (by omega)
      by_cases h7 : 7 ≤ col b
      · rw [F3h.out.same b hlt h7] at this
        omega
      · omega
  · rw [h4.out b (by omega) (fun e => by have := (VC.out b e).2.1; omega)]
    exact F3h.out.same b hb h7
end Two
end Go.Proofs.Ytepemdicbipphaa
