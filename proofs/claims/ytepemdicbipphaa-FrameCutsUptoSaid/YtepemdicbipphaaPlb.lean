/- The law's asked and pours. -/
import Derived.Test.YtepemdicbipphaaPla
import Derived.Deep.Cut
import Derived.Deep.CutBlock
import Derived.Deep.CutRange
namespace Go.Proofs.Ytepemdicbipphaa
set_option linter.unusedVariables false
open Go.RowKit

namespace Two
set_option maxHeartbeats 1000000 in
theorem asked_any (w : World) (k : Nat) (col : Nat → Nat) (N p q : Nat) (S R : List Nat) (st : CS) (a F : Nat) (hF : F ≤ 1000000000000) (g : Hid (Gd st F)) (h : Hid (Pl w k col N p q S R st st a)) :
    Calls Try.prog 16 #[.pointer (some ⟨p, 0, none⟩), .pointer (some ⟨q, 0, none⟩)] w fun e w' => e = .returned (.bool true) ∧ Kept [] w w' := by
  have OK := Lib.hid g.out.1
  have D1 : Hid (∀ W, Kept [] w W → Calls Try.prog 35 #[.pointer (some ⟨p, 0, none⟩)] W fun e w' => e = .returned (.tuple #[.int .i64 (Cut.CS.err st), .int .i64 (Cut.CS.place st)]) ∧ Kept [] w w') := fun W kW =>
    (Cut.dead_any W p S st (fun hd => by have := OK.out.died hd; have := g.out.2.1; have := g.out.2.2; omega) (h.out.ct.kept kW (fun _ _ hm => by cases hm))).mono fun _ _ ⟨e1, e2⟩ => ⟨e1, kW.trans e2 (fun i hi => by cases hi)⟩
  have D2 : Hid (∀ W, Kept [] w W → Calls Try.prog 36 #[.pointer (some ⟨q, 0, none⟩)] W fun e w' => e = .returned (.tuple #[.int .i64 (Cut.CS.err st), .int .i64 (Cut.CS.place st)]) ∧ Kept [] w w') := fun W kW =>
    (Ref.dead_any W q R st (h.out.rf.kept kW (fun _ _ hm => by cases hm))).mono fun _ _ ⟨e1, e2⟩ => ⟨e1, kW.trans e2 (fun i hi => by cases hi)⟩
  have W1 : Hid (∀ W, Kept [] w W → Calls Try.prog 18 #[.pointer (some ⟨p, 0, none⟩)] W fun e w' => e = .returned (.bool st.whole) ∧ Kept [] w w') := fun W kW =>
    (Cut.whole_any W p S st OK (h.out.ct.kept kW (fun _ _ hm => by cases hm))).mono fun _ _ ⟨e1, e2⟩ => ⟨e1, kW.trans e2 (fun i hi => by cases hi)⟩
  have W2 : Hid (∀ W, Kept [] w W → Calls Try.prog 37 #[.pointer (some ⟨q, 0, none⟩)] W fun e w' => e = .returned (.bool st.whole) ∧ Kept [] w w') := fun W kW =>
    (Ref.whole_any W q R st OK (h.out.rf.kept kW (fun _ _ hm => by cases hm))).mono fun _ _ ⟨e1, m, e2⟩ => ⟨e1, by rw [e2]; exact kW.drewN m⟩
  have V1 : Hid (∀ W, Kept [] w W → Calls Try.prog 21 #[.pointer (some ⟨p, 0, none⟩)] W fun e w' => e = .returned (.int .i64 st.want) ∧ Kept [] w w') := fun W kW =>
    (Cut.want_any W p S st OK (h.out.ct.kept kW (fun _ _ hm => by cases hm))).mono fun _ _ ⟨e1, e2⟩ => ⟨e1, kW.trans e2 (fun i hi => by cases hi)⟩
  have V2 : Hid (∀ W, Kept [] w W → Calls Try.prog 38 #[.pointer (some ⟨q, 0, none⟩)] W fun e w' => e = .returned (.int .i64 st.want) ∧ Kept [] w w') := fun W kW =>
    (Ref.want_any W q R st OK (h.out.rf.kept kW (fun _ _ hm => by cases hm))).mono fun _ _ ⟨e1, m, e2⟩ => ⟨e1, by rw [e2]; exact kW.drewN m⟩
  have T1 : Hid (∀ W, Kept [] w W → Calls Try.prog 22 #[.pointer (some ⟨p, 0, none⟩)] W fun e w' => e = .returned (.int .i64 st.taken) ∧ Kept [] w w') := fun W kW =>
    (Cut.taken_any W p S st (h.out.ct.kept kW (fun _ _ hm => by cases hm))).mono fun _ _ ⟨e1, e2⟩ => ⟨e1, by rw [← e2]; exact kW⟩
  have T2 : Hid (∀ W, Kept [] w W → Calls Try.prog 39 #[.pointer (some ⟨q, 0, none⟩)] W fun e w' => e = .returned (.int .i64 st.taken) ∧ Kept [] w w') := fun W kW =>
    (Ref.taken_any W q R st (h.out.rf.kept kW (fun _ _ hm => by cases hm))).mono fun _ _ ⟨e1, e2⟩ => ⟨e1, by rw [← e2]; exact kW⟩
  obtain ⟨er, her⟩ : ∃ n, n = Cut.CS.err st := ⟨_, rfl⟩
  obtain ⟨pl, hpl⟩ : ∃ n, n = Cut.CS.place st := ⟨_, rfl⟩
  obtain ⟨wh, hwh⟩ : ∃ n, n = st.whole := ⟨_, rfl⟩
  obtain ⟨wn, hwn⟩ : ∃ n, n = st.want := ⟨_, rfl⟩
  obtain ⟨tk, htk⟩ : ∃ n, n = st.taken := ⟨_, rfl⟩
  rw [← her, ← hpl] at D1 D2
  rw [← hwh] at W1 W2
  rw [← hwn] at V1 V2
  rw [← htk] at T1 T2
  clear her hpl hwh hwn htk OK g h hF
  go_enter Try.func16, Try.ntmps16
  go_wp2_with fail
  refine (D1.out _ (Kept.refl _ _)).mono ?_
  rintro e w1 ⟨rfl, k1⟩
  have K1 := Lib.hid k1
  clear k1
  go_wp2_with fail
  refine (D2.out _ K1.out).mono ?_
  rintro e w2 ⟨rfl, k2⟩
  have K2 := Lib.hid k2
  clear k2
  go_wp2_with fail
  refine (W1.out _ K2.out).mono ?_
  rintro e w3 ⟨rfl, k3⟩
  have K3 := Lib.hid k3
  clear k3
  go_wp2_with fail
  refine (W2.out _ K3.out).mono ?_
  rintro e w4 ⟨rfl, k4⟩
  have K4 := Lib.hid k4
  clear k4
  go_wp2_with fail
  refine (V1.out _ K4.out).mono ?_
  rintro e w5 ⟨rfl, k5⟩
  have K5 := Lib.hid k5
  clear k5
  go_wp2_with fail
  refine (V2.out _ K5.out).mono ?_
  rintro e w6 ⟨rfl, k6⟩
  have K6 := Lib.hid k6
  clear k6
  go_wp2_with fail
  refine (T1.out _ K6.out).mono ?_
  rintro e w7 ⟨rfl, k7⟩
  have K7 := Lib.hid k7
  clear k7
  go_wp2_with fail
  refine (T2.out _ K7.out).mono ?_
  rintro e w8 ⟨rfl, k8⟩
  have K8 := Lib.hid k8
  clear k8
  go_wp2_with fail
  go_ret
  exact ⟨rfl, K8.out⟩

/-- pours, on its way: what is left of the bytes is their end. -/
structure Pou (w : World) (k : Nat) (col : Nat → Nat) (N p q : Nat) (st : CS) (a F : Nat) (l : List UInt8) (j M : Nat) (sj : CS) (S' R' : List Nat) (cj : Nat → Nat) (wr : World) : Prop where
  pl : Pl wr k cj M p q S' R' sj sj a
  fr : Fr w col wr cj a
  gd : Gd sj (F + j)
  le : j ≤ l.length
  bd : M + 5 * (l.length - j) + (if sj.hand.length = 0 then 0 else 5) + 5 ≤ N + 5 * l.length + 10
theorem CS.next_hand {st : CS} (ok : st.Ok) (hw : st.whole = true) : st.next.hand = [] ∧ 4 ≤ st.hand.length := by
  unfold CS.next
  rw [if_pos hw]
  exact ⟨rfl, ((CS.whole_iff ok).1 hw).2.1⟩
theorem Pou.taken {w wr : World} {k N p q a F j M : Nat} {col cj : Nat → Nat} {st sj : CS} {l : List UInt8} {S' R' : List Nat} (h : Pou w k col N p q st a F l j M sj S' R' cj wr) : wr.cell? ⟨p, 8, none⟩ = some (.int .i64 sj.taken) := by
  obtain ⟨b0, b1, b2, b3, v, c0, c1, c2, c3, c4, c5, c6, c7, c8, c9, fz, -⟩ := h.pl.ct.parts
  exact c8
/-- The end of a list that can be read. -/
theorem src_tail_cap {w : World} {ad : Addr} {n c m : Nat} {bs : List UInt8} {T : List Nat} (h : Src w (.slice (some ad) n c) bs T) (hn : n = bs.length) (hm : m ≤ n) (hc : n ≤ c) (hcm : c = m) : Src w (.slice (some ad) (n - m) 0) (bs.drop m) T := by
  subst hn
  have hbl : bs.drop m = [] := List.drop_eq_nil_of_le (by omega)
  rw [hbl, show bs.length - m = 0 by omega]
  exact ⟨some ad, 0, rfl, (fun e => by cases e), fun ad' e => ⟨fun hp => by simp at hp, fun j u hu => by simp at hu⟩⟩
theorem src_tail {w : World} {ad : Addr} {n c m : Nat} {bs : List UInt8} {T : List Nat} (h : Src w (.slice (some ad) n c) bs T) (hn : n = bs.length) (hm : m ≤ n) : Src w (.slice (some (ad.add m)) (n - m) (c - m)) (bs.drop m) T := by
  subst hn
  obtain ⟨a', c', e1, -, h3⟩ := h
  cases e1
  refine ⟨_, _, by rw [List.length_drop], (fun e => by cases e), fun ad' e => ?_⟩
  cases e
  refine ⟨fun hp => by rw [add_block]; exact (h3 ad rfl).1 (by rw [List.length_drop] at hp; omega), fun j u hu => ?_⟩
  rw [List.map_drop, List.getElem?_drop] at hu
  rw [Addr.add_add]
  exact (h3 ad rfl).2 (m + j) u hu

set_option maxHeartbeats 2000000 in
theorem pours_any (w : World) (k : Nat) (col : Nat → Nat) (N p q : Nat) (S R T : List Nat) (st : CS) (a F : Nat) (b : Value) (l : List UInt8) (hl : l.length ≤ 1152921504) (hN : N + 5 * l.length + 10 ≤ 1000000000) (hF : F + l.length ≤ 1000000000000) (g : Hid (Gd st F)) (hcap : ∃ ba bc, b = .slice ba l.length bc ∧ l.length ≤ bc ∧ bc ≤ 9223372036854775807)
    (hb : Hid (Src w b l T)) (hT : Hid (∀ t ∈ T, col t = 7)) (hT2 : Hid (∀ t ∈ T, t < w.heap.size)) (h : Hid (Pl w k col N p q S R st st a)) :
    Calls Try.prog 34 #[.pointer (some ⟨p, 0, none⟩), .pointer (some ⟨q, 0, none⟩), b, .pointer (some ⟨k, 0, none⟩)] w fun e w' => e = .returned (.bool true) ∧ ∃ st', Hid (Gd st' (F + l.length)) ∧ PlOut w k col (N + 5 * l.length + 10) p q st' a w' := by
  have ha := h.out.ha
  have P0 : Hid (Pou w k col N p q st a F l 0 N st S R col w) := ⟨h.out, Fr.refl _ _ _, g.out, Nat.zero_le _, by split <;> omega⟩
  obtain ⟨ba, bc, rfl, hbc, hbc2⟩ := hcap
  clear g h
  go_enter Try.func34, Try.ntmps34
  go_wp2_with fail
  go_loopw [2] (fun s2 wr => ∃ (j M : Nat) (sj : CS) (S' R' : List Nat) (cj : Nat → Nat) (ba bc n : Nat) (ad : Option Addr), s2 = .slice ad n bc ∧ Hid (n = l.length - j) ∧ n ≤ bc ∧ bc ≤ 9223372036854775807 ∧ Hid (Src w (.slice ad n bc) (l.drop j) T) ∧ Hid (Pou w k col N p q st a F l j M sj S' R' cj wr)) (fun s2 wr => F + l.length + 5 - (intOf ((wr.cell? ⟨p, 8, none⟩).getD undef)).toNat)
  case atStart => exact ⟨0, N, st, S, R, col, 0, bc, l.length, ba, rfl, rfl, hbc, hbc2, hb, P0⟩
  case round =>
    clear P0 hbc hbc2 hb
    obtain ⟨j, M, sj, S', R', cj, -, bc, n, ad, rfl, hn, hnb, hbc2, SRC, P⟩ := hrel
    have hj := P.out.le
    have hdl : (l.drop j).length = n := by rw [List.length_drop, hn.out]
    have hnl : n ≤ l.length := by have := hn.out; omega
    obtain ⟨SX, KX, hSX⟩ := P.out.fr.keeps
    have SRCr : Hid (Src wr (.slice ad n bc) (l.drop j) T) := SRC.out.kept KX (fun t ht => hSX t (hT2.out t ht) (by rw [hT.out t ht]; decide) (by rw [hT.out t ht]; omega) (by rw [hT.out t ht]; omega))
    have TC : Hid (∀ t ∈ T, cj t = 7) := fun t ht => by rw [P.out.fr.same t (hT2.out t ht) (by rw [hT.out t ht]; decide)]; exact hT.out t ht
    have TL : Hid (∀ t ∈ T, t < wr.heap.size) := fun t ht => by have := hT2.out t ht; have := KX.size; omega
    have FED := Lib.hid (fed_any wr k cj M p q S' R' T sj a (F + j) (.slice ad n bc) (l.drop j) (by omega) (by omega) P.out.gd SRCr TC TL P.out.pl)
    obtain ⟨n1, hn1⟩ : ∃ n1, n1 = sj.feedK (l.drop j) := ⟨_, rfl⟩
    rw [← hn1] at FED
    obtain ⟨p1, p2, p3, p4, p5⟩ := CS.feed_facts (l.drop j) sj P.out.gd.1
    rw [← hn1] at p2 p4 p5
    rw [hdl] at p5
    have HF := Lib.hid (And.intro p1 (And.intro p2 (And.intro p3 p4)))
    have G1 := Lib.hid (P.out.gd.feed (l.drop j))
    have HN1 := Lib.hid hn1
    have HDL := Lib.hid hdl
    have TCW := Lib.hid P.out.taken
    clear p1 p2 p3 p4 hn1 hdl KX hSX
    go_wp2_with fail
    refine FED.out.mono ?_
    rintro e w1 ⟨rfl, S1, R1, c1, pl1, fr1⟩
    have F1 := Lib.hid (P.out.fr.trans fr1.out)
    clear FED fr1
    go_upto_region 4 with (fail)
    go_cut [2] from 22 to 24 (fun s2 wx => ∃ (ad2 : Option Addr) (bc2 : Nat), s2 = .slice ad2 (n - n1 : Nat) bc2 ∧ n - n1 ≤ bc2 ∧ bc2 ≤ 9223372036854775807 ∧ Hid (Src w (.slice ad2 (n - n1) bc2) ((l.drop j).drop n1) T) ∧ w1 = wx)
    case first =>
      obtain ⟨a', c', e1, hnone, -⟩ := SRC.out
      cases ad with
      | none =>
        have e2 : (none : Option Addr) = a' ∧ n = (l.drop j).length ∧ bc = c' := by simpa using e1
        obtain ⟨rfl, -, rfl⟩ := e2
        obtain ⟨hd0, rfl⟩ := hnone rfl
        have hn0 : n = 0 := by rw [← HDL.out, hd0]; rfl
        subst hn0
        have h10 : n1 = 0 := by omega
        subst h10
        clear e1 hnone hd0
        go_wp2_with fail
        go_meet
        case rel => exact ⟨none, 0, rfl, Nat.le_refl _, by omega, SRC, rfl⟩
      | some a0 =>
        clear e1 hnone
        have j1 : (n1 : Int) ≤ (n : Int) := by omega
        have hsub : (n : Int) - (n1 : Int) = ((n - n1 : Nat) : Int) := by omega
        by_cases hcp : bc = n1
        · have SR2 : Hid (Src w (.slice (some a0) (n - n1) 0) ((l.drop j).drop n1) T) := src_tail_cap SRC.out HDL.out.symm p5 hnb hcp
          have HS := Lib.hid hsub
          have hz : n - n1 = 0 := by omega
          have HZ := Lib.hid hz
          clear hsub hz
          go_wp2_with fail
          go_meet
          case rel => exact ⟨some a0, 0, rfl, by rw [HZ.out]; exact Nat.le_refl _, by omega, SR2, rfl⟩
        · have SR2 : Hid (Src w (.slice (some (a0.add n1)) (n - n1) (bc - n1)) ((l.drop j).drop n1) T) := src_tail SRC.out HDL.out.symm p5
          have hlt : n1 < bc := by omega
          clear hsub
          go_wp2_with fail
          go_meet
          case rel => exact ⟨some (a0.add n1), bc - n1, rfl, by omega, by omega, SR2, rfl⟩
    case rest =>
      obtain ⟨ad2, bc2, rfl, hnb2, hbc3, SRC2, rfl⟩ := hcut
      obtain ⟨s1, hs1⟩ : ∃ s, s = sj.fedS (l.drop j) := ⟨_, rfl⟩
      rw [← hs1] at HF pl1
      clear hs1 G1 HN1 SRCr SRC TC TL hnb hbc2
      have GS : Hid (Gd s1 (F + (j + n1))) := by
        obtain ⟨p1, p2, p3, p4⟩ := HF.out
        have := P.out.gd.2.1
        have := P.out.gd.2.2
        exact ⟨p1, by omega, by omega⟩
      have hM : M ≤ 1000000000 := by have := P.out.bd; omega
      have hj2 : j + n1 ≤ l.length := by have := hn.out; omega
      have TAKEN := Lib.hid (taken_any w1 k c1 M p q S1 R1 s1 a (F + (j + n1)) hM (by omega) GS pl1)
      cases hwh : s1.whole with
      | true =>
        rw [hwh] at TAKEN
        obtain ⟨q1, q2⟩ := CS.next_hand GS.out.1 hwh
        have HB : Hid (M + 5 + 5 * (l.length - (j + n1)) + 5 ≤ N + 5 * l.length + 10) := by
          have h1 := P.out.bd
          have h2 := HF.out.2.1
          have h3 := hn.out
          show _ ≤ _
          split at h1 <;> omega
        have HT : Hid (s1.next.taken = sj.taken + 1) := by
          show _ = _
          unfold CS.next
          rw [if_pos hwh]
          show s1.taken + 1 = _
          rw [HF.out.2.2.1]
        have Q1 := Lib.hid q1
        have TB : sj.taken + 1 ≤ F + l.length := by
          have h1 := GS.out.2.1
          have h2 := GS.out.2.2
          have h3 := HF.out.2.2.1
          omega
        clear hwh q1 q2
        go_wp2_with fail
        refine TAKEN.out.mono ?_
        rintro e w2 ⟨rfl, S2, R2, c2, pl2, fr2⟩
        have P2 : Hid (Pou w k col N p q st a F l (j + n1) (M + 5) s1.next S2 R2 c2 w2) := ⟨pl2.out, F1.out.trans fr2.out, GS.out.next, hj2, by rw [Q1.out]; exact HB.out⟩
        have TC2 := Lib.hid P2.out.taken
        have SRC3 : Hid (Src w (.slice ad2 (n - n1) bc2) (l.drop (j + n1)) T) := by have := SRC2.out; rw [List.drop_drop] at this; exact this
        have HN2 : Hid (n - n1 = l.length - (j + n1)) := by have := hn.out; show _ = _; omega
        clear TAKEN HF
        go_wp2_with fail
        go_roundw
        case rel => exact ⟨j + n1, M + 5, s1.next, S2, R2, c2, 0, bc2, n - n1, ad2, rfl, HN2, hnb2, hbc3, SRC3, P2⟩
        case measure =>
          rw [TC2.out, TCW.out, HT.out]
          simp [intOf]
          omega
      | false =>
        rw [hwh] at TAKEN
        have HB : Hid (M + 5 ≤ N + 5 * l.length + 10) := by
          have h1 := P.out.bd
          show _ ≤ _
          omega
        clear hwh
        go_wp2_with fail
        refine TAKEN.out.mono ?_
        rintro e w2 ⟨rfl, S2, R2, c2, pl2, fr2⟩
        clear TAKEN HF
        go_wp2_with fail
        go_ret
        exact ⟨rfl, s1.next, GS.out.next.more (by omega), S2, R2, c2, ⟨pl2.out.bk.more HB.out, pl2.out.ct, pl2.out.rf, pl2.out.sc, pl2.out.rc, pl2.out.ha⟩, F1.out.trans fr2.out⟩
end Two
end Go.Proofs.Ytepemdicbipphaa
