/- What is read as a record is just what is written of it: plain facts. No program's run. -/
import Derived.Test.YteebiemfhicgbaaRen
namespace Go.Proofs.Yteebiemfhicgbaa
set_option linter.unusedVariables false
theorem le_leval : ∀ l : List UInt8, le l.length (leval l) = l
  | [] => rfl
  | b :: l => by
    have ih := le_leval l
    have hb := b.toNat_lt
    rw [List.length_cons, le_front]
    simp only [leval]
    have e1 : UInt8.ofNat (b.toNat + 256 * leval l) = b := by
      apply UInt8.toNat_inj.1
      simp
    have e2 : (b.toNat + 256 * leval l) / 256 = leval l := by omega
    rw [e1, e2, ih]
theorem RS.next_rev {st : RS} {k : Nat} (h : (st.next k).err = 0) : st.err = 0 ∧ st.left = le k (leval (st.got k)) ++ (st.next k).left ∧ leval (st.got k) < 256 ^ k := by
  obtain ⟨h1, h2, h3, h4⟩ := Rdr.RS.next_zero h
  have hl : (st.left.take k).length = k := by rw [List.length_take]; omega
  refine ⟨h1, ?_, ?_⟩
  · rw [h3, h4]
    have := le_leval (st.left.take k)
    rw [hl] at this
    rw [this]
    exact (List.take_append_drop k st.left).symm
  · rw [h4]
    have := leval_lt (st.left.take k)
    rw [hl] at this
    exact this
theorem RS.count_rev {st : RS} (h : st.counted.err = 0) : st.err = 0 ∧ st.left = le 2 st.piece.length ++ (st.piece ++ st.left.drop (2 + st.piece.length)) ∧ st.piece.length ≤ 65535 := by
  obtain ⟨h1, h2, h3, h4, h5, h6⟩ := Rdr.RS.counted_zero h
  refine ⟨h2, ?_, Rdr.RS.piece_le st⟩
  have hl : (st.left.take 2).length = 2 := by rw [List.length_take]; omega
  have e1 : le 2 st.piece.length = st.left.take 2 := by
    have := le_leval (st.left.take 2)
    rw [hl] at this
    rw [h5, h6]
    exact this
  have e2 : st.left.drop (2 + st.piece.length) = (st.left.drop 2).drop st.piece.length := by rw [List.drop_drop]
  have e3 : st.piece = (st.left.drop 2).take st.piece.length := by
    conv => lhs; rw [h4]
    rw [h5]
  rw [e1, e2]
  conv => rhs; rhs; lhs; rw [e3]
  rw [List.take_append_drop, List.take_append_drop]
theorem RS.text_rev {st : RS} (h : st.text.err = 0) : st.err = 0 ∧ st.left = tbs st.said ++ st.text.left ∧ terr st.said = 0 := by
  have hc : st.counted.err = 0 := by
    unfold RS.text at h
    split at h
    · rename_i k; exact absurd h k
    · rename_i k; simpa using k
  have hg : Utf.good (str st.piece) = true := by
    unfold RS.text at h
    rw [if_neg (by rw [hc]; simp)] at h
    split at h
    · rename_i k
      obtain ⟨e1, e2, -⟩ := Rdr.RS.counted_zero hc
      rw [e1] at h
      unfold RS.failAt at h
      rw [if_pos ⟨e2, by decide⟩] at h
      cases h
    · rename_i k; simpa using k
  obtain ⟨h1, h2, h3⟩ := RS.count_rev hc
  obtain ⟨e1, e2, e3, -⟩ := Rdr.RS.counted_zero hc
  have hs : st.said = str st.piece := by
    unfold RS.said
    rw [if_neg (by rw [hc]; simp), if_neg (by rw [hg]; simp)]
  have ht : st.text = st.next (2 + st.piece.length) := by
    unfold RS.text
    rw [if_neg (by rw [hc]; simp), if_neg (by rw [hg]; simp), e1]
  have hsz : (str st.piece).size = st.piece.length := Rdr.str_size _
  refine ⟨h1, ?_, ?_⟩
  · have hn : (st.next (2 + st.piece.length)).err = 0 := by rw [← ht]; exact h
    obtain ⟨_, _, h5, _⟩ := Rdr.RS.next_zero hn
    rw [ht, h5, hs]
    unfold tbs
    rw [hsz]
    show st.left = (le 2 st.piece.length ++ (str st.piece).data.toList) ++ st.left.drop (2 + st.piece.length)
    rw [List.append_assoc]
    exact h2
  · rw [hs]
    unfold terr
    rw [if_neg (by rw [hsz]; omega), if_neg (by rw [hg]; simp)]
theorem RS.end_rev {st : RS} (h : (Rdr.RS.end st).err = 0) : st.err = 0 ∧ st.left = [] := by
  unfold Rdr.RS.end at h
  split at h
  · have := Rdr.RS.fail_zero h
    exact absurd this.2 (by decide)
  · rename_i k
    exact ⟨h, List.eq_nil_of_length_eq_zero (by omega)⟩
theorem RS.n1_eq (p : RS) : p.n1 = p.next 2 := by unfold RS.n1; rfl
theorem RS.n2_eq (p : RS) : p.n2 = p.n1.next 4 := by unfold RS.n2; rfl
theorem RS.n3_eq (p : RS) : p.n3 = ((p.n2.next 1).next 4).next 8 := by unfold RS.n3 RS.qid; rfl
theorem RS.n4_eq (p : RS) : p.n4 = p.n3.next 4 := by unfold RS.n4; rfl
theorem RS.n5_eq (p : RS) : p.n5 = p.n4.next 4 := by unfold RS.n5; rfl
theorem RS.n6_eq (p : RS) : p.n6 = p.n5.next 4 := by unfold RS.n6; rfl
theorem RS.n7_eq (p : RS) : p.n7 = p.n6.next 8 := by unfold RS.n7; rfl
theorem RS.t1_eq (p : RS) : p.t1 = p.n7.text := by unfold RS.t1; rfl
theorem RS.t2_eq (p : RS) : p.t2 = p.t1.text := by unfold RS.t2; rfl
theorem RS.t3_eq (p : RS) : p.t3 = p.t2.text := by unfold RS.t3; rfl
theorem RS.t4_eq (p : RS) : p.t4 = p.t3.text := by unfold RS.t4; rfl
theorem RS.fields_rev {p : RS} (h : p.t4.err = 0) (hl : p.t4.left = []) : p.left = p.fields.body ∧ p.fields.Ok ∧ terr p.fields.name = 0 ∧ terr p.fields.uid = 0 ∧ terr p.fields.gid = 0 ∧ terr p.fields.muid = 0 := by
  unfold RS.fields
  have g1 := RS.n1_eq p
  have g2 := RS.n2_eq p
  have g3 := RS.n3_eq p
  have g4 := RS.n4_eq p
  have g5 := RS.n5_eq p
  have g6 := RS.n6_eq p
  have g7 := RS.n7_eq p
  have k1 := RS.t1_eq p
  have k2 := RS.t2_eq p
  have k3 := RS.t3_eq p
  have k4 := RS.t4_eq p
  generalize p.t4 = T4 at *
  generalize p.t3 = T3 at *
  generalize p.t2 = T2 at *
  generalize p.t1 = T1 at *
  generalize p.n7 = N7 at *
  generalize p.n6 = N6 at *
  generalize p.n5 = N5 at *
  generalize p.n4 = N4 at *
  generalize p.n3 = N3 at *
  generalize p.n2 = N2 at *
  generalize p.n1 = N1 at *
  rw [k4] at h
  obtain ⟨a4, b4, c4⟩ := RS.text_rev h
  rw [← k4, hl] at b4
  rw [k3] at a4
  obtain ⟨a3, b3, c3⟩ := RS.text_rev a4
  rw [← k3] at b3
  rw [k2] at a3
  obtain ⟨a2, b2, c2⟩ := RS.text_rev a3
  rw [← k2] at b2
  rw [k1] at a2
  obtain ⟨a1, b1, c1⟩ := RS.text_rev a2
  rw [← k1] at b1
  rw [g7] at a1
  obtain ⟨x6, y6, z6⟩ := RS.next_rev a1
  rw [← g7] at y6
  rw [g6] at x6
  obtain ⟨x5, y5, z5⟩ := RS.next_rev x6
  rw [← g6] at y5
  rw [g5] at x5
  obtain ⟨x4, y4, z4⟩ := RS.next_rev x5
  rw [← g5] at y4
  rw [g4] at x4
  obtain ⟨x3, y3, z3⟩ := RS.next_rev x4
  rw [← g4] at y3
  have tl : ∀ n, N3.tell n = n := fun n => by unfold RS.tell; rw [if_pos x3]
  rw [g3] at x3
  obtain ⟨q3, r3, s3⟩ := RS.next_rev x3
  rw [← g3] at r3
  obtain ⟨q2, r2, s2⟩ := RS.next_rev q3
  obtain ⟨q1, r1, s1⟩ := RS.next_rev q2
  rw [g2] at q1
  obtain ⟨x1, y1, z1⟩ := RS.next_rev q1
  rw [← g2] at y1
  rw [g1] at x1
  obtain ⟨x0, y0, z0⟩ := RS.next_rev x1
  rw [← g1] at y0
  rw [tl, tl, tl]
  clear tl g1 g2 g3 g4 g5 g6 g7 k1 k2 k3 k4 x0 x1 x3 x4 x5 x6 q1 q2 q3 a1 a2 a3 a4 h hl
  have n1 := (terr_zero c1).1
  have n2 := (terr_zero c2).1
  have n3 := (terr_zero c3).1
  have n4 := (terr_zero c4).1
  generalize leval (p.got 2) = v0 at *
  generalize leval (N1.got 4) = v1 at *
  generalize leval (N2.got 1) = v2 at *
  generalize leval ((N2.next 1).got 4) = v3 at *
  generalize leval (((N2.next 1).next 4).got 8) = v4 at *
  generalize leval (N3.got 4) = v5 at *
  generalize leval (N4.got 4) = v6 at *
  generalize leval (N5.got 4) = v7 at *
  generalize leval (N6.got 8) = v8 at *
  refine ⟨?_, ⟨?_, ?_, ?_, ?_, ?_, ?_, ?_, ?_, ?_, ?_, ?_, ?_, ?_⟩, c1, c2, c3, c4⟩
  · rw [y0, y1, r1, r2, r3, y3, y4, y5, y6, b1, b2, b3, b4]
    unfold Rec.body Rec.nums
    simp
  all_goals (simp only []; omega)
/-- What a reader takes as a record is one, and stands there. -/
theorem Rec.took_rev {st : RS} (h : st.took.err = 0) : st.err = 0 ∧ st.rec'.Ok ∧ st.rec'.err = 0 ∧ st.left = st.rec'.enc ++ st.took.left := by
  have h0 := Rdr.RS.fail_zero (st := st.past) h
  obtain ⟨h1, h2⟩ := h0
  obtain ⟨h3, h4⟩ := RS.end_rev h2
  have hc : st.counted.err = 0 := by
    unfold RS.past at h1
    split at h1
    · rename_i k; exact absurd h1 k
    · rename_i k; simpa using k
  obtain ⟨g1, g2, g3⟩ := RS.count_rev hc
  obtain ⟨e1, -⟩ := Rdr.RS.counted_zero hc
  have hpart : st.part.left = st.piece := by
    unfold RS.part
    rw [if_neg (by rw [hc]; simp)]
  have hpast : st.past = st.next (2 + st.piece.length) := by
    unfold RS.past
    rw [if_neg (by rw [hc]; simp), e1]
  obtain ⟨f1, f2, f3, f4, f5, f6⟩ := RS.fields_rev (p := st.part) h3 h4
  have hr : st.rec' = st.part.fields := by unfold RS.rec'; rw [if_pos h]
  have hlen : st.part.fields.size - 2 = st.piece.length := by rw [← Rec.body_length, ← f1, hpart]
  have hn : (st.next (2 + st.piece.length)).err = 0 := by rw [← hpast]; exact h1
  obtain ⟨_, _, h5, _⟩ := Rdr.RS.next_zero hn
  have htl : st.took.left = st.left.drop (2 + st.piece.length) := by
    have e : st.took = st.past := by
      unfold RS.took
      rw [h2]
      unfold RS.fail RS.failAt
      rw [if_neg (by simp)]
    rw [e, hpast, h5]
  refine ⟨g1, by rw [hr]; exact f2, ?_, ?_⟩
  · rw [hr]
    unfold Rec.err
    rw [if_neg (by omega), if_neg (by omega), if_neg (by omega), if_neg (by omega), if_neg (by omega)]
  · rw [hr, htl]
    unfold Rec.enc
    rw [hlen, ← f1, hpart, List.append_assoc]
    exact g2
theorem dec_rev {bs : List UInt8} {s : Rec} (h : dec bs = some s) : s.Ok ∧ s.err = 0 ∧ s.enc = bs := by
  unfold dec at h
  split at h
  · rename_i k
    simp only [Option.some.injEq] at h
    obtain ⟨h1, h2⟩ := RS.end_rev k
    obtain ⟨_, g2, g3, g4⟩ := Rec.took_rev h1
    rw [h] at g2 g3 g4
    rw [h2, List.append_nil] at g4
    exact ⟨g2, g3, g4.symm⟩
  · cases h
end Go.Proofs.Yteebiemfhicgbaa
