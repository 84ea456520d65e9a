/- The reference's Feed and Next. -/
import Derived.Test.YtepemdicbipphaaRfa
import Derived.Test.YtepemdicbipphaaRfm
import Derived.StillTailTactics
namespace Go.Proofs.Ytepemdicbipphaa
set_option linter.unusedVariables false
open Go.RowKit

/-- What is left behind a call of the reference's. -/
def RefOut (w : World) (q : Nat) (R : List Nat) (st : CS) (w' : World) : Prop := ∃ R', Hid (Rf w' q R' st) ∧ Hid (Kept R w w') ∧ Hid (∀ k ∈ R', k ∈ R ∨ w.heap.size ≤ k)
/-- The hand grows by a byte, and is stored. -/
theorem Rf.push {wr W w1 : World} {q n : Nat} {v v' x1 x2 x3 x4 x5 : Value} {hand : List UInt8} {x : UInt8} (h : wr.heap[q]? = some (.cells #[x1, v, x2, x3, x4, x5] 66 (0, 0))) (ho : Own wr 0 v hand) (hW : Kept [] wr W) (hn : n = hand.length)
    (hown : w1.ownsRow 0 5 1 v' (n + 1) (hand.map bv ++ [bv x])) (hgrow : W.grownBy w1 v.ownBlock) (hat : v'.ownBlock = v.ownBlock ∨ v'.ownBlock = some W.heap.size) :
    w1.heap[q]? = some (.cells #[x1, v, x2, x3, x4, x5] 66 (0, 0)) ∧ (w1.setCell ⟨q, 1, none⟩ v').heap[q]? = some (.cells #[x1, v', x2, x3, x4, x5] 66 (0, 0)) ∧ Own (w1.setCell ⟨q, 1, none⟩ v') 0 v' (hand ++ [x]) ∧
      Kept (q :: v.ownBlock.toList) wr (w1.setCell ⟨q, 1, none⟩ v') ∧ (∀ k ∈ q :: v'.ownBlock.toList, k ∈ q :: v.ownBlock.toList ∨ wr.heap.size ≤ k) := by
  subst hn
  have hz := hW.size
  have k2 : Kept v.ownBlock.toList W w1 := (Kept.refl _ W).grown hgrow (fun k e => Or.inl (by rw [e]; simp))
  have k3 : Kept v.ownBlock.toList wr w1 := (hW.mono (T := v.ownBlock.toList) (fun i hi => by simp at hi)).trans k2 (fun i hi => Or.inl hi)
  have hq : q ∉ v.ownBlock.toList := fun hm => own_neB ho h (by decide) q (by simpa using hm) rfl
  have hb1 := (k3.block q (block_lt h) hq).trans h
  have ks : Kept [q] w1 (w1.setCell ⟨q, 1, none⟩ v') := (Kept.refl _ _).setCell (p := ⟨q, 1, none⟩) (Or.inl (by simp)) v'
  have ho1 : Own w1 0 v' (hand ++ [x]) := by unfold Own; rw [List.length_append, List.map_append]; exact hown
  refine ⟨hb1, by simpa using heap_set (i := 1) v' hb1, ownsRow_kept ho1 ks (fun k e hm => own_neB ho1 hb1 (by decide) k e (by simpa using hm)), (k3.mono (T := q :: v.ownBlock.toList) (fun i hi => Or.inl (List.mem_cons_of_mem _ hi))).trans ks (fun i hi => Or.inl (by simp at hi; simp [hi])), fun k hk => ?_⟩
  rcases List.mem_cons.1 hk with e | e
  · exact Or.inl (by rw [e]; simp)
  · rcases hat with a | a
    · rw [a] at e
      exact Or.inl (List.mem_cons_of_mem _ e)
    · rw [a] at e
      simp at e
      exact Or.inr (by omega)
/-- A store into the cutter, beside its hand. -/
theorem own_beside {w : World} {q i : Nat} {v u : Value} {l : List UInt8} {cs : Array Value} (ho : Own w 0 v l) (h : w.heap[q]? = some (.cells cs 66 (0, 0))) : Own (w.setCell ⟨q, i, none⟩ u) 0 v l ∧ Kept [q] w (w.setCell ⟨q, i, none⟩ u) := by
  have ks : Kept [q] w (w.setCell ⟨q, i, none⟩ u) := (Kept.refl _ _).setCell (p := ⟨q, i, none⟩) (Or.inl (by simp)) u
  exact ⟨ownsRow_kept ho ks (fun k e hm => own_neB ho h (by decide) k e (by simpa using hm)), ks⟩

theorem Rf.byte {w' : World} {q : Nat} {v' : Value} {sj : CS} {x : UInt8} {d : Bool} {pl : Int} (h : w'.heap[q]? = some (.cells #[.int .u32 sj.lim, v', .int .i64 ((sj.fed : Int) + 1), .int .i64 sj.taken, .bool d, .int .i64 pl] 66 (0, 0))) (ho : Own w' 0 v' (sj.hand ++ [x]))
    (hd : d = (sj.byte x).dead) (hp : pl = Cut.CS.place (sj.byte x)) : Rf w' q (q :: v'.ownBlock.toList) (sj.byte x) := by
  subst hd hp
  refine ⟨v', ?_, ho, rfl⟩
  rw [h]
  rfl
theorem CS.byte_dead {st : CS} {x : UInt8} {n s : Nat} (hn : n = st.hand.length) (hs : s = leval (st.hand ++ [x])) : (st.byte x).dead = (decide (n = 3) && !rightB s st.lim) := by subst hn hs; rfl
theorem CS.byte_place {st : CS} {x : UInt8} : Cut.CS.place (st.byte x) = if (st.byte x).dead = true then st.fed + 1 - 4 else 0 := rfl
theorem leval_pow : ∀ l : List UInt8, leval l < 256 ^ l.length
  | [] => by simp [leval]
  | b :: l => by
    have h := leval_pow l
    have hb := b.toNat_lt
    simp only [leval, List.length_cons, Nat.pow_succ]
    omega
/-- Feed, on its way. -/
structure FdI (w : World) (q : Nat) (R : List Nat) (st : CS) (l : List UInt8) (j : Nat) (sj : CS) (R' : List Nat) (wr : World) : Prop where
  rf : Rf wr q R' sj
  ok : sj.Ok
  le : sj.hand.length ≤ sj.fed
  fd : sj.fed = st.fed + j
  k : st.feedK l = j + sj.feedK (l.drop j)
  s : st.fedS l = sj.fedS (l.drop j)
  kept : Kept R w wr
  sub : ∀ k ∈ R', k ∈ R ∨ w.heap.size ≤ k
theorem FdI.draw {w wr w' : World} {q j : Nat} {R R' : List Nat} {st sj : CS} {l : List UInt8} (h : FdI w q R st l j sj R' wr) (k : Kept [] wr w') : FdI w q R st l j sj R' w' :=
  ⟨h.rf.kept k (fun _ _ hm => by simp at hm), h.ok, h.le, h.fd, h.k, h.s, h.kept.trans k (fun i hi => by simp at hi), h.sub⟩
theorem FdI.stop {w wr : World} {q j : Nat} {R R' : List Nat} {st sj : CS} {l : List UInt8} (h : FdI w q R st l j sj R' wr) (hs : sj.dead = true ∨ sj.whole = true ∨ l.drop j = []) : st.feedK l = j ∧ RefOut w q R (st.fedS l) wr := by
  obtain ⟨a, b⟩ := CS.stop_bad h.ok _ hs
  refine ⟨by rw [h.k, a]; rfl, R', ?_, h.kept, h.sub⟩
  rw [h.s, b]
  exact h.rf
theorem FdI.step {w wr w' : World} {q j : Nat} {R R' R2 : List Nat} {st sj : CS} {l : List UInt8} (h : FdI w q R st l j sj R' wr) (hj : j < l.length) (hd : sj.dead = false) (hw : sj.whole = false)
    (rf : Rf w' q R2 (sj.byte l[j])) (k : Kept R' wr w') (sub : ∀ i ∈ R2, i ∈ R' ∨ wr.heap.size ≤ i) : FdI w q R st l (j + 1) (sj.byte l[j]) R2 w' := by
  obtain ⟨a, b⟩ := CS.feed_byte h.ok hd hw l[j] (l.drop (j + 1))
  have hz := h.kept.size
  refine ⟨rf, h.ok.byte hd hw _, ?_, ?_, ?_, ?_, h.kept.trans k (fun i hi => h.sub i hi), fun i hi => ?_⟩
  · show (sj.hand ++ [l[j]]).length ≤ sj.fed + 1
    have := h.le
    simp
    omega
  · show sj.fed + 1 = _
    rw [h.fd]
    omega
  · rw [h.k, List.drop_eq_getElem_cons hj, a]
    omega
  · rw [h.s, List.drop_eq_getElem_cons hj, b]
  · rcases sub i hi with e | e
    · exact h.sub i e
    · exact Or.inr (by omega)

namespace Ref
set_option maxHeartbeats 4000000 in
theorem feed_any (w : World) (q : Nat) (R T : List Nat) (st : CS) (b : Value) (l : List UInt8) (hl : l.length ≤ 1152921504) (hf : st.fed ≤ 1152921504606) (hh : st.hand.length ≤ st.fed) (ok : Hid st.Ok)
    (hb : Hid (Src w b l T)) (hT : Hid (∀ k ∈ T, k ∉ R)) (h : Hid (Rf w q R st)) :
    Calls Try.prog 46 #[.pointer (some ⟨q, 0, none⟩), b] w fun e w' => e = .returned (.int .i64 (st.feedK l)) ∧ RefOut w q R (st.fedS l) w' := by
  obtain ⟨i0, hi0, hz00, hz01, hz02⟩ := info_parts info_u8
  have I0 : Hid (FdI w q R st l 0 st R w) := ⟨h.out, ok.out, hh, rfl, by rw [Nat.zero_add]; rfl, rfl, Kept.refl _ _, fun k hk => Or.inl hk⟩
  obtain ⟨ba, bc, rfl⟩ := src_slice hb.out
  clear h ok hh
  go_enter Try.func46, Try.ntmps46
  go_wp2_with fail
  go_loopw [5] (fun s5 wr => ∃ (j : Nat) (sj : CS) (R' : List Nat), s5 = .int .i64 j ∧ j ≤ l.length ∧ Hid (FdI w q R st l j sj R' wr)) (fun s5 _ => l.length - (intOf s5).toNat)
  case atStart => exact ⟨0, st, R, rfl, Nat.zero_le _, I0⟩
  case round =>
    clear I0
    obtain ⟨j, sj, R', rfl, hj, I⟩ := hrel
    obtain ⟨v, H1, H2, H3⟩ := I.out.rf
    obtain ⟨c0, c1, c2, c3, c4, c5, fz⟩ := sixR H1
    by_cases hlt : j < l.length
    · have j1 : (j : Int) < (l.length : Int) := by omega
      by_cases hd : sj.dead = true
      · obtain ⟨e1, e2⟩ := I.out.stop (Or.inl hd)
        rw [hd] at c4
        have E1 := Lib.hid e1
        clear e1 hd H1 H2 H3 c0 c1 c2 c3 c5 fz
        go_wp2_with fail
        go_ret
        exact ⟨ret_int (by rw [E1.out]), e2⟩
      have hd' : sj.dead = false := by simpa using hd
      rw [hd'] at c4
      have HD := Lib.hid hd'
      clear hd hd'
      have WHOLE := Lib.hid (whole_any wr q R' sj I.out.ok I.out.rf)
      by_cases hw : sj.whole = true
      · obtain ⟨e1, e2⟩ := I.out.stop (Or.inr (Or.inl hw))
        rw [hw] at WHOLE
        have E1 := Lib.hid e1
        have HW := Lib.hid hw
        clear e1 e2 hw H1 H2 H3 c0 c1 c2 c3 c5 fz
        go_wp2_with fail
        refine WHOLE.out.mono ?_
        rintro e w1 ⟨rfl, m, rfl⟩
        go_wp2_with fail
        go_ret
        exact ⟨ret_int (by rw [E1.out]), ((I.out.draw ((Kept.refl [] _).drewN m)).stop (Or.inr (Or.inl HW.out))).2⟩
      have hw' : sj.whole = false := by simpa using hw
      rw [hw'] at WHOLE
      have HW := Lib.hid hw'
      clear hw hw' H1 H2 H3 c0 c1 c2 c3 c5 fz
      go_wp2_with fail
      refine WHOLE.out.mono ?_
      rintro e w1 ⟨rfl, m, hw1⟩
      have I1 : Hid (FdI w q R st l j sj R' w1) := by rw [hw1]; exact I.out.draw ((Kept.refl [] _).drewN m)
      clear hw1 I WHOLE c4
      obtain ⟨v, H1, H2, H3⟩ := I1.out.rf
      obtain ⟨c0, c1, c2, c3, c4, c5, fz⟩ := sixR H1
      obtain ⟨a, c, rfl⟩ := own_slice H2
      obtain ⟨bb, bo, bc', hbe, hbc⟩ := src_cells (hb.out.kept I1.out.kept hT.out) (by omega)
      obtain ⟨rfl, -, rfl⟩ : ba = some ⟨bb, bo, none⟩ ∧ l.length = l.length ∧ bc = bc' := by simpa using hbe
      have hx := hbc j hlt
      obtain ⟨x, hxe⟩ : ∃ x, x = l[j] := ⟨_, rfl⟩
      rw [← hxe] at hx
      have HX := Lib.hid hxe
      obtain ⟨n, hn⟩ : ∃ n, n = sj.hand.length := ⟨_, rfl⟩
      have hnf : n ≤ sj.fed := by rw [hn]; exact I1.out.le
      have hfd : sj.fed ≤ 1152921504606 + 1152921504 := by rw [I1.out.fd]; omega
      have HN := Lib.hid hn
      rw [← hn] at H1 H3 H2 c1
      have HC : (c : Int) = c := rfl
      have h2' : Own w1 0 (.slice a n c) sj.hand := H2
      have LO : Hid ((w1.alloc (.cells #[.int .u8 x.toNat] 5)).drew.ownsRow 0 5 1 (.slice a n c) n (sj.hand.map bv)) := by
        have h := h2'
        unfold Own at h
        rw [← hn] at h
        exact (h.alloc _).drew
      have KA : Hid (Kept [] w1 (w1.alloc (.cells #[.int .u8 x.toNat] 5)).drew) := ((Kept.refl [] w1).alloc _).drew
      have c1a : (w1.alloc (.cells #[.int .u8 x.toNat] 5)).cell? ⟨q, 1, none⟩ = some (.slice a n c) := by
        rw [← c1]
        exact World.cell?_of_block ((Kept.refl [] w1).alloc _ |>.block q (block_lt H1) (by simp))
      have H1h := Lib.hid H1
      have H2h := Lib.hid h2'
      have H3h := Lib.hid H3
      clear hn hbe hbc hxe H1 H2 H3 h2' c0 c2 c3 c4 c5 HC
      go_wp2_with fail
      go_region_law (refine step_append_src (w1.alloc (.cells #[.int .u8 x.toNat] 5)).drew rfl (.tmp 27) (.tmp 32) 22 rfl 0 5 i0 (.int .u8 0) 1 1 Try.underlying22 hi0 hz00 hz01 hz02 rfl (by decide) (.slice a n c) n (sj.hand.map bv) (by simp [Act.eval]) LO.out (.slice (some ⟨w1.heap.size, 0, none⟩) 1 1) 1 [.int .u8 x.toNat] (by simp [Act.eval]) (Or.inr ⟨_, _, rfl, World.news_of_block (cs := #[.int .u8 x.toNat]) (by exact heap_alloc_new w1 _)⟩) rfl (by intro u hu; simp at hu; subst hu; rfl) (by unfold maxLen; omega) (by omega) (Nat.zero_le _) ?_; intro v4 w4 hown4 hgrow4 hat4; obtain ⟨B4, X4, O4, K4, U4⟩ := Rf.push H1h.out H2h.out KA.out HN.out hown4 hgrow4 hat4; obtain ⟨n0, n1, n2, n3, n4, n5, nz⟩ := sixR B4; obtain ⟨ya, yc, rfl⟩ := own_slice hown4; have X4h := Lib.hid X4; have O4h := Lib.hid O4; have K4h := Lib.hid K4; have U4h := Lib.hid U4; clear hown4 hgrow4 hat4 X4 B4 O4 K4 U4)
      all_goals
        clear n0 n1 n2 n3 n4 n5 nz c1 c1a LO KA hx fz
        obtain ⟨w5, hw5⟩ : ∃ w5, w5 = w4.setCell ⟨q, 1, none⟩ (.slice ya (n + 1) yc) := ⟨_, rfl⟩
        rw [← hw5] at X4h O4h K4h ⊢
        clear hw5
        obtain ⟨n0, n1, n2, n3, n4, n5, nz⟩ := sixR X4h.out
        have f2 := nz 2
        have PL0 : Hid (Cut.CS.place sj = 0) := by show _ = _; unfold Cut.CS.place; rw [if_neg (by rw [HD.out]; simp)]
        have BX : Hid (∀ w6, w6 = w5.setCell ⟨q, 2, none⟩ (.int .i64 ((sj.fed : Int) + 1)) → w6.heap[q]? = some (.cells #[.int .u32 sj.lim, .slice ya (n + 1) yc, .int .i64 ((sj.fed : Int) + 1), .int .i64 sj.taken, .bool sj.dead, .int .i64 (Cut.CS.place sj)] 66 (0, 0)) ∧ Own w6 0 (.slice ya (n + 1) yc) (sj.hand ++ [x]) ∧ Kept R' w1 w6) := by
          intro w6 e
          subst e
          obtain ⟨O6, K6⟩ := own_beside (i := 2) (u := .int .i64 ((sj.fed : Int) + 1)) O4h.out X4h.out
          have hq : q ∈ R' := by rw [H3h.out]; simp
          refine ⟨by simpa using heap_set (i := 2) (.int .i64 ((sj.fed : Int) + 1)) X4h.out, O6, ?_⟩
          have K5 : Kept R' w1 w5 := by rw [H3h.out]; exact K4h.out
          exact K5.trans K6 (fun i hi => Or.inl (by simp at hi; rw [hi]; exact hq))
        have SUB : Hid (∀ k ∈ q :: (Value.slice ya (n + 1) yc).ownBlock.toList, k ∈ R' ∨ w1.heap.size ≤ k) := fun k hk => by rw [H3h.out]; exact U4h.out k hk
        have hl65 : sj.lim ≤ 65536 := I1.out.ok.l2
        by_cases h3 : n = 3
        · have q1 : ((n : Int) + 1 == 4) = true := by rw [beq_iff_eq]; omega
          obtain ⟨X6, O6, K6⟩ := BX.out _ rfl
          have hlen : (sj.hand ++ [x]).length = 4 := by have := HN.out; simp; omega
          obtain ⟨g, c', hv, hc', hcell⟩ := hand_cells O6 (by omega)
          have hya : ya = some ⟨g, 0, none⟩ := (Value.slice.inj hv).1
          subst hya
          obtain ⟨s, hs⟩ : ∃ s, s = leval (sj.hand ++ [x]) := ⟨_, rfl⟩
          have SIZE := Lib.hid (size_any (w5.setCell ⟨q, 2, none⟩ (.int .i64 ((sj.fed : Int) + 1))) g 0 (n + 1) yc (sj.hand ++ [x]) (by omega) (fun j hj => by
            rw [Nat.zero_add, hcell j (by omega), List.getD_eq_getElem?_getD, List.getElem?_eq_getElem (by omega)]
            rfl) (by omega))
          rw [List.take_of_length_le (Nat.le_of_eq hlen), ← hs] at SIZE
          have HS := Lib.hid hs
          have H3' := Lib.hid h3
          clear X6 O6 K6 hlen hv hc' hcell hs h3
          go_wp2_with fail
          refine SIZE.out.mono ?_
          rintro e w7 ⟨rfl, m7, hw7⟩
          obtain ⟨X6, O6, K6⟩ := BX.out _ rfl
          have X7 : w7.heap[q]? = some (.cells #[.int .u32 sj.lim, .slice (some ⟨g, 0, none⟩) (n + 1) yc, .int .i64 ((sj.fed : Int) + 1), .int .i64 sj.taken, .bool sj.dead, .int .i64 (Cut.CS.place sj)] 66 (0, 0)) := by rw [hw7]; exact X6
          have O7 : Hid (Own w7 0 (.slice (some ⟨g, 0, none⟩) (n + 1) yc) (sj.hand ++ [x])) := by rw [hw7]; exact O6
          have K7 : Hid (Kept R' w1 w7) := by rw [hw7]; exact K6.drewN m7
          have X7h := Lib.hid X7
          obtain ⟨p0, p1, p2, p3, p4, p5, pz⟩ := sixR X7
          have g4 := pz 4
          have g5 := pz 5
          clear hw7 X6 O6 K6 X7 pz SIZE n0 n1 n2 n3 n4 n5 nz f2
          obtain ⟨lm, hlm⟩ : ∃ m, m = sj.lim := ⟨_, rfl⟩
          have HLM := Lib.hid hlm
          rw [← hlm] at hl65 p0
          clear hlm
          have hsu : (s : Int) ≤ 4294967295 := by
            have h := leval_pow (sj.hand ++ [x])
            rw [← HS.out, show (sj.hand ++ [x]).length = 4 by have := HN.out; have := H3'.out; simp; omega] at h
            omega
          by_cases r1 : 7 ≤ s
          · have k1 : ¬ (s : Int) < 7 := by omega
            by_cases r2 : s ≤ lm
            · have k2 : ¬ (lm : Int) < (s : Int) := by omega
              have hdd : sj.dead = (sj.byte x).dead := by
                rw [HD.out, CS.byte_dead HN.out HS.out, ← HLM.out, show rightB s lm = true from decide_eq_true ⟨r1, r2⟩]
                simp
              have hpl : (Cut.CS.place sj : Int) = Cut.CS.place (sj.byte x) := by rw [PL0.out, CS.byte_place, if_neg (by rw [← hdd, HD.out]; simp)]
              have RF := Lib.hid (Rf.byte X7h.out O7.out hdd hpl)
              have I2 := Lib.hid (I1.out.step hlt HD.out HW.out (by rw [← HX.out]; exact RF.out) K7.out SUB.out)
              clear hdd hpl
              go_wp2_with fail
              go_roundw
              case rel => exact ⟨j + 1, _, _, by go_num, by omega, I2⟩
              case measure => simp [intOf]; omega
            · have k2 : (lm : Int) < (s : Int) := by omega
              have hdd : true = (sj.byte x).dead := by
                rw [CS.byte_dead HN.out HS.out, ← HLM.out, show rightB s lm = false from decide_eq_false (by omega), decide_eq_true H3'.out]
                rfl
              have hf4 : 3 ≤ sj.fed := by have := H3'.out; omega
              have hpl : (sj.fed : Int) + 1 - 4 = Cut.CS.place (sj.byte x) := by rw [CS.byte_place, if_pos hdd.symm]; omega
              have RFF : Hid (∀ w8, w8 = (w7.setCell ⟨q, 4, none⟩ (.bool true)).setCell ⟨q, 5, none⟩ (.int .i64 ((sj.fed : Int) + 1 - 4)) → FdI w q R st l (j + 1) (sj.byte l[j]) (q :: (Value.slice (some ⟨g, 0, none⟩) (n + 1) yc).ownBlock.toList) w8) := by
                intro w8 e
                subst e
                have Y1 := heap_set (i := 4) (.bool true) X7h.out
                have Y2 := heap_set (i := 5) (.int .i64 ((sj.fed : Int) + 1 - 4)) Y1
                obtain ⟨A1, A2⟩ := own_beside (i := 4) (u := .bool true) O7.out X7h.out
                obtain ⟨A3, A4⟩ := own_beside (i := 5) (u := .int .i64 ((sj.fed : Int) + 1 - 4)) A1 Y1
                have RF := Rf.byte (by simpa using Y2) A3 hdd hpl
                have hq : q ∈ R' := by rw [H3h.out]; simp
                exact I1.out.step hlt HD.out HW.out (by rw [← HX.out]; exact RF) ((K7.out.trans A2 (fun i hi => Or.inl (by simp at hi; rw [hi]; exact hq))).trans A4 (fun i hi => Or.inl (by simp at hi; rw [hi]; exact hq))) SUB.out
              clear hdd hpl hf4
              go_wp2_with fail
              go_roundw
              case rel => exact ⟨j + 1, _, _, by go_num, by omega, RFF.out _ rfl⟩
              case measure => simp [intOf]; omega
          · have k1 : (s : Int) < 7 := by omega
            have hdd : true = (sj.byte x).dead := by
              rw [CS.byte_dead HN.out HS.out, ← HLM.out, show rightB s lm = false from decide_eq_false (by omega), decide_eq_true H3'.out]
              rfl
            have hf4 : 3 ≤ sj.fed := by have := H3'.out; omega
            have hpl : (sj.fed : Int) + 1 - 4 = Cut.CS.place (sj.byte x) := by rw [CS.byte_place, if_pos hdd.symm]; omega
            have RFF : Hid (∀ w8, w8 = (w7.setCell ⟨q, 4, none⟩ (.bool true)).setCell ⟨q, 5, none⟩ (.int .i64 ((sj.fed : Int) + 1 - 4)) → FdI w q R st l (j + 1) (sj.byte l[j]) (q :: (Value.slice (some ⟨g, 0, none⟩) (n + 1) yc).ownBlock.toList) w8) := by
              intro w8 e
              subst e
              have Y1 := heap_set (i := 4) (.bool true) X7h.out
              have Y2 := heap_set (i := 5) (.int .i64 ((sj.fed : Int) + 1 - 4)) Y1
              obtain ⟨A1, A2⟩ := own_beside (i := 4) (u := .bool true) O7.out X7h.out
              obtain ⟨A3, A4⟩ := own_beside (i := 5) (u := .int .i64 ((sj.fed : Int) + 1 - 4)) A1 Y1
              have RF := Rf.byte (by simpa using Y2) A3 hdd hpl
              have hq : q ∈ R' := by rw [H3h.out]; simp
              exact I1.out.step hlt HD.out HW.out (by rw [← HX.out]; exact RF) ((K7.out.trans A2 (fun i hi => Or.inl (by simp at hi; rw [hi]; exact hq))).trans A4 (fun i hi => Or.inl (by simp at hi; rw [hi]; exact hq))) SUB.out
            clear hdd hpl hf4
            go_wp2_with fail
            go_roundw
            case rel => exact ⟨j + 1, _, _, by go_num, by omega, RFF.out _ rfl⟩
            case measure => simp [intOf]; omega
        · have q1 : ((n : Int) + 1 == 4) = false := by rw [beq_eq_false_iff_ne]; omega
          obtain ⟨X6, O6, K6⟩ := BX.out _ rfl
          have hdd : sj.dead = (sj.byte x).dead := by rw [HD.out, CS.byte_dead HN.out rfl, decide_eq_false h3]; rfl
          have hpl : (Cut.CS.place sj : Int) = Cut.CS.place (sj.byte x) := by rw [PL0.out, CS.byte_place, if_neg (by rw [← hdd, HD.out]; simp)]
          have RF := Lib.hid (Rf.byte X6 O6 hdd hpl)
          have I2 := Lib.hid (I1.out.step hlt HD.out HW.out (by rw [← HX.out]; exact RF.out) K6 SUB.out)
          clear X6 O6 K6 hdd hpl
          go_wp2_with fail
          go_roundw
          case rel => exact ⟨j + 1, _, _, by go_num, by omega, I2⟩
          case measure => simp [intOf]; omega
    · have j1 : ¬ (j : Int) < (l.length : Int) := by omega
      obtain ⟨e1, e2⟩ := I.out.stop (Or.inr (Or.inr (List.drop_eq_nil_of_le (by omega))))
      have E1 := Lib.hid e1
      clear e1 H1 H2 H3 c0 c1 c2 c3 c4 c5 fz
      go_wp2_with fail
      go_ret
      exact ⟨ret_int (by rw [E1.out]), e2⟩
/-- What Next leaves of the reference's. -/
def RNextOut (w : World) (q : Nat) (R : List Nat) (st : CS) (e : Ending) (w' : World) : Prop :=
  ∃ v R', e = .returned (.tuple #[v, .bool st.whole]) ∧ Hid (Own w' w.heap.size v st.got) ∧ Hid (Rf w' q R' st.next) ∧ Hid (Kept R w w') ∧ Hid (∀ k ∈ R', k ∈ R)
theorem next_any (w : World) (q : Nat) (R : List Nat) (st : CS) (ok : Hid st.Ok) (ht : st.taken ≤ 1152921504606846976) (h : Hid (Rf w q R st)) :
    Calls Try.prog 47 #[.pointer (some ⟨q, 0, none⟩)] w (RNextOut w q R st) := by
  have WHOLE := whole_any w q R st ok h
  by_cases hw : st.whole = true
  · obtain ⟨q1, q2, q3⟩ := (CS.whole_iff ok.out).1 hw
    have q4 := (ok.out.live q1 q2).2.1
    have e1 : st.got = st.hand := by unfold CS.got; rw [if_pos hw]
    have e2 : st.next = { st with hand := [], taken := st.taken + 1 } := by unfold CS.next; rw [if_pos hw]
    have OUTh : Hid (∀ v w' R', Hid (Own w' w.heap.size v st.hand) → Hid (Rf w' q R' { st with hand := [], taken := st.taken + 1 }) → Hid (Kept R w w') → Hid (∀ k ∈ R', k ∈ R) → RNextOut w q R st (.returned (.tuple #[v, .bool true])) w') := by
      intro v w' R' a1 a2 a3 a4
      unfold RNextOut
      rw [hw, e1, e2]
      exact ⟨v, R', rfl, a1, a2, a3, a4⟩
    rw [hw] at WHOLE
    have WHOLEh := Lib.hid WHOLE
    have HD := Lib.hid q1
    have Q4 : st.hand.length ≤ 65536 := by omega
    obtain ⟨i0, hi0, hz00, hz01, hz02⟩ := info_parts info_u8
    clear WHOLE hw e1 e2 q1 q2 q3 q4
    go_enter Try.func47, Try.ntmps47
    go_wp2_with fail
    refine WHOLEh.out.mono ?_
    rintro e w1 ⟨rfl, m, hw1⟩
    have K1 : Hid (Kept [] w w1) := by rw [hw1]; exact (Kept.refl [] w).drewN m
    have hz : w1.heap.size = w.heap.size := by rw [hw1]; rfl
    have HZ := Lib.hid hz
    clear hw1 WHOLEh hz
    obtain ⟨v, H1, H2, H3⟩ := h.out.kept K1.out (fun _ _ hm => by simp at hm)
    obtain ⟨c0, c1, c2, c3, c4, c5, fz⟩ := sixR H1
    obtain ⟨a, c, rfl⟩ := own_slice H2
    obtain ⟨n, hn⟩ : ∃ n, n = st.hand.length := ⟨_, rfl⟩
    have HN := Lib.hid hn
    rw [← hn] at H1 H3 c1 Q4
    have RS : Hid (RowSrc w1 (.slice a n c) n (st.hand.map bv)) := by have := (Src.of_own H2).rowsrc; rw [← hn] at this; exact this
    have hlen : (st.hand.map bv).length = n * 1 := by rw [List.length_map, hn]; omega
    have HL := Lib.hid hlen
    have H1h := Lib.hid H1
    have H3h := Lib.hid H3
    clear hn hlen H1 H2 H3 c0 c2 c3 c4 c5 fz
    go_wp2_with (at_builtin; refine wpList_append_src w1 rfl (.tmp 8) (.tmp 12) 22 rfl w1.heap.size 5 i0 (.int .u8 0) 1 1 Try.underlying22 hi0 hz00 hz01 hz02 rfl (by decide) (.slice none 0 0) 0 [] rfl (World.ownsRow_nil _ _ _ _) (.slice a n c) n (st.hand.map bv) rfl RS.out HL.out (by intro u hu; obtain ⟨b, -, rfl⟩ := List.mem_map.1 hu; rfl) (by unfold maxLen; omega) (by omega) (Nat.le_refl _) ?_; intro v4 w4 hown4 hgrow4 hat4; have O4 := Lib.hid hown4; have K4 : Hid (Kept [] w1 w4) := (Kept.refl [] w1).grown hgrow4 (fun k e => by cases e); clear hown4 hgrow4 hat4; have X4 := Lib.hid ((K4.out.block q (block_lt H1h.out) (by simp)).trans H1h.out); obtain ⟨n0, n1, n2, n3, n4, n5, nz⟩ := sixR X4.out; have f1 := nz 1; have f3 := nz 3)
    go_ret2
    have P1 := heap_set (i := 1) (.slice none 0 0) X4.out
    have P2 := heap_set (i := 3) (.int .i64 ((st.taken : Int) + 1)) P1
    have O : Own w4 w.heap.size v4 st.hand := by
      have := O4.out
      rw [HZ.out, Nat.zero_add, List.nil_append, HN.out] at this
      exact this
    obtain ⟨A1, A2⟩ : Own (w4.setCell ⟨q, 1, none⟩ (.slice none 0 0)) w.heap.size v4 st.hand ∧ Kept [q] w4 (w4.setCell ⟨q, 1, none⟩ (.slice none 0 0)) := by
      have ks : Kept [q] w4 (w4.setCell ⟨q, 1, none⟩ (.slice none 0 0)) := (Kept.refl _ _).setCell (p := ⟨q, 1, none⟩) (Or.inl (by simp)) _
      exact ⟨ownsRow_kept O ks (fun k e hm => own_neB O X4.out (by decide) k e (by simpa using hm)), ks⟩
    obtain ⟨A3, A4⟩ : Own ((w4.setCell ⟨q, 1, none⟩ (.slice none 0 0)).setCell ⟨q, 3, none⟩ (.int .i64 ((st.taken : Int) + 1))) w.heap.size v4 st.hand ∧ Kept [q] (w4.setCell ⟨q, 1, none⟩ (.slice none 0 0)) ((w4.setCell ⟨q, 1, none⟩ (.slice none 0 0)).setCell ⟨q, 3, none⟩ (.int .i64 ((st.taken : Int) + 1))) := by
      have ks : Kept [q] (w4.setCell ⟨q, 1, none⟩ (.slice none 0 0)) ((w4.setCell ⟨q, 1, none⟩ (.slice none 0 0)).setCell ⟨q, 3, none⟩ (.int .i64 ((st.taken : Int) + 1))) := (Kept.refl _ _).setCell (p := ⟨q, 3, none⟩) (Or.inl (by simp)) _
      exact ⟨ownsRow_kept A1 ks (fun k e hm => own_neB A1 P1 (by decide) k e (by simpa using hm)), ks⟩
    have hqR : q ∈ R := by rw [H3h.out]; simp
    refine OUTh.out _ _ [q] A3 ⟨.slice none 0 0, ?_, World.ownsRow_nil _ _ _ _, rfl⟩ ((((K1.out.trans K4.out (fun i hi => by simp at hi)).mono (T := R) (fun i hi => by simp at hi)).trans A2 (fun i hi => Or.inl (by simp at hi; rw [hi]; exact hqR))).trans A4 (fun i hi => Or.inl (by simp at hi; rw [hi]; exact hqR))) (fun k hk => by simp at hk; rw [hk]; exact hqR)
    have P2' := P2
    simp at P2'
    rw [P2']
    rfl
  · have e1 : st.got = [] := by unfold CS.got; rw [if_neg hw]
    have e2 : st.next = st := by unfold CS.next; rw [if_neg hw]
    have hw' : st.whole = false := by simpa using hw
    have OUTh : Hid (∀ w', Kept [] w w' → RNextOut w q R st (.returned (.tuple #[.slice none 0 0, .bool false])) w') := by
      intro w' k
      unfold RNextOut
      rw [hw', e1, e2]
      exact ⟨_, R, rfl, World.ownsRow_nil _ _ _ _, h.out.kept k (fun _ _ hm => by simp at hm), k.mono (fun i hi => by simp at hi), fun _ hk => hk⟩
    rw [hw'] at WHOLE
    have WHOLEh := Lib.hid WHOLE
    clear WHOLE hw hw' e1 e2
    go_enter Try.func47, Try.ntmps47
    go_wp2_with fail
    refine WHOLEh.out.mono ?_
    rintro e w1 ⟨rfl, m, hw1⟩
    have K1 : Hid (Kept [] w w1) := by rw [hw1]; exact (Kept.refl [] w).drewN m
    clear hw1
    go_wp2_with fail
    go_ret2
    exact OUTh.out _ K1.out
end Ref
end Go.Proofs.Ytepemdicbipphaa
