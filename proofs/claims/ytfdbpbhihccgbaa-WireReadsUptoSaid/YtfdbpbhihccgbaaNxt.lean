/- What next of a reader does: it goes over n bytes and answers them; or the reader is wrong. -/
import Derived.Test.YtfdbpbhihccgbaaRdr
namespace Go.Proofs.Ytfdbpbhihccgbaa
set_option linter.unusedVariables false
open Go.RowKit
namespace Rdr
open Go.Proofs.Ytfdbpbhihccgbaa.Txt

/-- The answer: some bytes, a part of the reader's own. -/
def NextOut (w : World) (r : Nat) (T : List Nat) (st : RS) (bs : List UInt8) (e : Ending) (w' : World) : Prop :=
  ∃ v, e = .returned v ∧ Hid (Seg w' v bs T) ∧ Hid (Rd w' r T st) ∧ Kept [r] w w'

theorem RS.fail_err {st : RS} {e : Int} (h : e ≠ 0) : (st.fail e).err ≠ 0 := by
  unfold RS.fail RS.failAt
  split
  · exact h
  · rename_i k; omega

/-- Too few bytes. -/
theorem next_short (w : World) (r : Nat) (T : List Nat) (st : RS) (x : Int) (n : Nat) (hx : x = n) (hn : st.left.length < n) (h : Hid (Rd w r T st)) :
    Calls Try.prog 66 #[.pointer (some ⟨r, 0, none⟩), .int .i64 x] w (NextOut w r T (st.next n) (st.got n)) := by
  subst hx
  have e1 : st.next n = st.fail 10 := by unfold RS.next; rw [if_pos hn]
  have e2 : st.got n = [] := by unfold RS.got; rw [if_pos hn]
  rw [e1, e2]
  obtain ⟨v, c0, c1, c2, c3, fz, hs, -⟩ := h.out.parts
  obtain ⟨a, c, rfl⟩ := hs.out.slice
  have hn' : (st.left.length : Int) < (n : Int) := by omega
  have E : ((st.fail 10).err == 0) = false := by simpa using RS.fail_err (st := st) (e := 10) (by decide)
  clear e1 e2 hn
  go_enter Try.func66, Try.ntmps66
  go_wp2_with fail
  refine (fail_any _ r T st 10 h).mono ?_
  rintro e w1 ⟨rfl, h1, h2⟩
  go_wp2_with fail
  refine (right_any _ r T _ h1).mono ?_
  rintro e w2 ⟨rfl, rfl⟩
  go_wp2_with fail
  go_ret
  exact ⟨_, rfl, Seg.empty _ _, h1, h2⟩

/-- It was wrong before. -/
theorem next_wrong (w : World) (r : Nat) (T : List Nat) (st : RS) (x : Int) (n : Nat) (hx : x = n) (hn : n ≤ st.left.length) (he : st.err ≠ 0) (h : Hid (Rd w r T st)) :
    Calls Try.prog 66 #[.pointer (some ⟨r, 0, none⟩), .int .i64 x] w (NextOut w r T (st.next n) (st.got n)) := by
  subst hx
  have e1 : st.next n = st := by unfold RS.next; rw [if_neg (by omega), if_pos he]
  have e2 : st.got n = [] := by unfold RS.got; rw [if_neg (by omega), if_pos he]
  rw [e1, e2]
  obtain ⟨v, c0, c1, c2, c3, fz, hs, -⟩ := h.out.parts
  obtain ⟨a, c, rfl⟩ := hs.out.slice
  have hn' : ¬ (st.left.length : Int) < (n : Int) := by omega
  have E : (st.err == 0) = false := by simpa using he
  clear e1 e2 hn he
  go_enter Try.func66, Try.ntmps66
  go_wp2_with fail
  refine (right_any _ r T st h).mono ?_
  rintro e w1 ⟨rfl, rfl⟩
  go_wp2_with fail
  go_ret
  exact ⟨_, rfl, Seg.empty _ _, h, Kept.refl _ _⟩

/-- The cells of a reader that has gone on. -/
theorem gone_on {w : World} {r n : Nat} {T : List Nat} {st : RS} {v v' : Value} {bs : List UInt8} {q : Int} (hq : q = ((st.pos + n : Nat) : Int)) (hp : w.heap[r]? = some (.cells #[v, .int .i64 st.pos, .int .i64 st.err, .int .i64 st.bad] 86 (0, 0))) (hr : r ∉ T) (hs : Seg w v' bs T) :
    Rd ((w.setCell ⟨r, 0, none⟩ v').setCell ⟨r, 1, none⟩ (.int .i64 q)) r T { st with left := bs, pos := st.pos + n } ∧ Kept [r] w ((w.setCell ⟨r, 0, none⟩ v').setCell ⟨r, 1, none⟩ (.int .i64 q)) := by
  subst hq
  have hk : Kept [r] w ((w.setCell ⟨r, 0, none⟩ v').setCell ⟨r, 1, none⟩ (.int .i64 ((st.pos + n : Nat) : Int))) := ((Kept.refl _ _).setCell (Or.inl (by simp)) _).setCell (Or.inl (by simp)) _
  refine ⟨⟨v', ?_, hs.kept hk (fun k hk2 hm => hr (by simp at hm; exact hm ▸ hk2)), hr⟩, hk⟩
  rw [heap_set _ (heap_set _ hp)]
  rfl

set_option maxRecDepth 100000 in
/-- Nothing is gone over where nothing is. -/
theorem next_nil (w : World) (r : Nat) (T : List Nat) (st : RS) (hl : st.left = []) (he : st.err = 0) (hb : st.pos ≤ 1152921504606846976)
    (hv : Hid (w.heap[r]? = some (.cells #[.slice none 0 0, .int .i64 st.pos, .int .i64 st.err, .int .i64 st.bad] 86 (0, 0)))) (h : Hid (Rd w r T st)) :
    Calls Try.prog 66 #[.pointer (some ⟨r, 0, none⟩), .int .i64 0] w (NextOut w r T (st.next 0) (st.got 0)) := by
  have e1 : st.next 0 = st := by unfold RS.next; rw [if_neg (by omega), if_neg (by omega), hl]; cases st; subst hl; rfl
  have e2 : st.got 0 = [] := by unfold RS.got; rw [if_neg (by omega), if_neg (by omega), hl]; rfl
  rw [e1, e2]
  obtain ⟨c0, c1, c2, c3, fz⟩ := four hv.out
  obtain ⟨_, _, _, hr⟩ := h.out
  have g := gone_on (n := 0) (v' := .slice none 0 0) (bs := []) (q := (st.pos : Int)) rfl hv.out hr (Seg.empty w T)
  have G := Lib.hid g
  have HL := Lib.hid hl
  have E : (st.err == 0) = true := by rw [he]; rfl
  clear e1 e2 g hl he
  go_enter Try.func66, Try.ntmps66
  go_wp2_with fail
  refine (right_any _ r T st h).mono ?_
  rintro e w1 ⟨rfl, rfl⟩
  go_wp2_with fail
  go_ret
  refine ⟨_, rfl, Seg.empty _ _, ?_, G.out.2⟩
  have := G.out.1
  rwa [← HL.out] at this

set_option maxHeartbeats 400000 in
/-- As many as there are. -/
theorem next_good (w : World) (r : Nat) (T : List Nat) (st : RS) (x : Int) (n b o c : Nat) (hx : x = n) (hn : n ≤ st.left.length) (he : (st.err == 0) = true) (hb : st.pos + st.left.length ≤ 1152921504606846976)
    (hv : Hid (w.heap[r]? = some (.cells #[.slice (some ⟨b, o, none⟩) st.left.length c, .int .i64 st.pos, .int .i64 st.err, .int .i64 st.bad] 86 (0, 0)))) (hc : st.left.length ≤ c)
    (hsg : Hid (Seg w (.slice (some ⟨b, o, none⟩) st.left.length c) st.left T)) (hr : Hid (r ∉ T)) (h : Hid (Rd w r T st)) :
    Calls Try.prog 66 #[.pointer (some ⟨r, 0, none⟩), .int .i64 x] w (NextOut w r T { st with left := st.left.drop n, pos := st.pos + n } (st.left.take n)) := by
  subst hx
  obtain ⟨c0, c1, c2, c3, fz⟩ := four hv.out
  have hn' : ¬ (st.left.length : Int) < (n : Int) := by omega
  have s1 := hsg.out.take hn
  have s2 := fun a ha => hsg.out.drop hn a ha
  have S1 := Lib.hid s1
  have S2 := Lib.hid s2
  clear s1 s2
  have HV := hv.out
  by_cases hcn : c = n
  · subst hcn
    have g := gone_on (n := c) (q := (st.pos : Int) + (c : Int)) (by omega) hv.out hr.out (S2.out _ (Or.inl ⟨rfl, rfl⟩))
    have hL : st.left.length - c = 0 := by omega
    rw [Nat.sub_self, hL] at g
    clear hL
    have G := Lib.hid g
    clear g HV
    go_enter Try.func66, Try.ntmps66
    go_wp2_with fail
    refine (right_any _ r T st h).mono ?_
    rintro e w1 ⟨rfl, rfl⟩
    go_wp2_with fail
    go_ret
    exact ⟨_, rfl, S1.out.kept G.out.2 (fun k hk hm => hr.out (by simp at hm; exact hm ▸ hk)), G.out⟩
  · have g := gone_on (n := n) (q := (st.pos : Int) + (n : Int)) (by omega) hv.out hr.out (S2.out _ (Or.inr rfl))
    have G := Lib.hid g
    clear g HV
    go_enter Try.func66, Try.ntmps66
    go_wp2_with fail
    refine (right_any _ r T st h).mono ?_
    rintro e w1 ⟨rfl, rfl⟩
    go_wp2_with fail
    go_ret
    exact ⟨_, rfl, S1.out.kept G.out.2 (fun k hk hm => hr.out (by simp at hm; exact hm ▸ hk)), G.out⟩

/-- next. -/
theorem next_any (w : World) (r : Nat) (T : List Nat) (st : RS) (x : Int) (n : Nat) (hx : x = n) (ok : Hid st.Ok) (h : Hid (Rd w r T st)) :
    Calls Try.prog 66 #[.pointer (some ⟨r, 0, none⟩), .int .i64 x] w (NextOut w r T (st.next n) (st.got n)) := by
  have k1 := ok.out.pos
  by_cases hn : st.left.length < n
  · exact next_short w r T st x n hx hn h
  · by_cases he : st.err = 0
    · obtain ⟨v, h1, h2, h3⟩ := h.out
      rcases h2 with ⟨rfl, hl⟩ | ⟨b, o, c, rfl, hc, hb⟩
      · have hn0 : n = 0 := by rw [hl] at hn; simp at hn; exact hn
        subst hn0
        subst hx
        exact next_nil w r T st hl he (by omega) h1 h
      · have e1 : st.next n = { st with left := st.left.drop n, pos := st.pos + n } := by unfold RS.next; rw [if_neg hn, if_neg (by omega)]
        have e2 : st.got n = st.left.take n := by unfold RS.got; rw [if_neg hn, if_neg (by omega)]
        rw [e1, e2]
        exact next_good w r T st x n b o c hx (by omega) (by rw [he]; rfl) k1 h1 hc (Or.inr ⟨b, o, c, rfl, hc, hb⟩) h3 h
    · exact next_wrong w r T st x n hx (by omega) he h
end Rdr
end Go.Proofs.Ytfdbpbhihccgbaa
