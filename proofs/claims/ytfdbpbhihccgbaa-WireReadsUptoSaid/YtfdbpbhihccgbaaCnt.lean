/- What U8, U16 and counted of a reader do. -/
import Derived.Test.YtfdbpbhihccgbaaTak
namespace Go.Proofs.Ytfdbpbhihccgbaa
set_option linter.unusedVariables false
open Go.RowKit

theorem RS.Ok.failAt {st : RS} (h : st.Ok) (e : Int) (p : Nat) (h1 : -9223372036854775808 ≤ e) (h2 : e ≤ 9223372036854775807) : (st.failAt e p).Ok := by
  unfold RS.failAt
  split
  · exact ⟨h.pos, h1, h2⟩
  · exact h
theorem RS.Ok.fail {st : RS} (h : st.Ok) (e : Int) (h1 : -9223372036854775808 ≤ e) (h2 : e ≤ 9223372036854775807) : (st.fail e).Ok := h.failAt e _ h1 h2
theorem RS.Ok.next {st : RS} (h : st.Ok) (n : Nat) : (st.next n).Ok := by
  unfold RS.next
  split
  · exact h.fail 10 (by decide) (by decide)
  · split
    · exact h
    · exact ⟨by have := h.pos; simp; omega, h.e1, h.e2⟩

/-- The count that stands here; the reader that has gone over it and its bytes; those bytes; what is left of the reader itself. -/
def RS.cnt (st : RS) : Nat := leval (st.got 2)
def RS.peek (st : RS) : RS := (st.next 2).next st.cnt
def RS.piece (st : RS) : List UInt8 := (st.next 2).got st.cnt
def RS.counted (st : RS) : RS := if st.peek.err = 0 then st else st.fail st.peek.err
theorem leval_lt (l : List UInt8) : leval l < 256 ^ l.length := by
  induction l with
  | nil => simp [leval]
  | cons b l ih =>
    have := b.toNat_lt
    simp only [leval, List.length_cons, Nat.pow_succ]
    omega
theorem RS.got_length (st : RS) (n : Nat) : (st.got n).length ≤ n := by
  unfold RS.got
  repeat' split
  · simp
  · simp
  · simp; omega
theorem RS.cnt_lt (st : RS) : st.cnt ≤ 65535 := by
  have h1 := leval_lt (st.got 2)
  have h2 := RS.got_length st 2
  have h3 : 256 ^ (st.got 2).length ≤ 256 ^ 2 := Nat.pow_le_pow_right (by decide) h2
  unfold RS.cnt
  omega

namespace Rdr
open Go.Proofs.Ytfdbpbhihccgbaa.Txt

theorem u16_any (w : World) (r : Nat) (T : List Nat) (st : RS) (ok : Hid st.Ok) (h : Hid (Rd w r T st)) :
    Calls Try.prog 30 #[.pointer (some ⟨r, 0, none⟩)] w fun e w' => e = .returned (.int .u16 st.cnt) ∧ Hid (Rd w' r T (st.next 2)) ∧ Kept [r] w w' := by
  have k := RS.cnt_lt st
  go_enter Try.func30, Try.ntmps30
  go_wp2_with fail
  refine (take16 _ r T st ok h).mono ?_
  rintro e w1 ⟨rfl, h1, h2⟩
  go_wp2_with fail
  go_ret
  exact ⟨rfl, h1, h2⟩
theorem u8_any (w : World) (r : Nat) (T : List Nat) (st : RS) (ok : Hid st.Ok) (h : Hid (Rd w r T st)) :
    Calls Try.prog 32 #[.pointer (some ⟨r, 0, none⟩)] w fun e w' => e = .returned (.int .u8 (leval (st.got 1))) ∧ Hid (Rd w' r T (st.next 1)) ∧ Kept [r] w w' := by
  go_enter Try.func32, Try.ntmps32
  go_wp2_with fail
  refine (take8 _ r T st ok h).mono ?_
  rintro e w1 ⟨rfl, h1, h2⟩
  go_wp2_with fail
  go_ret
  exact ⟨rfl, h1, h2⟩

def CountOut (w : World) (r : Nat) (T : List Nat) (st : RS) (e : Ending) (w' : World) : Prop :=
  ∃ v, e = .returned (.tuple #[v, .bool (st.counted.err == 0)]) ∧ Hid (Seg w' v st.piece T) ∧ Hid (Rd w' r T st.counted) ∧ Kept [r] w w'

set_option maxHeartbeats 400000 in
theorem counted_any (w : World) (r : Nat) (T : List Nat) (st : RS) (hT : Hid (∀ k ∈ T, k < w.heap.size)) (ok : Hid st.Ok) (h : Hid (Rd w r T st)) :
    Calls Try.prog 65 #[.pointer (some ⟨r, 0, none⟩)] w (CountOut w r T st) := by
  obtain ⟨v, c0, c1, c2, c3, fz, hs, hp, hr⟩ := h.out.parts
  have k := RS.cnt_lt st
  have hlt := h.out.lt
  obtain ⟨a, c, rfl⟩ := hs.out.slice
  obtain ⟨W, hW⟩ : ∃ W, W = w.alloc (.cells #[.slice a st.left.length c, .int .i64 st.pos, .int .i64 st.err, .int .i64 st.bad] 86) := ⟨_, rfl⟩
  have hkW : Kept [] w W := by rw [hW]; exact (Kept.refl _ _).alloc _
  have hc0 : Hid (Rd W w.heap.size T st) := by
    refine ⟨_, ?_, hs.out.kept hkW (fun k _ hm => by simp at hm), fun hm => by have := hT.out _ hm; omega⟩
    rw [hW]; exact heap_alloc_new w _
  have hr0 : Hid (Rd W r T st) := h.out.kept hkW (by simp) (fun k _ hm => by simp at hm)
  have HW := Lib.hid hW
  have ok1 : Hid (st.next 2).Ok := ok.out.next 2
  have hrr : Hid (r ≠ w.heap.size) := by show r ≠ _; omega
  have hrT : Hid (r ∉ T) := hr.out
  have hTT : Hid (∀ k ∈ T, k ∉ [w.heap.size]) := fun k hk hm => by have := hT.out k hk; simp at hm; omega
  have hTr : Hid (∀ k ∈ T, k ∉ [r]) := fun k hk hm => by simp at hm; exact hr.out (hm ▸ hk)
  clear hW hs hp hr
  go_enter Try.func65, Try.ntmps65
  go_wp2_with fail
  rw [← HW.out]
  refine (u16_any _ w.heap.size T st ok hc0).mono ?_
  rintro e w1 ⟨rfl, h1, k1⟩
  have hr1 : Hid (Rd w1 r T st) := hr0.out.kept k1 (by simpa using hrr.out) hTT.out
  have K1 : Hid (Kept [] w w1) := hkW.trans k1 (fun i hi => by simp at hi; exact Or.inr (by omega))
  clear k1 hkW hc0 hr0 c0 c1 c2 c3 fz
  go_wp2_with fail
  refine (next_any _ w.heap.size T (st.next 2) _ st.cnt rfl ok1 h1).mono ?_
  rintro e w2 ⟨v, rfl, hv, h2, k2⟩
  have hr2 : Hid (Rd w2 r T st) := hr1.out.kept k2 (by simpa using hrr.out) hTT.out
  have K2 : Hid (Kept [] w w2) := K1.out.trans k2 (fun i hi => by simp at hi; exact Or.inr (by omega))
  obtain ⟨v2, d0, d1, d2, d3, fz2, -⟩ := h2.out.parts
  clear k2
  go_wp2_with fail
  refine (right_any _ w.heap.size T _ h2).mono ?_
  rintro e w3 ⟨rfl, rfl⟩
  by_cases he : ((st.next 2).next st.cnt).err = 0
  · have E : (((st.next 2).next st.cnt).err == 0) = true := by rw [he]; rfl
    have e1 : st.counted = st := by unfold RS.counted RS.peek; rw [if_pos he]
    have E1 := Lib.hid e1
    clear he e1
    go_wp2_with fail
    refine (right_any _ r T _ hr2).mono ?_
    rintro e w3 ⟨rfl, rfl⟩
    go_wp2_with fail
    go_ret2
    refine ⟨v, by rw [E1.out]; rfl, hv, by rw [E1.out]; exact hr2, K2.out.mono (fun i hi => by simp at hi)⟩
  · have E : (((st.next 2).next st.cnt).err == 0) = false := by simpa using he
    have e1 : st.counted = st.fail ((st.next 2).next st.cnt).err := by unfold RS.counted RS.peek; rw [if_neg he]
    have E1 := Lib.hid e1
    clear he e1
    go_wp2_with fail
    refine (fail_any _ r T st _ hr2).mono ?_
    rintro e w4 ⟨rfl, h4, k4⟩
    rw [← E1.out] at h4
    have hv4 : Hid (Seg w4 v st.piece T) := hv.out.kept k4 hTr.out
    have K4 : Hid (Kept [r] w w4) := (K2.out.mono (T := [r]) (fun i hi => by simp at hi)).trans k4 (fun i hi => Or.inl hi)
    go_wp2_with fail
    refine (right_any _ r T _ h4).mono ?_
    rintro e w5 ⟨rfl, rfl⟩
    go_wp2_with fail
    go_ret2
    exact ⟨v, rfl, hv4, h4, K4⟩
end Rdr
end Go.Proofs.Ytfdbpbhihccgbaa
