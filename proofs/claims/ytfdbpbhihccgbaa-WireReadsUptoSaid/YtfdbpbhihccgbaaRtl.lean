/- A reader and the reference's, side by side: states that stay within bounds; the law's tells and number. -/
import Derived.Test.YtfdbpbhihccgbaaVrp
namespace Go.Proofs.Ytfdbpbhihccgbaa
set_option linter.unusedVariables false
open Go.RowKit

/-- Numbers that stay small. -/
structure RS.Fine (st : RS) : Prop where
  pos : st.pos + st.left.length ≤ 67108864
  bad : st.bad ≤ 67108864
  e1 : -9223372036854775808 ≤ st.err
  e2 : st.err ≤ 9223372036854775807
theorem RS.Fine.ok {st : RS} (h : st.Fine) : st.Ok := ⟨by have := h.pos; omega, h.e1, h.e2⟩
theorem RS.Fine.failAt {st : RS} (h : st.Fine) (e : Int) (p : Nat) (h1 : -9223372036854775808 ≤ e) (h2 : e ≤ 9223372036854775807) (hp : p ≤ 67108864) : (st.failAt e p).Fine := by
  unfold RS.failAt
  split
  · exact ⟨h.pos, hp, h1, h2⟩
  · exact h
theorem RS.Fine.fail {st : RS} (h : st.Fine) (e : Int) (h1 : -9223372036854775808 ≤ e) (h2 : e ≤ 9223372036854775807) : (st.fail e).Fine := h.failAt e _ h1 h2 (by have := h.pos; omega)
theorem RS.Fine.next {st : RS} (h : st.Fine) (n : Nat) : (st.next n).Fine := by
  unfold RS.next
  split
  · exact h.fail 10 (by decide) (by decide)
  · split
    · exact h
    · exact ⟨by have := h.pos; simp; omega, h.bad, h.e1, h.e2⟩
theorem RS.Fine.counted {st : RS} (h : st.Fine) : st.counted.Fine := by
  unfold RS.counted
  have h2 : st.peek.Fine := (h.next 2).next _
  split
  · exact h
  · exact h.fail _ h2.e1 h2.e2
theorem RS.Fine.text {st : RS} (h : st.Fine) : st.text.Fine := by
  have hc := h.counted
  unfold RS.text
  split
  · exact hc
  · rename_i he
    obtain ⟨q1, q2, q3, q4, q5⟩ := RS.piece_eq (by omega : st.counted.err = 0)
    split
    · refine hc.failAt 12 _ (by decide) (by decide) ?_
      have h1 := Utf.bad_le (str st.piece)
      rw [Rdr.str_size, q5] at h1
      have h2 := hc.pos
      rw [q1] at h2 ⊢
      omega
    · exact hc.next _
theorem RS.Fine.past {st : RS} (h : st.Fine) : st.past.Fine := by
  unfold RS.past
  split
  · exact h.counted
  · exact h.counted.next _
theorem RS.Fine.part {st : RS} (h : st.Fine) : st.part.Fine := by
  have hc := h.counted
  have hp := h.past
  unfold RS.part
  split
  · exact ⟨by show st.counted.bad + 0 ≤ _; have := hc.bad; omega, hc.bad, hc.e1, hc.e2⟩
  · rename_i he
    obtain ⟨q1, q2, q3, q4, q5⟩ := RS.piece_eq (by omega : st.counted.err = 0)
    refine ⟨?_, Nat.zero_le _, by show (-9223372036854775808 : Int) ≤ 0; decide, by show (0 : Int) ≤ 9223372036854775807; decide⟩
    have e : st.past.pos = st.pos + (2 + st.cnt) := by
      unfold RS.past RS.next
      rw [if_neg (by omega), q1, q5, if_neg (by omega), if_neg (by omega)]
    show st.past.pos - st.piece.length + st.piece.length ≤ _
    have := hp.pos
    omega
theorem RS.Fine.rawed {st : RS} (h : st.Fine) (x : Int) : (st.rawed x).Fine := by
  unfold RS.rawed
  split
  · exact h.fail 1 (by decide) (by decide)
  · exact h.next _
theorem RS.Fine.end {st : RS} (h : st.Fine) : (Rdr.RS.end st).Fine := by
  unfold Rdr.RS.end
  split
  · exact h.fail 14 (by decide) (by decide)
  · exact h

/-- Both readers in one state. -/
structure Pr (w : World) (r q : Nat) (T U : List Nat) (st : RS) : Prop where
  a : Rd w r T st
  b : Vd w q U st
  ne : r ≠ q
  rU : r ∉ U
  qT : q ∉ T
  lt : ∀ k ∈ T ++ U, k < w.heap.size
theorem Pr.rT {w : World} {r q : Nat} {T U : List Nat} {st : RS} (h : Pr w r q T U st) : r ∉ T := by obtain ⟨_, _, _, x⟩ := h.a; exact x
theorem Pr.qU {w : World} {r q : Nat} {T U : List Nat} {st : RS} (h : Pr w r q T U st) : q ∉ U := by obtain ⟨_, _, _, _, x⟩ := h.b; exact x.out
theorem Pr.kept {w w' : World} {r q : Nat} {T U S : List Nat} {st : RS} (h : Pr w r q T U st) (K : Kept S w w') (hr : r ∉ S) (hq : q ∉ S) (hd : ∀ k ∈ T ++ U, k ∉ S) : Pr w' r q T U st :=
  ⟨h.a.kept K hr (fun k hk => hd k (List.mem_append_left _ hk)), h.b.kept K hq (fun k hk => hd k (List.mem_append_right _ hk)), h.ne, h.rU, h.qT, fun k hk => Nat.lt_of_lt_of_le (h.lt k hk) K.size⟩
theorem Pr.pure {w w' : World} {r q : Nat} {T U : List Nat} {st : RS} (h : Pr w r q T U st) (K : Kept [] w w') : Pr w' r q T U st := h.kept K (by simp) (by simp) (fun _ _ hm => by cases hm)
/-- The code's has been used; then the reference's. -/
theorem Pr.left {w w1 : World} {r q : Nat} {T U : List Nat} {st : RS} (h : Pr w r q T U st) (K : Kept [r] w w1) : Vd w1 q U st :=
  h.b.kept K (by have := h.ne; simp; omega) (fun k hk hm => by simp at hm; exact h.rU (hm ▸ hk))
theorem Pr.both {w w1 w2 : World} {r q : Nat} {T U : List Nat} {st s' : RS} (h : Pr w r q T U st) (a1 : Rd w1 r T s') (K1 : Kept [r] w w1) (b2 : Vd w2 q U s') (K2 : Kept [q] w1 w2) : Pr w2 r q T U s' ∧ Kept [r, q] w w2 := by
  have K := (K1.mono (T := [r, q]) (fun i hi => Or.inl (by simp at hi; simp [hi]))).trans K2 (fun i hi => Or.inl (by simp at hi; simp [hi]))
  exact ⟨⟨a1.kept K2 (by have := h.ne; simp; omega) (fun k hk hm => by simp at hm; exact h.qT (hm ▸ hk)), b2, h.ne, h.rU, h.qT, fun k hk => Nat.lt_of_lt_of_le (h.lt k hk) K.size⟩, K⟩

namespace Lst
open Go.Proofs.Ytfdbpbhihccgbaa.Txt

set_option maxHeartbeats 1000000 in
theorem tells_any (w : World) (r q : Nat) (T U : List Nat) (st : RS) (f : Hid st.Fine) (h : Hid (Pr w r q T U st)) :
    Calls Try.prog 22 #[.pointer (some ⟨r, 0, none⟩), .pointer (some ⟨q, 0, none⟩)] w fun e w' => e = .returned (.bool true) ∧ Kept [] w w' := by
  have hb : st.pos + st.left.length ≤ 1152921504606846976 := by have := f.out.pos; omega
  have hb2 : st.pos ≤ 1152921504606846976 := by omega
  have L1 : Hid (∀ w1, Kept [] w w1 → Calls Try.prog 36 #[.pointer (some ⟨r, 0, none⟩)] w1 fun e w' => e = .returned (.int .i64 (if st.err = 0 then st.left.length else 0 : Nat)) ∧ w1 = w') := fun w1 K => Rdr.left_any w1 r T st (h.out.pure K).a
  have L2 : Hid (∀ w1, Kept [] w w1 → Calls Try.prog 54 #[.pointer (some ⟨q, 0, none⟩)] w1 fun e w' => e = .returned (.int .i64 (if st.err = 0 then st.left.length else 0 : Nat)) ∧ ∃ n, w' = w1.drewN n) := fun w1 K => Vrd.left_any w1 q U st hb (h.out.pure K).b
  have A1 : Hid (∀ w1, Kept [] w w1 → Calls Try.prog 35 #[.pointer (some ⟨r, 0, none⟩)] w1 fun e w' => e = .returned (.int .i64 st.pos) ∧ w1 = w') := fun w1 K => Rdr.at_any w1 r T st (h.out.pure K).a
  have A2 : Hid (∀ w1, Kept [] w w1 → Calls Try.prog 55 #[.pointer (some ⟨q, 0, none⟩)] w1 fun e w' => e = .returned (.int .i64 st.pos) ∧ ∃ n, w' = w1.drewN n) := fun w1 K => Vrd.at_any w1 q U st hb2 (h.out.pure K).b
  obtain ⟨ln, hln⟩ : ∃ n, n = (if st.err = 0 then st.left.length else 0 : Nat) := ⟨_, rfl⟩
  rw [← hln] at L1 L2
  clear hln
  go_enter Try.func22, Try.ntmps22
  go_wp2_with fail
  refine (Rdr.err_any w r T st h.out.a).mono ?_
  rintro e w1 ⟨rfl, k1⟩
  have K1 := Lib.hid k1
  clear k1
  go_wp2_with fail
  refine (Vrd.err_any w1 q U st (h.out.pure K1.out).b).mono ?_
  rintro e w2 ⟨rfl, k2⟩
  have K2 : Hid (Kept [] w w2) := K1.out.trans k2 (fun _ hm => by cases hm)
  clear k2
  go_wp2_with fail
  refine (L1.out _ K2.out).mono ?_
  rintro e w3 ⟨rfl, rfl⟩
  go_wp2_with fail
  refine (L2.out _ K2.out).mono ?_
  rintro e w3 ⟨rfl, n3, rfl⟩
  have K3 : Hid (Kept [] w (w2.drewN n3)) := K2.out.drewN n3
  go_wp2_with fail
  refine (A1.out _ K3.out).mono ?_
  rintro e w4 ⟨rfl, rfl⟩
  go_wp2_with fail
  refine (A2.out _ K3.out).mono ?_
  rintro e w4 ⟨rfl, n4, rfl⟩
  go_wp2_with fail
  go_ret
  exact ⟨rfl, K2.out.drewN (n3 + n4)⟩

/-- One step of both. -/
def Step (w : World) (r q : Nat) (T U : List Nat) (st : RS) (e : Ending) (w' : World) : Prop :=
  ∃ s', e = .returned (.bool true) ∧ Hid s'.Fine ∧ Hid (Pr w' r q T U s') ∧ Hid (Kept [r, q] w w')

set_option maxHeartbeats 1000000 in
theorem number_1 (w : World) (r q : Nat) (T U : List Nat) (st : RS) (f : Hid st.Fine) (h : Hid (Pr w r q T U st)) :
    Calls Try.prog 56 #[.pointer (some ⟨r, 0, none⟩), .pointer (some ⟨q, 0, none⟩), .int .i64 1] w (Step w r q T U st) := by
  have C1 := Lib.hid (Rdr.u8_any w r T st f.out.ok h.out.a)
  have C2 : Hid (∀ w1, Kept [r] w w1 → Calls Try.prog 84 #[.pointer (some ⟨q, 0, none⟩)] w1 fun e w' => e = .returned (.int .u8 (leval (st.got 1))) ∧ Hid (Vd w' q U (st.next 1)) ∧ Kept [q] w1 w') := fun w1 K => Vrd.u8_any w1 q U st (by have := f.out.pos; omega) (h.out.left K)
  obtain ⟨x, hx⟩ : ∃ x, x = (leval (st.got 1)) := ⟨_, rfl⟩
  rw [← hx] at C1 C2
  have F2 : Hid (st.next 1).Fine := f.out.next 1
  clear hx
  go_enter Try.func56, Try.ntmps56
  go_wp2_with fail
  refine C1.out.mono ?_
  rintro e w1 ⟨rfl, h1, k1⟩
  have K1 := Lib.hid k1
  clear k1
  go_wp2_with fail
  refine (C2.out _ K1.out).mono ?_
  rintro e w2 ⟨rfl, h2, k2⟩
  have K2 := Lib.hid k2
  clear k2
  go_wp2_with fail
  go_ret
  obtain ⟨P, K⟩ := h.out.both h1.out K1.out h2.out K2.out
  exact ⟨_, rfl, F2, P, K⟩

set_option maxHeartbeats 1000000 in
theorem number_2 (w : World) (r q : Nat) (T U : List Nat) (st : RS) (f : Hid st.Fine) (h : Hid (Pr w r q T U st)) :
    Calls Try.prog 56 #[.pointer (some ⟨r, 0, none⟩), .pointer (some ⟨q, 0, none⟩), .int .i64 2] w (Step w r q T U st) := by
  have C1 := Lib.hid (Rdr.u16_any w r T st f.out.ok h.out.a)
  have C2 : Hid (∀ w1, Kept [r] w w1 → Calls Try.prog 85 #[.pointer (some ⟨q, 0, none⟩)] w1 fun e w' => e = .returned (.int .u16 st.cnt) ∧ Hid (Vd w' q U (st.next 2)) ∧ Kept [q] w1 w') := fun w1 K => Vrd.u16_any w1 q U st (by have := f.out.pos; omega) (h.out.left K)
  obtain ⟨x, hx⟩ : ∃ x, x = st.cnt := ⟨_, rfl⟩
  rw [← hx] at C1 C2
  have F2 : Hid (st.next 2).Fine := f.out.next 2
  clear hx
  go_enter Try.func56, Try.ntmps56
  go_wp2_with fail
  refine C1.out.mono ?_
  rintro e w1 ⟨rfl, h1, k1⟩
  have K1 := Lib.hid k1
  clear k1
  go_wp2_with fail
  refine (C2.out _ K1.out).mono ?_
  rintro e w2 ⟨rfl, h2, k2⟩
  have K2 := Lib.hid k2
  clear k2
  go_wp2_with fail
  go_ret
  obtain ⟨P, K⟩ := h.out.both h1.out K1.out h2.out K2.out
  exact ⟨_, rfl, F2, P, K⟩

set_option maxHeartbeats 1000000 in
theorem number_3 (w : World) (r q : Nat) (T U : List Nat) (st : RS) (f : Hid st.Fine) (h : Hid (Pr w r q T U st)) :
    Calls Try.prog 56 #[.pointer (some ⟨r, 0, none⟩), .pointer (some ⟨q, 0, none⟩), .int .i64 3] w (Step w r q T U st) := by
  have C1 := Lib.hid (Rdr.u32_any w r T st f.out.ok h.out.a)
  have C2 : Hid (∀ w1, Kept [r] w w1 → Calls Try.prog 87 #[.pointer (some ⟨q, 0, none⟩)] w1 fun e w' => e = .returned (.int .u32 (leval (st.got 4))) ∧ Hid (Vd w' q U (st.next 4)) ∧ Kept [q] w1 w') := fun w1 K => Vrd.u32_any w1 q U st (by have := f.out.pos; omega) (h.out.left K)
  obtain ⟨x, hx⟩ : ∃ x, x = (leval (st.got 4)) := ⟨_, rfl⟩
  rw [← hx] at C1 C2
  have F2 : Hid (st.next 4).Fine := f.out.next 4
  clear hx
  go_enter Try.func56, Try.ntmps56
  go_wp2_with fail
  refine C1.out.mono ?_
  rintro e w1 ⟨rfl, h1, k1⟩
  have K1 := Lib.hid k1
  clear k1
  go_wp2_with fail
  refine (C2.out _ K1.out).mono ?_
  rintro e w2 ⟨rfl, h2, k2⟩
  have K2 := Lib.hid k2
  clear k2
  go_wp2_with fail
  go_ret
  obtain ⟨P, K⟩ := h.out.both h1.out K1.out h2.out K2.out
  exact ⟨_, rfl, F2, P, K⟩

set_option maxHeartbeats 1000000 in
theorem number_4 (w : World) (r q : Nat) (T U : List Nat) (st : RS) (f : Hid st.Fine) (h : Hid (Pr w r q T U st)) :
    Calls Try.prog 56 #[.pointer (some ⟨r, 0, none⟩), .pointer (some ⟨q, 0, none⟩), .int .i64 4] w (Step w r q T U st) := by
  have C1 := Lib.hid (Rdr.u64_any w r T st f.out.ok h.out.a)
  have C2 : Hid (∀ w1, Kept [r] w w1 → Calls Try.prog 89 #[.pointer (some ⟨q, 0, none⟩)] w1 fun e w' => e = .returned (.int .u64 (leval (st.got 8))) ∧ Hid (Vd w' q U (st.next 8)) ∧ Kept [q] w1 w') := fun w1 K => Vrd.u64_any w1 q U st (by have := f.out.pos; omega) (h.out.left K)
  obtain ⟨x, hx⟩ : ∃ x, x = (leval (st.got 8)) := ⟨_, rfl⟩
  rw [← hx] at C1 C2
  have F2 : Hid (st.next 8).Fine := f.out.next 8
  clear hx
  go_enter Try.func56, Try.ntmps56
  go_wp2_with fail
  refine C1.out.mono ?_
  rintro e w1 ⟨rfl, h1, k1⟩
  have K1 := Lib.hid k1
  clear k1
  go_wp2_with fail
  refine (C2.out _ K1.out).mono ?_
  rintro e w2 ⟨rfl, h2, k2⟩
  have K2 := Lib.hid k2
  clear k2
  go_wp2_with fail
  go_ret
  obtain ⟨P, K⟩ := h.out.both h1.out K1.out h2.out K2.out
  exact ⟨_, rfl, F2, P, K⟩

theorem number_else (w : World) (r q : Nat) (T U : List Nat) (st : RS) (k : Int) (h1 : k ≠ 1) (h2 : k ≠ 2) (h3 : k ≠ 3) (h4 : k ≠ 4) (f : Hid st.Fine) (h : Hid (Pr w r q T U st)) :
    Calls Try.prog 56 #[.pointer (some ⟨r, 0, none⟩), .pointer (some ⟨q, 0, none⟩), .int .i64 k] w (Step w r q T U st) := by
  have j1 : (k == 1) = false := by simpa using h1
  have j2 : (k == 2) = false := by simpa using h2
  have j3 : (k == 3) = false := by simpa using h3
  have j4 : (k == 4) = false := by simpa using h4
  clear h1 h2 h3 h4
  go_enter Try.func56, Try.ntmps56
  go_wp2_with fail
  go_ret
  exact ⟨_, rfl, f, h, Kept.refl _ _⟩
theorem number_any (w : World) (r q : Nat) (T U : List Nat) (st : RS) (k : Int) (f : Hid st.Fine) (h : Hid (Pr w r q T U st)) :
    Calls Try.prog 56 #[.pointer (some ⟨r, 0, none⟩), .pointer (some ⟨q, 0, none⟩), .int .i64 k] w (Step w r q T U st) := by
  by_cases h1 : k = 1
  · subst h1; exact number_1 w r q T U st f h
  · by_cases h2 : k = 2
    · subst h2; exact number_2 w r q T U st f h
    · by_cases h3 : k = 3
      · subst h3; exact number_3 w r q T U st f h
      · by_cases h4 : k = 4
        · subst h4; exact number_4 w r q T U st f h
        · exact number_else w r q T U st k h1 h2 h3 h4 f h
end Lst
end Go.Proofs.Ytfdbpbhihccgbaa
