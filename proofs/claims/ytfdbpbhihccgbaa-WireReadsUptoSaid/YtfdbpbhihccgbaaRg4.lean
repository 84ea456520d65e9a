/- A reader that is wrong stays so; U32 and U64. -/
import Derived.Test.YtfdbpbhihccgbaaTak
import Derived.Test.YtfdbpbhihccgbaaRop

section
namespace Go.Proofs.Ytfdbpbhihccgbaa
set_option linter.unusedVariables false
open Go.RowKit
namespace Rdr
open Go.Proofs.Ytfdbpbhihccgbaa.Txt

set_option maxHeartbeats 1000000 in
theorem take32 (w : World) (r : Nat) (T : List Nat) (st : RS) (ok : Hid st.Ok) (h : Hid (Rd w r T st)) :
    Calls Try.prog 98 #[.pointer (some ⟨r, 0, none⟩)] w fun e w' => e = .returned (.int .u32 (leval (st.got 4))) ∧ Hid (Rd w' r T (st.next 4)) ∧ Kept [r] w w' := by
  have hg : (st.got 4).length = 0 ∨ (st.got 4).length = 4 := by
    unfold RS.got
    repeat' split
    · exact Or.inl rfl
    · exact Or.inl rfl
    · exact Or.inr (by simp; omega)
  obtain ⟨g, hgg⟩ : ∃ g, g = st.got 4 := ⟨_, rfl⟩
  rw [← hgg] at hg ⊢
  have HG := Lib.hid hgg
  clear hgg
  rcases hg with hg | hg
  · obtain rfl : g = [] := List.eq_nil_of_length_eq_zero hg
    clear hg
    go_enter Try.func98, Try.ntmps98
    go_wp2_with fail
    refine (Wid.width_32 _).mono ?_
    rintro e w1 ⟨rfl, rfl⟩
    go_wp2_with fail
    refine (next_any _ r T st _ 4 rfl ok h).mono ?_
    rintro e w2 ⟨v, rfl, h1, h2, h3⟩
    rw [← HG.out] at h1
    obtain ⟨a, c, rfl⟩ := h1.out.slice
    go_wp2_with fail
    refine wp_loop_rounds 1 ?_
    rw [rounds_succ]
    go_wp2_with fail
    go_ret
    exact ⟨rfl, h2, h3⟩
  · match g, hg with
    | [b0, b1, b2, b3], _ =>
      go_enter Try.func98, Try.ntmps98
      go_wp2_with fail
      refine (Wid.width_32 _).mono ?_
      rintro e w1 ⟨rfl, rfl⟩
      go_wp2_with fail
      refine (next_any _ r T st _ 4 rfl ok h).mono ?_
      rintro e w2 ⟨v, rfl, h1, h2, h3⟩
      rw [← HG.out] at h1
      obtain ⟨b, o, c, rfl, hc⟩ := seg_cells h1.out (by simp)
      have d0 := hc 0 (by simp)
      have d1 := hc 1 (by simp)
      have d2 := hc 2 (by simp)
      have d3 := hc 3 (by simp)
      clear hc
      simp only [List.getElem_cons_zero, List.getElem_cons_succ, Nat.add_zero] at d0 d1 d2 d3
      go_wp2_with fail
      refine wp_loop_rounds 5 ?_
      rw [rounds_succ]
      go_wp2_with fail
      rw [rounds_succ]
      go_wp2_with fail
      rw [rounds_succ]
      go_wp2_with fail
      rw [rounds_succ]
      go_wp2_with fail
      rw [rounds_succ]
      go_wp2_with fail
      go_ret
      refine ⟨Txt.ret_int ?_, h2, h3⟩
      have t0 := b0.toNat_lt
      have t1 := b1.toNat_lt
      have t2 := b2.toNat_lt
      have t3 := b3.toNat_lt
      clear d0 d1 d2 d3
      exact val32 b0.toNat b1.toNat b2.toNat b3.toNat (by omega) (by omega) (by omega) (by omega)
end Rdr
end Go.Proofs.Ytfdbpbhihccgbaa
end

section
namespace Go.Proofs.Ytfdbpbhihccgbaa
set_option linter.unusedVariables false
open Go.RowKit
namespace Rdr
open Go.Proofs.Ytfdbpbhihccgbaa.Txt

set_option maxHeartbeats 4000000 in
theorem take64 (w : World) (r : Nat) (T : List Nat) (st : RS) (ok : Hid st.Ok) (h : Hid (Rd w r T st)) :
    Calls Try.prog 99 #[.pointer (some ⟨r, 0, none⟩)] w fun e w' => e = .returned (.int .u64 (leval (st.got 8))) ∧ Hid (Rd w' r T (st.next 8)) ∧ Kept [r] w w' := by
  have hg : (st.got 8).length = 0 ∨ (st.got 8).length = 8 := by
    unfold RS.got
    repeat' split
    · exact Or.inl rfl
    · exact Or.inl rfl
    · exact Or.inr (by simp; omega)
  obtain ⟨g, hgg⟩ : ∃ g, g = st.got 8 := ⟨_, rfl⟩
  rw [← hgg] at hg ⊢
  have HG := Lib.hid hgg
  clear hgg
  rcases hg with hg | hg
  · obtain rfl : g = [] := List.eq_nil_of_length_eq_zero hg
    clear hg
    go_enter Try.func99, Try.ntmps99
    go_wp2_with fail
    refine (Wid.width_64 _).mono ?_
    rintro e w1 ⟨rfl, rfl⟩
    go_wp2_with fail
    refine (next_any _ r T st _ 8 rfl ok h).mono ?_
    rintro e w2 ⟨v, rfl, h1, h2, h3⟩
    rw [← HG.out] at h1
    obtain ⟨a, c, rfl⟩ := h1.out.slice
    go_wp2_with fail
    refine wp_loop_rounds 1 ?_
    rw [rounds_succ]
    go_wp2_with fail
    go_ret
    exact ⟨rfl, h2, h3⟩
  · match g, hg with
    | [b0, b1, b2, b3, b4, b5, b6, b7], _ =>
      go_enter Try.func99, Try.ntmps99
      go_wp2_with fail
      refine (Wid.width_64 _).mono ?_
      rintro e w1 ⟨rfl, rfl⟩
      go_wp2_with fail
      refine (next_any _ r T st _ 8 rfl ok h).mono ?_
      rintro e w2 ⟨v, rfl, h1, h2, h3⟩
      rw [← HG.out] at h1
      obtain ⟨b, o, c, rfl, hc⟩ := seg_cells h1.out (by simp)
      have d0 := hc 0 (by simp)
      have d1 := hc 1 (by simp)
      have d2 := hc 2 (by simp)
      have d3 := hc 3 (by simp)
      have d4 := hc 4 (by simp)
      have d5 := hc 5 (by simp)
      have d6 := hc 6 (by simp)
      have d7 := hc 7 (by simp)
      clear hc
      simp only [List.getElem_cons_zero, List.getElem_cons_succ, Nat.add_zero] at d0 d1 d2 d3 d4 d5 d6 d7
      go_wp2_with fail
      refine wp_loop_rounds 9 ?_
      rw [rounds_succ]
      go_wp2_with fail
      rw [rounds_succ]
      go_wp2_with fail
      rw [rounds_succ]
      go_wp2_with fail
      rw [rounds_succ]
      go_wp2_with fail
      rw [rounds_succ]
      go_wp2_with fail
      rw [rounds_succ]
      go_wp2_with fail
      rw [rounds_succ]
      go_wp2_with fail
      rw [rounds_succ]
      go_wp2_with fail
      rw [rounds_succ]
      go_wp2_with fail
      go_ret
      refine ⟨Txt.ret_int ?_, h2, h3⟩
      have t0 := b0.toNat_lt
      have t1 := b1.toNat_lt
      have t2 := b2.toNat_lt
      have t3 := b3.toNat_lt
      have t4 := b4.toNat_lt
      have t5 := b5.toNat_lt
      have t6 := b6.toNat_lt
      have t7 := b7.toNat_lt
      clear d0 d1 d2 d3 d4 d5 d6 d7
      simp only [IntKind.wrap_u64, Int.emod_emod]
      exact val64 b0.toNat b1.toNat b2.toNat b3.toNat b4.toNat b5.toNat b6.toNat b7.toNat (by omega) (by omega) (by omega) (by omega) (by omega) (by omega) (by omega) (by omega)
end Rdr
end Go.Proofs.Ytfdbpbhihccgbaa
end

namespace Go.Proofs.Ytfdbpbhihccgbaa
set_option linter.unusedVariables false
open Go.RowKit

theorem RS.failAt_bad {st : RS} (h : st.err ≠ 0) (e : Int) (p : Nat) : st.failAt e p = st := by unfold RS.failAt; rw [if_neg (fun k => h k.1)]
theorem RS.fail_bad {st : RS} (h : st.err ≠ 0) (e : Int) : st.fail e = st := RS.failAt_bad h e _
theorem RS.next_bad {st : RS} (h : st.err ≠ 0) (n : Nat) : st.next n = st := by
  unfold RS.next
  split
  · exact RS.fail_bad h 10
  · rfl
theorem RS.counted_bad {st : RS} (h : st.err ≠ 0) : st.counted = st := by
  unfold RS.counted
  split
  · rfl
  · exact RS.fail_bad h _
theorem RS.text_bad {st : RS} (h : st.err ≠ 0) : st.text = st := by unfold RS.text; rw [RS.counted_bad h, if_pos h]
theorem RS.past_bad {st : RS} (h : st.err ≠ 0) : st.past = st := by unfold RS.past; rw [RS.counted_bad h, if_pos h]
theorem RS.end_bad {st : RS} (h : st.err ≠ 0) : Rdr.RS.end st = st := by
  unfold Rdr.RS.end
  split
  · exact RS.fail_bad h _
  · rfl

namespace Rdr
open Go.Proofs.Ytfdbpbhihccgbaa.Txt
theorem u32_any (w : World) (r : Nat) (T : List Nat) (st : RS) (ok : Hid st.Ok) (h : Hid (Rd w r T st)) :
    Calls Try.prog 86 #[.pointer (some ⟨r, 0, none⟩)] w fun e w' => e = .returned (.int .u32 (leval (st.got 4))) ∧ Hid (Rd w' r T (st.next 4)) ∧ Kept [r] w w' := by
  go_enter Try.func86, Try.ntmps86
  go_wp2_with fail
  refine (take32 _ r T st ok h).mono ?_
  rintro e w1 ⟨rfl, h1, h2⟩
  go_wp2_with fail
  go_ret
  exact ⟨rfl, h1, h2⟩
theorem u64_any (w : World) (r : Nat) (T : List Nat) (st : RS) (ok : Hid st.Ok) (h : Hid (Rd w r T st)) :
    Calls Try.prog 88 #[.pointer (some ⟨r, 0, none⟩)] w fun e w' => e = .returned (.int .u64 (leval (st.got 8))) ∧ Hid (Rd w' r T (st.next 8)) ∧ Kept [r] w w' := by
  go_enter Try.func88, Try.ntmps88
  go_wp2_with fail
  refine (take64 _ r T st ok h).mono ?_
  rintro e w1 ⟨rfl, h1, h2⟩
  go_wp2_with fail
  go_ret
  exact ⟨rfl, h1, h2⟩

end Rdr
end Go.Proofs.Ytfdbpbhihccgbaa
