/- take, at eight bytes. -/
import Derived.Test.YtdbhdajedgkpbaaTak
namespace Go.Proofs.Ytdbhdajedgkpbaa
set_option linter.unusedVariables false
open Go.RowKit
namespace Rdr
open Go.Proofs.Ytdbhdajedgkpbaa.Txt

set_option maxHeartbeats 4000000 in
theorem take64 (w : World) (r : Nat) (T : List Nat) (st : RS) (ok : Hid st.Ok) (h : Hid (Rd w r T st)) :
    Calls Try.prog 105 #[.pointer (some ⟨r, 0, none⟩)] w fun e w' => e = .returned (.int .u64 (leval (st.got 8))) ∧ Hid (Rd w' r T (st.next 8)) ∧ Kept [r] w w' := by
  have hg : (st.got 8).length = 0 ∨ (st.got 8).length = 8 := by
    unfold RS.got
    repeat' split
    · exact Or.inl rfl
    · exact Or.inl rfl
    · exact Or.inr (by simp; omega)
  obtain ⟨g, hgg⟩ : ∃ g, g = st.got 8 := ⟨_, rfl⟩
  rw [← hgg] at hg ⊢
  have HG := Lib.hid hgg
  clear hgg
  rcases hg with hg | hg
  · obtain rfl : g = [] := List.eq_nil_of_length_eq_zero hg
    clear hg
    go_enter Try.func105, Try.ntmps105
    go_wp2_with fail
    refine (Wid.width_64 _).mono ?_
    rintro e w1 ⟨rfl, rfl⟩
    go_wp2_with fail
    refine (next_any _ r T st _ 8 rfl ok h).mono ?_
    rintro e w2 ⟨v, rfl, h1, h2, h3⟩
    rw [← HG.out] at h1
    obtain ⟨a, c, rfl⟩ := h1.out.slice
    go_wp2_with fail
    refine wp_loop_rounds 1 ?_
    rw [rounds_succ]
    go_wp2_with fail
    go_ret
    exact ⟨rfl, h2, h3⟩
  · match g, hg with
    | [b0, b1, b2, b3, b4, b5, b6, b7], _ =>
      go_enter Try.func105, Try.ntmps105
      go_wp2_with fail
      refine (Wid.width_64 _).mono ?_
      rintro e w1 ⟨rfl, rfl⟩
      go_wp2_with fail
      refine (next_any _ r T st _ 8 rfl ok h).mono ?_
      rintro e w2 ⟨v, rfl, h1, h2, h3⟩
      rw [← HG.out] at h1
      obtain ⟨b, o, c, rfl, hc⟩ := seg_cells h1.out (by simp)
      have d0 := hc 0 (by simp)
      have d1 := hc 1 (by simp)
      have d2 := hc 2 (by simp)
      have d3 := hc 3 (by simp)
      have d4 := hc 4 (by simp)
      have d5 := hc 5 (by simp)
      have d6 := hc 6 (by simp)
      have d7 := hc 7 (by simp)
      clear hc
      simp only [List.getElem_cons_zero, List.getElem_cons_succ, Nat.add_zero] at d0 d1 d2 d3 d4 d5 d6 d7
      go_wp2_with fail
      refine wp_loop_rounds 9 ?_
      rw [rounds_succ]
      go_wp2_with fail
      rw [rounds_succ]
      go_wp2_with fail
      rw [rounds_succ]
      go_wp2_with fail
      rw [rounds_succ]
      go_wp2_with fail
      rw [rounds_succ]
      go_wp2_with fail
      rw [rounds_succ]
      go_wp2_with fail
      rw [rounds_succ]
      go_wp2_with fail
      rw [rounds_succ]
      go_wp2_with fail
      rw [rounds_succ]
      go_wp2_with fail
      go_ret
      refine ⟨Txt.ret_int ?_, h2, h3⟩
      have t0 := b0.toNat_lt
      have t1 := b1.toNat_lt
      have t2 := b2.toNat_lt
      have t3 := b3.toNat_lt
      have t4 := b4.toNat_lt
      have t5 := b5.toNat_lt
      have t6 := b6.toNat_lt
      have t7 := b7.toNat_lt
      clear d0 d1 d2 d3 d4 d5 d6 d7
      simp only [IntKind.wrap_u64, Int.emod_emod]
      exact val64 b0.toNat b1.toNat b2.toNat b3.toNat b4.toNat b5.toNat b6.toNat b7.toNat (by omega) (by omega) (by omega) (by omega) (by omega) (by omega) (by omega) (by omega)
end Rdr
end Go.Proofs.Ytdbhdajedgkpbaa
