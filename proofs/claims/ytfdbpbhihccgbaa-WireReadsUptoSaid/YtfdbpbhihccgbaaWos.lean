/- What Open, Shut and Done of a writer do. -/
import Derived.Test.YtfdbpbhihccgbaaWop
namespace Go.Proofs.Ytfdbpbhihccgbaa
set_option linter.unusedVariables false
open Go.RowKit
namespace Wrt
open Go.Proofs.Ytfdbpbhihccgbaa.Txt

set_option maxHeartbeats 1000000 in
/-- Open. -/
theorem open_any (w : World) (p : Nat) (S : List Nat) (st : WS) (ok : Hid st.Ok) (h : Hid (Wr 77 w p S st)) :
    Calls Try.prog 24 #[.pointer (some ⟨p, 0, none⟩)] w fun e w' => e = .returned (.int .i64 st.place) ∧ Out 77 w p S st.opened w' := by
  have k1 := ok.out.lim
  have k2 := ok.out.bs
  have k3 := ok.out.os
  by_cases hr : (st.room 2).err = 0
  · have e1 : st.opened = { st with bs := st.bs ++ [0, 0], os := st.os ++ [st.bs.length] } := by unfold WS.opened; rw [if_pos hr]
    have ep : st.place = st.bs.length := by unfold WS.place; rw [if_pos hr]
    obtain ⟨e2, e3, e4⟩ := WS.room_ok hr
    have e5 := WS.raw_good (st := st) (b := le 2 0) (by rw [le_length]; exact hr)
    rw [e1, ep]
    have hE : ((st.err : Int) == 0) = true := by rw [e4]; rfl
    have E2 := Lib.hid e2
    have E5 := Lib.hid e5
    clear e1 e2 e4 e5 hr ep
    go_enter Try.func24, Try.ntmps24
    go_wp2_with fail
    refine (room_any _ p S _ _ 2 rfl (by omega) ok h).mono ?_
    rintro e w1 ⟨rfl, hw1, hk1⟩
    rw [E2.out] at hw1 ⊢
    obtain ⟨v, u, c0, c1, c2, c3, fz, hv, -⟩ := hw1.out.parts
    obtain ⟨a, c, rfl⟩ := own_slice hv.out
    clear c0 c2 c3 fz hv
    go_wp2_with fail
    refine (put16 _ p S st _ 0 rfl (by omega) ok hw1).mono ?_
    rintro e w2 ⟨rfl, S2, hw2, hk2, hS2⟩
    clear c1
    rw [E5.out] at hw2
    obtain ⟨s1, hs1⟩ : ∃ s1 : WS, s1 = { st with bs := st.bs ++ le 2 0 } := ⟨_, rfl⟩
    rw [← hs1] at hw2
    have hn1 : s1.os.length ≤ 16777216 := by rw [hs1]; simp; omega
    have Hs1 := Lib.hid hs1
    clear hs1
    obtain ⟨v, u, c0, c1, c2, c3, fz, hv, hu, hp, hS⟩ := hw2.out.parts
    obtain ⟨i0, hi, hz0, hz1, hz2⟩ := info_parts info3
    go_wp2_with (at_builtin; refine wpList_append_lies _ rfl (.tmp 18) (.tmp 20) 22 rfl 0 3 i0 (.int .i64 0) 1 8 Try.underlying22 hi hz0 hz1 hz2 rfl (by decide) u _ _ rfl (hu.out.alloc _) ⟨w2.heap.size, 0, none⟩ 1 1 [iv st.bs.length] rfl rfl (World.news_of_block (cs := #[iv st.bs.length]) (by exact heap_alloc_new w2 _)) (by intro u hu; simp at hu; subst hu; rfl) (by decide) (by unfold maxLen; omega) (by omega) (Nat.zero_le _) _ rfl ?_; intro g cap w3 hown hgrow hat hlt; obtain ⟨hp1, S3, R1, R2, R3⟩ := Wr.pushedOs (st := s1) (by decide) (by decide) hp.out hv.out hu.out hS.out ((Kept.refl [] w2).alloc _) hgrow hown (by simp) hat; have g1 := (four hp1).2.2.1; have g2 := (four hp1).2.2.2.2 2; have R1 := Lib.hid R1; clear hown hgrow hat hp1)
    go_ret
    have hk3 := hk1.trans hk2 (fun i hi => Or.inl hi)
    refine ⟨rfl, S3, ?_, hk3.trans R2 (fun k hk => ?_), fun k hk => ?_⟩
    · have e : { st with bs := st.bs ++ [0, 0], os := st.os ++ [st.bs.length] } = { s1 with os := s1.os ++ [st.bs.length] } := by rw [Hs1.out]; rfl
      rw [e]; exact R1
    · rcases hS2 k hk with q | q
      · exact Or.inl q
      · right; have := hk1.size; omega
    · rcases R3 k hk with q | q
      · rcases hS2 k q with q | q
        · exact Or.inl q
        · right; have := hk1.size; omega
      · right; have := hk3.size; omega
  · have e1 : st.opened = st.room 2 := by unfold WS.opened; rw [if_neg hr]
    have ep : st.place = 0 := by unfold WS.place; rw [if_neg hr]
    rw [e1, ep]
    have hE : (((st.room 2).err : Int) == 0) = false := by simp; omega
    clear e1 hr ep
    go_enter Try.func24, Try.ntmps24
    go_wp2_with fail
    refine (room_any _ p S _ _ 2 rfl (by omega) ok h).mono ?_
    rintro e w1 ⟨rfl, hw1, hk1⟩
    go_wp2_with fail
    go_ret
    exact ⟨rfl, S, hw1, hk1, fun k hk => Or.inl hk⟩
end Wrt
end Go.Proofs.Ytfdbpbhihccgbaa
