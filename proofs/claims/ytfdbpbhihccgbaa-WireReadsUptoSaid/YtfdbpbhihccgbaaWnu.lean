/- What U32 and U64 of a writer do. -/
import Derived.Test.YtfdbpbhihccgbaaWrt
import Derived.Test.YtfdbpbhihccgbaaWcl

section
namespace Go.Proofs.Ytfdbpbhihccgbaa
set_option linter.unusedVariables false
open Go.RowKit
namespace Wrt
open Go.Proofs.Ytfdbpbhihccgbaa.Txt
set_option maxHeartbeats 2000000 in
/-- put, of 4 byte(s). -/
theorem put32 (w : World) (p : Nat) (S : List Nat) (st : WS) (x : Int) (n : Nat) (hx : x = n) (hn : n ≤ 4294967295) (ok : Hid st.Ok) (h : Hid (Wr 77 w p S st)) :
    Calls Try.prog 94 #[.pointer (some ⟨p, 0, none⟩), .int .u32 x] w fun e w' => e = .returned (.tuple #[]) ∧ ∃ S', Hid (Wr 77 w' p S' (st.raw (le 4 n))) ∧ Kept S w w' ∧ (∀ k ∈ S', k ∈ S ∨ w.heap.size ≤ k) := by
  subst hx
  have hl := le_length 4 n
  by_cases hr : (st.room 4).err = 0
  · have e1 : st.raw (le 4 n) = { st.room 4 with bs := st.bs ++ le 4 n } := by unfold WS.raw; rw [hl, if_pos hr]
    obtain ⟨e2, e3, e4⟩ := WS.room_ok hr
    have hE : (((st.room 4).err : Int) == 0) = true := by rw [hr]; rfl
    rw [e1]
    have E2 := Lib.hid e2
    have E4 := Lib.hid e4
    have k1 := ok.out.lim
    clear e1 e2 e4 hl hr
    go_enter Try.func94, Try.ntmps94
    go_wp2_with fail
    refine (Wid.width_32 _).mono ?_
    rintro e w1 ⟨rfl, rfl⟩
    go_wp2_with fail
    refine (room_any _ p S st _ 4 rfl (by omega) ok h).mono ?_
    rintro e w1 ⟨rfl, hw1, hk1⟩
    rw [E2.out] at hw1
    go_wp2_with fail
    refine (Wid.width_32 _).mono ?_
    rintro e w2 ⟨rfl, rfl⟩
    go_wp2_with fail
    go_loopw [10] (fun v wr => ∃ (k : Nat) (S' : List Nat) (s1 : WS), k ≤ 4 ∧ v = .int .i64 k ∧ Hid (s1 = { st with bs := st.bs ++ le k n }) ∧ Hid (Wr 77 wr p S' s1) ∧ Kept S w wr ∧ (∀ i ∈ S', i ∈ S ∨ w.heap.size ≤ i)) (fun v _ => 4 - (intOf v).toNat)
    case atStart => exact ⟨0, S, st, by omega, rfl, by simp [Hid, le], hw1, hk1, fun i hi => Or.inl hi⟩
    case round =>
      obtain ⟨k, S', s1, hk, rfl, hs1, hwr, hkr, hS'⟩ := hrel
      clear hw1 hk1
      obtain ⟨v, u, c0, c1, c2, c3, fz, hv, hu, hp, hS⟩ := hwr.out.parts
      obtain ⟨i0, hi, hz0, hz1, hz2⟩ := info_parts info5
      have hplt := block_lt hp.out
      have hlen : s1.bs.length ≤ 16777216 := by rw [hs1.out]; simp [le_length]; omega
      by_cases hk2 : k < 4
      · obtain ⟨b, hb⟩ : ∃ b : UInt8, b = UInt8.ofNat (n / 256 ^ k) := ⟨_, rfl⟩
        have hb' := Lib.hid hb
        have q1 : IntKind.u64.wrap (n : Int) = n := IntWalk.u64_in _ ⟨by omega, by omega⟩
        obtain rfl | rfl | rfl | rfl : k = 0 ∨ k = 1 ∨ k = 2 ∨ k = 3 := by omega
        · have q2 : IntKind.i64.wrap 0 = 0 := rfl
          have q3 : IntKind.u8.wrap ((n : Int)) = (b.toNat : Int) := by rw [hb, IntKind.wrap_u8]; simp
          clear hb
          go_wp2_with fail
          go_region_law (refine step_append_lies _ rfl (.tmp 17) (.tmp 24) 37 rfl 0 5 i0 (.int .u8 0) 1 1 Try.underlying37 hi hz0 hz1 hz2 rfl (by decide) v _ _ (by simp [Act.eval]) (hv.out.alloc _) ⟨wr.heap.size, 0, none⟩ 1 1 [bv b] (by simp [Act.eval]) rfl (World.news_of_block (cs := #[bv b]) (by exact heap_alloc_new wr _)) (by intro u hu; simp at hu; subst hu; rfl) (by decide) (by unfold maxLen; omega) (by omega) (Nat.zero_le _) _ rfl ?_; intro g cap w1 hown hgrow hat hlt; obtain ⟨hp1, S2, R1, R2, R3⟩ := Wr.pushed (st := s1) (news := [b]) (by decide) (by decide) hp.out hv.out hu.out hS.out ((Kept.refl [] wr).alloc _).drew hgrow hown (by simp) hat; have f1 := (four hp1).2.1; have f2 := (four hp1).2.2.2.2 1; have R1 := Lib.hid R1; clear hown hgrow hat hp1)
          all_goals
            go_wp2_with fail
            go_roundw
            case rel =>
              have e1 : { s1 with bs := s1.bs ++ [b] } = { st with bs := st.bs ++ le (0 + 1) n } := by rw [le_succ, ← hb'.out, hs1.out]; simp
              exact ⟨0 + 1, S2, _, by omega, rfl, Lib.hid e1, R1, hkr.trans R2 hS', fun i hi => by rcases R3 i hi with q | q; exact hS' i q; right; have := hkr.size; omega⟩
            case measure => simp [intOf]
        · have q2 : IntKind.i64.wrap 8 = 8 := rfl
          have q3 : IntKind.u8.wrap ((n : Int) / 256) = (b.toNat : Int) := by rw [hb, IntKind.wrap_u8]; simp
          clear hb
          go_wp2_with fail
          go_region_law (refine step_append_lies _ rfl (.tmp 17) (.tmp 24) 37 rfl 0 5 i0 (.int .u8 0) 1 1 Try.underlying37 hi hz0 hz1 hz2 rfl (by decide) v _ _ (by simp [Act.eval]) (hv.out.alloc _) ⟨wr.heap.size, 0, none⟩ 1 1 [bv b] (by simp [Act.eval]) rfl (World.news_of_block (cs := #[bv b]) (by exact heap_alloc_new wr _)) (by intro u hu; simp at hu; subst hu; rfl) (by decide) (by unfold maxLen; omega) (by omega) (Nat.zero_le _) _ rfl ?_; intro g cap w1 hown hgrow hat hlt; obtain ⟨hp1, S2, R1, R2, R3⟩ := Wr.pushed (st := s1) (news := [b]) (by decide) (by decide) hp.out hv.out hu.out hS.out ((Kept.refl [] wr).alloc _).drew hgrow hown (by simp) hat; have f1 := (four hp1).2.1; have f2 := (four hp1).2.2.2.2 1; have R1 := Lib.hid R1; clear hown hgrow hat hp1)
          all_goals
            go_wp2_with fail
            go_roundw
            case rel =>
              have e1 : { s1 with bs := s1.bs ++ [b] } = { st with bs := st.bs ++ le (1 + 1) n } := by rw [le_succ, ← hb'.out, hs1.out]; simp
              exact ⟨1 + 1, S2, _, by omega, rfl, Lib.hid e1, R1, hkr.trans R2 hS', fun i hi => by rcases R3 i hi with q | q; exact hS' i q; right; have := hkr.size; omega⟩
            case measure => simp [intOf]
        · have q2 : IntKind.i64.wrap 16 = 16 := rfl
          have q3 : IntKind.u8.wrap ((n : Int) / 65536) = (b.toNat : Int) := by rw [hb, IntKind.wrap_u8]; simp
          clear hb
          go_wp2_with fail
          go_region_law (refine step_append_lies _ rfl (.tmp 17) (.tmp 24) 37 rfl 0 5 i0 (.int .u8 0) 1 1 Try.underlying37 hi hz0 hz1 hz2 rfl (by decide) v _ _ (by simp [Act.eval]) (hv.out.alloc _) ⟨wr.heap.size, 0, none⟩ 1 1 [bv b] (by simp [Act.eval]) rfl (World.news_of_block (cs := #[bv b]) (by exact heap_alloc_new wr _)) (by intro u hu; simp at hu; subst hu; rfl) (by decide) (by unfold maxLen; omega) (by omega) (Nat.zero_le _) _ rfl ?_; intro g cap w1 hown hgrow hat hlt; obtain ⟨hp1, S2, R1, R2, R3⟩ := Wr.pushed (st := s1) (news := [b]) (by decide) (by decide) hp.out hv.out hu.out hS.out ((Kept.refl [] wr).alloc _).drew hgrow hown (by simp) hat; have f1 := (four hp1).2.1; have f2 := (four hp1).2.2.2.2 1; have R1 := Lib.hid R1; clear hown hgrow hat hp1)
          all_goals
            go_wp2_with fail
            go_roundw
            case rel =>
              have e1 : { s1 with bs := s1.bs ++ [b] } = { st with bs := st.bs ++ le (2 + 1) n } := by rw [le_succ, ← hb'.out, hs1.out]; simp
              exact ⟨2 + 1, S2, _, by omega, rfl, Lib.hid e1, R1, hkr.trans R2 hS', fun i hi => by rcases R3 i hi with q | q; exact hS' i q; right; have := hkr.size; omega⟩
            case measure => simp [intOf]
        · have q2 : IntKind.i64.wrap 24 = 24 := rfl
          have q3 : IntKind.u8.wrap ((n : Int) / 16777216) = (b.toNat : Int) := by rw [hb, IntKind.wrap_u8]; simp
          clear hb
          go_wp2_with fail
          go_region_law (refine step_append_lies _ rfl (.tmp 17) (.tmp 24) 37 rfl 0 5 i0 (.int .u8 0) 1 1 Try.underlying37 hi hz0 hz1 hz2 rfl (by decide) v _ _ (by simp [Act.eval]) (hv.out.alloc _) ⟨wr.heap.size, 0, none⟩ 1 1 [bv b] (by simp [Act.eval]) rfl (World.news_of_block (cs := #[bv b]) (by exact heap_alloc_new wr _)) (by intro u hu; simp at hu; subst hu; rfl) (by decide) (by unfold maxLen; omega) (by omega) (Nat.zero_le _) _ rfl ?_; intro g cap w1 hown hgrow hat hlt; obtain ⟨hp1, S2, R1, R2, R3⟩ := Wr.pushed (st := s1) (news := [b]) (by decide) (by decide) hp.out hv.out hu.out hS.out ((Kept.refl [] wr).alloc _).drew hgrow hown (by simp) hat; have f1 := (four hp1).2.1; have f2 := (four hp1).2.2.2.2 1; have R1 := Lib.hid R1; clear hown hgrow hat hp1)
          all_goals
            go_wp2_with fail
            go_roundw
            case rel =>
              have e1 : { s1 with bs := s1.bs ++ [b] } = { st with bs := st.bs ++ le (3 + 1) n } := by rw [le_succ, ← hb'.out, hs1.out]; simp
              exact ⟨3 + 1, S2, _, by omega, rfl, Lib.hid e1, R1, hkr.trans R2 hS', fun i hi => by rcases R3 i hi with q | q; exact hS' i q; right; have := hkr.size; omega⟩
            case measure => simp [intOf]
      · obtain rfl : k = 4 := by omega
        go_wp2_with fail
        go_end0
        exact ⟨rfl, S', by rw [E2.out]; rw [hs1.out] at hwr; exact hwr, hkr, hS'⟩
  · have e1 : st.raw (le 4 n) = st.room 4 := by unfold WS.raw; rw [hl, if_neg hr]
    have hE : (((st.room 4).err : Int) == 0) = false := by simp; omega
    rw [e1]
    clear e1 hl hr
    go_enter Try.func94, Try.ntmps94
    go_wp2_with fail
    refine (Wid.width_32 _).mono ?_
    rintro e w1 ⟨rfl, rfl⟩
    go_wp2_with fail
    refine (room_any _ p S st _ 4 rfl (by omega) ok h).mono ?_
    rintro e w1 ⟨rfl, hw1, hk1⟩
    go_wp2_with fail
    go_returns
    exact ⟨rfl, S, hw1, hk1, fun k hk => Or.inl hk⟩
end Wrt
end Go.Proofs.Ytfdbpbhihccgbaa
end

section
namespace Go.Proofs.Ytfdbpbhihccgbaa
set_option linter.unusedVariables false
open Go.RowKit
namespace Wrt
open Go.Proofs.Ytfdbpbhihccgbaa.Txt
set_option maxHeartbeats 4000000 in
/-- put, of 8 byte(s). -/
theorem put64 (w : World) (p : Nat) (S : List Nat) (st : WS) (x : Int) (n : Nat) (hx : x = n) (hn : n ≤ 18446744073709551615) (ok : Hid st.Ok) (h : Hid (Wr 77 w p S st)) :
    Calls Try.prog 95 #[.pointer (some ⟨p, 0, none⟩), .int .u64 x] w fun e w' => e = .returned (.tuple #[]) ∧ ∃ S', Hid (Wr 77 w' p S' (st.raw (le 8 n))) ∧ Kept S w w' ∧ (∀ k ∈ S', k ∈ S ∨ w.heap.size ≤ k) := by
  subst hx
  have hl := le_length 8 n
  by_cases hr : (st.room 8).err = 0
  · have e1 : st.raw (le 8 n) = { st.room 8 with bs := st.bs ++ le 8 n } := by unfold WS.raw; rw [hl, if_pos hr]
    obtain ⟨e2, e3, e4⟩ := WS.room_ok hr
    have hE : (((st.room 8).err : Int) == 0) = true := by rw [hr]; rfl
    rw [e1]
    have E2 := Lib.hid e2
    have E4 := Lib.hid e4
    have k1 := ok.out.lim
    clear e1 e2 e4 hl hr
    go_enter Try.func95, Try.ntmps95
    go_wp2_with fail
    refine (Wid.width_64 _).mono ?_
    rintro e w1 ⟨rfl, rfl⟩
    go_wp2_with fail
    refine (room_any _ p S st _ 8 rfl (by omega) ok h).mono ?_
    rintro e w1 ⟨rfl, hw1, hk1⟩
    rw [E2.out] at hw1
    go_wp2_with fail
    refine (Wid.width_64 _).mono ?_
    rintro e w2 ⟨rfl, rfl⟩
    go_wp2_with fail
    go_loopw [10] (fun v wr => ∃ (k : Nat) (S' : List Nat) (s1 : WS), k ≤ 8 ∧ v = .int .i64 k ∧ Hid (s1 = { st with bs := st.bs ++ le k n }) ∧ Hid (Wr 77 wr p S' s1) ∧ Kept S w wr ∧ (∀ i ∈ S', i ∈ S ∨ w.heap.size ≤ i)) (fun v _ => 8 - (intOf v).toNat)
    case atStart => exact ⟨0, S, st, by omega, rfl, by simp [Hid, le], hw1, hk1, fun i hi => Or.inl hi⟩
    case round =>
      obtain ⟨k, S', s1, hk, rfl, hs1, hwr, hkr, hS'⟩ := hrel
      clear hw1 hk1
      obtain ⟨v, u, c0, c1, c2, c3, fz, hv, hu, hp, hS⟩ := hwr.out.parts
      obtain ⟨i0, hi, hz0, hz1, hz2⟩ := info_parts info5
      have hplt := block_lt hp.out
      have hlen : s1.bs.length ≤ 16777216 := by rw [hs1.out]; simp [le_length]; omega
      by_cases hk2 : k < 8
      · obtain ⟨b, hb⟩ : ∃ b : UInt8, b = UInt8.ofNat (n / 256 ^ k) := ⟨_, rfl⟩
        have hb' := Lib.hid hb
        have q1 : IntKind.u64.wrap (n : Int) = n := IntWalk.u64_in _ ⟨by omega, by omega⟩
        obtain rfl | rfl | rfl | rfl | rfl | rfl | rfl | rfl : k = 0 ∨ k = 1 ∨ k = 2 ∨ k = 3 ∨ k = 4 ∨ k = 5 ∨ k = 6 ∨ k = 7 := by omega
        · have q2 : IntKind.i64.wrap 0 = 0 := rfl
          have q3 : IntKind.u8.wrap ((n : Int)) = (b.toNat : Int) := by rw [hb, IntKind.wrap_u8]; simp
          clear hb
          go_wp2_with fail
          go_region_law (refine step_append_lies _ rfl (.tmp 17) (.tmp 23) 37 rfl 0 5 i0 (.int .u8 0) 1 1 Try.underlying37 hi hz0 hz1 hz2 rfl (by decide) v _ _ (by simp [Act.eval]) (hv.out.alloc _) ⟨wr.heap.size, 0, none⟩ 1 1 [bv b] (by simp [Act.eval]) rfl (World.news_of_block (cs := #[bv b]) (by exact heap_alloc_new wr _)) (by intro u hu; simp at hu; subst hu; rfl) (by decide) (by unfold maxLen; omega) (by omega) (Nat.zero_le _) _ rfl ?_; intro g cap w1 hown hgrow hat hlt; obtain ⟨hp1, S2, R1, R2, R3⟩ := Wr.pushed (st := s1) (news := [b]) (by decide) (by decide) hp.out hv.out hu.out hS.out ((Kept.refl [] wr).alloc _).drew hgrow hown (by simp) hat; have f1 := (four hp1).2.1; have f2 := (four hp1).2.2.2.2 1; have R1 := Lib.hid R1; clear hown hgrow hat hp1)
          all_goals
            go_wp2_with fail
            go_roundw
            case rel =>
              have e1 : { s1 with bs := s1.bs ++ [b] } = { st with bs := st.bs ++ le (0 + 1) n } := by rw [le_succ, ← hb'.out, hs1.out]; simp
              exact ⟨0 + 1, S2, _, by omega, rfl, Lib.hid e1, R1, hkr.trans R2 hS', fun i hi => by rcases R3 i hi with q | q; exact hS' i q; right; have := hkr.size; omega⟩
            case measure => simp [intOf]
        · have q2 : IntKind.i64.wrap 8 = 8 := rfl
          have q3 : IntKind.u8.wrap ((n : Int) / 256) = (b.toNat : Int) := by rw [hb, IntKind.wrap_u8]; simp
          clear hb
          go_wp2_with fail
          go_region_law (refine step_append_lies _ rfl (.tmp 17) (.tmp 23) 37 rfl 0 5 i0 (.int .u8 0) 1 1 Try.underlying37 hi hz0 hz1 hz2 rfl (by decide) v _ _ (by simp [Act.eval]) (hv.out.alloc _) ⟨wr.heap.size, 0, none⟩ 1 1 [bv b] (by simp [Act.eval]) rfl (World.news_of_block (cs := #[bv b]) (by exact heap_alloc_new wr _)) (by intro u hu; simp at hu; subst hu; rfl) (by decide) (by unfold maxLen; omega) (by omega) (Nat.zero_le _) _ rfl ?_; intro g cap w1 hown hgrow hat hlt; obtain ⟨hp1, S2, R1, R2, R3⟩ := Wr.pushed (st := s1) (news := [b]) (by decide) (by decide) hp.out hv.out hu.out hS.out ((Kept.refl [] wr).alloc _).drew hgrow hown (by simp) hat; have f1 := (four hp1).2.1; have f2 := (four hp1).2.2.2.2 1; have R1 := Lib.hid R1; clear hown hgrow hat hp1)
          all_goals
            go_wp2_with fail
            go_roundw
            case rel =>
              have e1 : { s1 with bs := s1.bs ++ [b] } = { st with bs := st.bs ++ le (1 + 1) n } := by rw [le_succ, ← hb'.out, hs1.out]; simp
              exact ⟨1 + 1, S2, _, by omega, rfl, Lib.hid e1, R1, hkr.trans R2 hS', fun i hi => by rcases R3 i hi with q | q; exact hS' i q; right; have := hkr.size; omega⟩
            case measure => simp [intOf]
        · have q2 : IntKind.i64.wrap 16 = 16 := rfl
          have q3 : IntKind.u8.wrap ((n : Int) / 65536) = (b.toNat : Int) := by rw [hb, IntKind.wrap_u8]; simp
          clear hb
          go_wp2_with fail
          go_region_law (refine step_append_lies _ rfl (.tmp 17) (.tmp 23) 37 rfl 0 5 i0 (.int .u8 0) 1 1 Try.underlying37 hi hz0 hz1 hz2 rfl (by decide) v _ _ (by simp [Act.eval]) (hv.out.alloc _) ⟨wr.heap.size, 0, none⟩ 1 1 [bv b] (by simp [Act.eval]) rfl (World.news_of_block (cs := #[bv b]) (by exact heap_alloc_new wr _)) (by intro u hu; simp at hu; subst hu; rfl) (by decide) (by unfold maxLen; omega) (by omega) (Nat.zero_le _) _ rfl ?_; intro g cap w1 hown hgrow hat hlt; obtain ⟨hp1, S2, R1, R2, R3⟩ := Wr.pushed (st := s1) (news := [b]) (by decide) (by decide) hp.out hv.out hu.out hS.out ((Kept.refl [] wr).alloc _).drew hgrow hown (by simp) hat; have f1 := (four hp1).2.1; have f2 := (four hp1).2.2.2.2 1; have R1 := Lib.hid R1; clear hown hgrow hat hp1)
          all_goals
            go_wp2_with fail
            go_roundw
            case rel =>
              have e1 : { s1 with bs := s1.bs ++ [b] } = { st with bs := st.bs ++ le (2 + 1) n } := by rw [le_succ, ← hb'.out, hs1.out]; simp
              exact ⟨2 + 1, S2, _, by omega, rfl, Lib.hid e1, R1, hkr.trans R2 hS', fun i hi => by rcases R3 i hi with q | q; exact hS' i q; right; have := hkr.size; omega⟩
            case measure => simp [intOf]
        · have q2 : IntKind.i64.wrap 24 = 24 := rfl
          have q3 : IntKind.u8.wrap ((n : Int) / 16777216) = (b.toNat : Int) := by rw [hb, IntKind.wrap_u8]; simp
          clear hb
          go_wp2_with fail
          go_region_law (refine step_append_lies _ rfl (.tmp 17) (.tmp 23) 37 rfl 0 5 i0 (.int .u8 0) 1 1 Try.underlying37 hi hz0 hz1 hz2 rfl (by decide) v _ _ (by simp [Act.eval]) (hv.out.alloc _) ⟨wr.heap.size, 0, none⟩ 1 1 [bv b] (by simp [Act.eval]) rfl (World.news_of_block (cs := #[bv b]) (by exact heap_alloc_new wr _)) (by intro u hu; simp at hu; subst hu; rfl) (by decide) (by unfold maxLen; omega) (by omega) (Nat.zero_le _) _ rfl ?_; intro g cap w1 hown hgrow hat hlt; obtain ⟨hp1, S2, R1, R2, R3⟩ := Wr.pushed (st := s1) (news := [b]) (by decide) (by decide) hp.out hv.out hu.out hS.out ((Kept.refl [] wr).alloc _).drew hgrow hown (by simp) hat; have f1 := (four hp1).2.1; have f2 := (four hp1).2.2.2.2 1; have R1 := Lib.hid R1; clear hown hgrow hat hp1)
          all_goals
            go_wp2_with fail
            go_roundw
            case rel =>
              have e1 : { s1 with bs := s1.bs ++ [b] } = { st with bs := st.bs ++ le (3 + 1) n } := by rw [le_succ, ← hb'.out, hs1.out]; simp
              exact ⟨3 + 1, S2, _, by omega, rfl, Lib.hid e1, R1, hkr.trans R2 hS', fun i hi => by rcases R3 i hi with q | q; exact hS' i q; right; have := hkr.size; omega⟩
            case measure => simp [intOf]
        · have q2 : IntKind.i64.wrap 32 = 32 := rfl
          have q3 : IntKind.u8.wrap ((n : Int) / 4294967296) = (b.toNat : Int) := by rw [hb, IntKind.wrap_u8]; simp
          clear hb
          go_wp2_with fail
          go_region_law (refine step_append_lies _ rfl (.tmp 17) (.tmp 23) 37 rfl 0 5 i0 (.int .u8 0) 1 1 Try.underlying37 hi hz0 hz1 hz2 rfl (by decide) v _ _ (by simp [Act.eval]) (hv.out.alloc _) ⟨wr.heap.size, 0, none⟩ 1 1 [bv b] (by simp [Act.eval]) rfl (World.news_of_block (cs := #[bv b]) (by exact heap_alloc_new wr _)) (by intro u hu; simp at hu; subst hu; rfl) (by decide) (by unfold maxLen; omega) (by omega) (Nat.zero_le _) _ rfl ?_; intro g cap w1 hown hgrow hat hlt; obtain ⟨hp1, S2, R1, R2, R3⟩ := Wr.pushed (st := s1) (news := [b]) (by decide) (by decide) hp.out hv.out hu.out hS.out ((Kept.refl [] wr).alloc _).drew hgrow hown (by simp) hat; have f1 := (four hp1).2.1; have f2 := (four hp1).2.2.2.2 1; have R1 := Lib.hid R1; clear hown hgrow hat hp1)
          all_goals
            go_wp2_with fail
            go_roundw
            case rel =>
              have e1 : { s1 with bs := s1.bs ++ [b] } = { st with bs := st.bs ++ le (4 + 1) n } := by rw [le_succ, ← hb'.out, hs1.out]; simp
              exact ⟨4 + 1, S2, _, by omega, rfl, Lib.hid e1, R1, hkr.trans R2 hS', fun i hi => by rcases R3 i hi with q | q; exact hS' i q; right; have := hkr.size; omega⟩
            case measure => simp [intOf]
        · have q2 : IntKind.i64.wrap 40 = 40 := rfl
          have q3 : IntKind.u8.wrap ((n : Int) / 1099511627776) = (b.toNat : Int) := by rw [hb, IntKind.wrap_u8]; simp
          clear hb
          go_wp2_with fail
          go_region_law (refine step_append_lies _ rfl (.tmp 17) (.tmp 23) 37 rfl 0 5 i0 (.int .u8 0) 1 1 Try.underlying37 hi hz0 hz1 hz2 rfl (by decide) v _ _ (by simp [Act.eval]) (hv.out.alloc _) ⟨wr.heap.size, 0, none⟩ 1 1 [bv b] (by simp [Act.eval]) rfl (World.news_of_block (cs := #[bv b]) (by exact heap_alloc_new wr _)) (by intro u hu; simp at hu; subst hu; rfl) (by decide) (by unfold maxLen; omega) (by omega) (Nat.zero_le _) _ rfl ?_; intro g cap w1 hown hgrow hat hlt; obtain ⟨hp1, S2, R1, R2, R3⟩ := Wr.pushed (st := s1) (news := [b]) (by decide) (by decide) hp.out hv.out hu.out hS.out ((Kept.refl [] wr).alloc _).drew hgrow hown (by simp) hat; have f1 := (four hp1).2.1; have f2 := (four hp1).2.2.2.2 1; have R1 := Lib.hid R1; clear hown hgrow hat hp1)
          all_goals
            go_wp2_with fail
            go_roundw
            case rel =>
              have e1 : { s1 with bs := s1.bs ++ [b] } = { st with bs := st.bs ++ le (5 + 1) n } := by rw [le_succ, ← hb'.out, hs1.out]; simp
              exact ⟨5 + 1, S2, _, by omega, rfl, Lib.hid e1, R1, hkr.trans R2 hS', fun i hi => by rcases R3 i hi with q | q; exact hS' i q; right; have := hkr.size; omega⟩
            case measure => simp [intOf]
        · have q2 : IntKind.i64.wrap 48 = 48 := rfl
          have q3 : IntKind.u8.wrap ((n : Int) / 281474976710656) = (b.toNat : Int) := by rw [hb, IntKind.wrap_u8]; simp
          clear hb
          go_wp2_with fail
          go_region_law (refine step_append_lies _ rfl (.tmp 17) (.tmp 23) 37 rfl 0 5 i0 (.int .u8 0) 1 1 Try.underlying37 hi hz0 hz1 hz2 rfl (by decide) v _ _ (by simp [Act.eval]) (hv.out.alloc _) ⟨wr.heap.size, 0, none⟩ 1 1 [bv b] (by simp [Act.eval]) rfl (World.news_of_block (cs := #[bv b]) (by exact heap_alloc_new wr _)) (by intro u hu; simp at hu; subst hu; rfl) (by decide) (by unfold maxLen; omega) (by omega) (Nat.zero_le _) _ rfl ?_; intro g cap w1 hown hgrow hat hlt; obtain ⟨hp1, S2, R1, R2, R3⟩ := Wr.pushed (st := s1) (news := [b]) (by decide) (by decide) hp.out hv.out hu.out hS.out ((Kept.refl [] wr).alloc _).drew hgrow hown (by simp) hat; have f1 := (four hp1).2.1; have f2 := (four hp1).2.2.2.2 1; have R1 := Lib.hid R1; clear hown hgrow hat hp1)
          all_goals
            go_wp2_with fail
            go_roundw
            case rel =>
              have e1 : { s1 with bs := s1.bs ++ [b] } = { st with bs := st.bs ++ le (6 + 1) n } := by rw [le_succ, ← hb'.out, hs1.out]; simp
              exact ⟨6 + 1, S2, _, by omega, rfl, Lib.hid e1, R1, hkr.trans R2 hS', fun i hi => by rcases R3 i hi with q | q; exact hS' i q; right; have := hkr.size; omega⟩
            case measure => simp [intOf]
        · have q2 : IntKind.i64.wrap 56 = 56 := rfl
          have q3 : IntKind.u8.wrap ((n : Int) / 72057594037927936) = (b.toNat : Int) := by rw [hb, IntKind.wrap_u8]; simp
          clear hb
          go_wp2_with fail
          go_region_law (refine step_append_lies _ rfl (.tmp 17) (.tmp 23) 37 rfl 0 5 i0 (.int .u8 0) 1 1 Try.underlying37 hi hz0 hz1 hz2 rfl (by decide) v _ _ (by simp [Act.eval]) (hv.out.alloc _) ⟨wr.heap.size, 0, none⟩ 1 1 [bv b] (by simp [Act.eval]) rfl (World.news_of_block (cs := #[bv b]) (by exact heap_alloc_new wr _)) (by intro u hu; simp at hu; subst hu; rfl) (by decide) (by unfold maxLen; omega) (by omega) (Nat.zero_le _) _ rfl ?_; intro g cap w1 hown hgrow hat hlt; obtain ⟨hp1, S2, R1, R2, R3⟩ := Wr.pushed (st := s1) (news := [b]) (by decide) (by decide) hp.out hv.out hu.out hS.out ((Kept.refl [] wr).alloc _).drew hgrow hown (by simp) hat; have f1 := (four hp1).2.1; have f2 := (four hp1).2.2.2.2 1; have R1 := Lib.hid R1; clear hown hgrow hat hp1)
          all_goals
            go_wp2_with fail
            go_roundw
            case rel =>
              have e1 : { s1 with bs := s1.bs ++ [b] } = { st with bs := st.bs ++ le (7 + 1) n } := by rw [le_succ, ← hb'.out, hs1.out]; simp
              exact ⟨7 + 1, S2, _, by omega, rfl, Lib.hid e1, R1, hkr.trans R2 hS', fun i hi => by rcases R3 i hi with q | q; exact hS' i q; right; have := hkr.size; omega⟩
            case measure => simp [intOf]
      · obtain rfl : k = 8 := by omega
        go_wp2_with fail
        go_end0
        exact ⟨rfl, S', by rw [E2.out]; rw [hs1.out] at hwr; exact hwr, hkr, hS'⟩
  · have e1 : st.raw (le 8 n) = st.room 8 := by unfold WS.raw; rw [hl, if_neg hr]
    have hE : (((st.room 8).err : Int) == 0) = false := by simp; omega
    rw [e1]
    clear e1 hl hr
    go_enter Try.func95, Try.ntmps95
    go_wp2_with fail
    refine (Wid.width_64 _).mono ?_
    rintro e w1 ⟨rfl, rfl⟩
    go_wp2_with fail
    refine (room_any _ p S st _ 8 rfl (by omega) ok h).mono ?_
    rintro e w1 ⟨rfl, hw1, hk1⟩
    go_wp2_with fail
    go_returns
    exact ⟨rfl, S, hw1, hk1, fun k hk => Or.inl hk⟩
end Wrt
end Go.Proofs.Ytfdbpbhihccgbaa
end

namespace Go.Proofs.Ytfdbpbhihccgbaa
set_option linter.unusedVariables false
open Go.RowKit
namespace Wrt
open Go.Proofs.Ytfdbpbhihccgbaa.Txt

theorem u32_any (w : World) (p : Nat) (S : List Nat) (st : WS) (x : Int) (n : Nat) (hx : x = n) (hn : n ≤ 4294967295) (ok : Hid st.Ok) (h : Hid (Wr 77 w p S st)) :
    Calls Try.prog 73 #[.pointer (some ⟨p, 0, none⟩), .int .u32 x] w fun e w' => e = .returned (.tuple #[]) ∧ Out 77 w p S (st.raw (le 4 n)) w' := by
  subst hx
  go_enter Try.func73, Try.ntmps73
  go_wp2_with fail
  refine (put32 _ p S st _ n rfl hn ok h).mono ?_
  rintro e w1 ⟨rfl, hw⟩
  go_wp2_with fail
  go_end0
  exact ⟨rfl, hw⟩
theorem u64_any (w : World) (p : Nat) (S : List Nat) (st : WS) (x : Int) (n : Nat) (hx : x = n) (hn : n ≤ 18446744073709551615) (ok : Hid st.Ok) (h : Hid (Wr 77 w p S st)) :
    Calls Try.prog 75 #[.pointer (some ⟨p, 0, none⟩), .int .u64 x] w fun e w' => e = .returned (.tuple #[]) ∧ Out 77 w p S (st.raw (le 8 n)) w' := by
  subst hx
  go_enter Try.func75, Try.ntmps75
  go_wp2_with fail
  refine (put64 _ p S st _ n rfl hn ok h).mono ?_
  rintro e w1 ⟨rfl, hw⟩
  go_wp2_with fail
  go_end0
  exact ⟨rfl, hw⟩
end Wrt
end Go.Proofs.Ytfdbpbhihccgbaa
