/- The reference's writer, call by call: it does just what the chapter's writer does (WS). -/
import Derived.Test.YtfdbpbhihccgbaaWsh
import Derived.Test.YtfdbpbhihccgbaaWdn
namespace Go.Proofs.Ytfdbpbhihccgbaa
set_option linter.unusedVariables false
open Go.RowKit
namespace Vrt
open Go.Proofs.Ytfdbpbhihccgbaa.Txt

theorem new_good (w : World) (x : Int) (n : Nat) (hx : x = n) (hn : n ≤ 16777216) :
    Calls Try.prog 8 #[.int .i64 x] w fun e w' => e = .returned (.tuple #[.pointer (some ⟨w.heap.size, 0, none⟩), .int .i64 0]) ∧ Hid (Wr 79 w' w.heap.size [w.heap.size] ⟨n, [], [], 0⟩) ∧ Kept [] w w' := by
  subst hx
  go_enter Try.func8, Try.ntmps8
  go_wp2_with fail
  go_ret2
  refine ⟨rfl, ?_, (Kept.refl _ _).alloc _⟩
  exact ⟨.slice none 0 0, .slice none 0 0, heap_alloc_new w _, World.ownsRow_nil _ _ _ _, World.ownsRow_nil _ _ _ _, rfl⟩
theorem new_bad (w : World) (x : Int) (hx : x < 0 ∨ 16777216 < x) (h1 : -9223372036854775808 ≤ x) (h2 : x ≤ 9223372036854775807) :
    Calls Try.prog 8 #[.int .i64 x] w fun e w' => e = .returned (.tuple #[.pointer none, .int .i64 1]) ∧ w = w' := by
  rcases hx with hx | hx
  · go_enter Try.func8, Try.ntmps8
    go_wp2_with fail
    go_ret2
    exact ⟨rfl, rfl⟩
  · have h0 : ¬ x < 0 := by omega
    go_enter Try.func8, Try.ntmps8
    go_wp2_with fail
    go_ret2
    exact ⟨rfl, rfl⟩

theorem len_any (w : World) (p : Nat) (S : List Nat) (st : WS) (h : Hid (Wr 79 w p S st)) :
    Calls Try.prog 14 #[.pointer (some ⟨p, 0, none⟩)] w fun e w' => e = .returned (.int .i64 st.bs.length) ∧ w = w' := by
  obtain ⟨v, u, c0, c1, c2, c3, fz, hv, -⟩ := h.out.parts
  obtain ⟨a, c, rfl⟩ := own_slice hv.out
  go_enter Try.func14, Try.ntmps14
  go_wp2_with fail
  go_ret
  exact ⟨rfl, rfl⟩

/-- Raw: it was wrong before. -/
theorem raw_wrong (w : World) (p : Nat) (S : List Nat) (st : WS) (b : Value) (he : st.err ≠ 0) (h : Hid (Wr 79 w p S st)) :
    Calls Try.prog 78 #[.pointer (some ⟨p, 0, none⟩), b] w fun e w' => e = .returned (.tuple #[]) ∧ Out 79 w p S st w' := by
  have hE : ((st.err : Int) != 0) = true := by rw [bne_iff_ne]; omega
  have hE2 : ((st.err : Int) == 0) = false := by simp; omega
  obtain ⟨v, u, c0, c1, c2, c3, fz, -⟩ := h.out.parts
  go_enter Try.func78, Try.ntmps78
  go_wp2_with fail
  go_returns
  exact ⟨rfl, S, h, Kept.refl _ _, fun k hk => Or.inl hk⟩

set_option maxHeartbeats 1000000 in
set_option maxRecDepth 100000 in
theorem raw_any (w : World) (p : Nat) (S T : List Nat) (st : WS) (b : Value) (bs : List UInt8) (hsz : bs.length ≤ 1152921504606846976) (hb : Hid (Src w b bs T)) (hd : Hid (∀ k ∈ T, k ∉ S)) (ok : Hid st.Ok) (h : Hid (Wr 79 w p S st)) :
    Calls Try.prog 78 #[.pointer (some ⟨p, 0, none⟩), b] w fun e w' => e = .returned (.tuple #[]) ∧ Out 79 w p S (st.raw bs) w' := by
  obtain ⟨i0, hi, hz0, hz1, hz2⟩ := info_parts Wrt.info5
  have k1 := ok.out.lim
  have k2 := ok.out.bs
  by_cases he : st.err = 0
  · have hE : ((st.err : Int) != 0) = false := by rw [he]; rfl
    have hE2 : ((st.err : Int) == 0) = true := by rw [he]; rfl
    obtain ⟨v, u, c0, c1, c2, c3, fz, hv, hu, hp, hS⟩ := h.out.parts
    obtain ⟨va, vc, hvs⟩ := own_slice hv.out
    by_cases hr : st.lim < bs.length + st.bs.length
    · have e1 : st.raw bs = { st with err := 11 } := by
        have e0 : st.room bs.length = { st with err := 11 } := by unfold WS.room WS.fail; rw [if_pos hr, if_pos he]
        unfold WS.raw; rw [e0]; rfl
      have hst := Lib.hid (h.out.fail_store (by decide) (by decide) 11)
      obtain ⟨a, c, rfl, -⟩ := hb.out
      subst hvs
      rw [e1]
      have hr' : (st.lim : Int) - (st.bs.length : Int) < (bs.length : Int) := by omega
      clear e1 hr he
      go_enter Try.func78, Try.ntmps78
      go_wp2_with fail
      go_quiet (fail)
      go_wp2_with fail
      go_returns
      exact ⟨rfl, S, hst.out.1, ((Kept.refl S w).drewN nq).setCell (Or.inl (by rw [hS.out]; simp)) _, fun k hk => Or.inl hk⟩
    · have e1 : st.raw bs = { st with bs := st.bs ++ bs } := WS.raw_good (by unfold WS.room; rw [if_neg hr]; exact he)
      rw [e1]
      have hr' : (bs.length : Int) ≤ (st.lim : Int) - (st.bs.length : Int) := by omega
      have hb2 := hb.out
      obtain ⟨a, c, rfl, hno, hcl⟩ := hb.out
      have Hcl := Lib.hid hcl
      clear hcl e1 he
      cases a with
      | none =>
        obtain ⟨rfl, rfl⟩ := hno rfl
        clear hno hb2 hsz Hcl hb hr
        subst hvs
        have hr2 : (0 : Int) ≤ (st.lim : Int) - (st.bs.length : Int) := by omega
        have f2 := fz 1
        clear hr'
        rw [show (List.length ([] : List UInt8)) = 0 from rfl]
        go_enter Try.func78, Try.ntmps78
        go_wp2_with fail
        go_quiet (fail)
        go_wp2_with (at_builtin; refine wpList_append_own_none rfl (.tmp 29) (.tmp 30) 37 rfl 0 5 i0 1 Try.underlying37 hi _ _ _ rfl (show World.ownsRow (w.drewN nq) _ _ _ _ _ _ from hv.out) rfl ?_)
        go_end0
        have hk : Kept S w ((w.setCell ⟨p, 1, none⟩ (.slice va st.bs.length vc)).drewN nq) := ((Kept.refl S w).setCell (Or.inl (by rw [hS.out]; simp)) _).drewN _
        refine ⟨rfl, S, ?_, hk, fun k hk => Or.inl hk⟩
        rw [List.append_nil]
        exact ⟨_, u, by show (w.setCell ⟨p, 1, none⟩ _).heap[p]? = _; rw [heap_set _ hp.out]; rfl, own_set hv.out hp.out (by decide), own_set hu.out hp.out (by decide), hS.out⟩
      | some ad =>
        clear hno
        subst hvs
        have f2 := fz 1
        have hcl : Hid (∀ j u, (bs.map bv)[j]? = some u → w.cell? (ad.add j) = some u) := (Hcl.out ad rfl).2
        go_enter Try.func78, Try.ntmps78
        go_wp2_with fail
        go_quiet (fail)
        go_wp2_with (at_builtin; refine wpList_append_own_at _ rfl (.tmp 29) (.tmp 30) 37 rfl 0 5 i0 (.int .u8 0) 1 1 Try.underlying37 hi hz0 hz1 hz2 rfl (by decide) (.slice va st.bs.length vc) _ _ rfl (show World.ownsRow (w.drewN nq) _ _ _ _ _ _ from hv.out) ad _ _ (bs.map bv) rfl (by simp) hcl.out (by intro u hu; obtain ⟨x, _, rfl⟩ := List.mem_map.1 hu; rfl) (by unfold maxLen; omega) (by omega) (Nat.zero_le _) ?_; intro v' w2 hown hgrow _ hat; obtain ⟨hp1, S2, R1, R2, R3⟩ := Wr.pushed2 (st := st) (news := bs) (by decide) (by decide) hp.out hv.out hu.out hS.out ((Kept.refl [] w).drewN nq) hgrow hown (by simp) hat; have g1 := (four hp1).2.1; have g2 := (four hp1).2.2.2.2 1; obtain ⟨a, c, rfl⟩ := own_slice hown; have R1 := Lib.hid R1; clear hown hgrow hat hp1)
        go_end0
        exact ⟨rfl, S2, R1, R2, R3⟩
  · rw [WS.raw_bad he]
    exact raw_wrong w p S st b he h
end Vrt
end Go.Proofs.Ytfdbpbhihccgbaa
