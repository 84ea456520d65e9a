/- The reference's writer: Text, Open, Done. -/
import Derived.Test.YtfdbpbhihccgbaaVnm
namespace Go.Proofs.Ytfdbpbhihccgbaa
set_option linter.unusedVariables false
open Go.RowKit
namespace Vrt
open Go.Proofs.Ytfdbpbhihccgbaa.Txt Go.PlainAid

theorem le2 (n : Nat) : le 2 n = [UInt8.ofNat n, UInt8.ofNat (n / 256)] := by simp [le, List.range_succ]

/-- Text: it was wrong before. -/
theorem text_wrong (w : World) (p : Nat) (S : List Nat) (st : WS) (s : ByteArray) (he : st.err ≠ 0) (h : Hid (Wr 79 w p S st)) :
    Calls Try.prog 40 #[.pointer (some ⟨p, 0, none⟩), .string s] w fun e w' => e = .returned (.tuple #[]) ∧ Out 79 w p S st w' := by
  have hE : ((st.err : Int) != 0) = true := by rw [bne_iff_ne]; omega
  have hE2 : ((st.err : Int) == 0) = false := by simp; omega
  obtain ⟨v, u, c0, c1, c2, c3, fz, -⟩ := h.out.parts
  go_enter Try.func40, Try.ntmps40
  go_wp2_with fail
  go_returns
  exact ⟨rfl, S, h, Kept.refl _ _, fun k hk => Or.inl hk⟩

set_option maxRecDepth 100000 in
theorem text_long (w : World) (p : Nat) (S : List Nat) (st : WS) (s : ByteArray) (he : st.err = 0) (hl : 65535 < s.size) (h : Hid (Wr 79 w p S st)) :
    Calls Try.prog 40 #[.pointer (some ⟨p, 0, none⟩), .string s] w fun e w' => e = .returned (.tuple #[]) ∧ Out 79 w p S { st with err := 13 } w' := by
  have hE : ((st.err : Int) != 0) = false := by rw [he]; rfl
  have hE2 : ((st.err : Int) == 0) = true := by rw [he]; rfl
  have hst := Lib.hid (h.out.fail_store (by decide) (by decide) 13)
  obtain ⟨v, u, c0, c1, c2, c3, fz, -⟩ := h.out.parts
  have hl' : (65535 : Int) < (s.size : Int) := by omega
  clear he hl
  go_enter Try.func40, Try.ntmps40
  go_wp2_with fail
  go_returns
  exact ⟨rfl, S, hst.out.1, hst.out.2, fun k hk => Or.inl hk⟩

set_option maxRecDepth 100000 in
theorem text_bad (w : World) (p : Nat) (S : List Nat) (st : WS) (s : ByteArray) (he : st.err = 0) (hl : s.size ≤ 65535) (hg : Hid (Utf.good s = false)) (h : Hid (Wr 79 w p S st)) :
    Calls Try.prog 40 #[.pointer (some ⟨p, 0, none⟩), .string s] w fun e w' => e = .returned (.tuple #[]) ∧ Out 79 w p S { st with err := 12 } w' := by
  have hE : ((st.err : Int) != 0) = false := by rw [he]; rfl
  have hE2 : ((st.err : Int) == 0) = true := by rw [he]; rfl
  have hst := Lib.hid (h.out.fail_store (by decide) (by decide) 12)
  obtain ⟨v, u, c0, c1, c2, c3, fz, -⟩ := h.out.parts
  have hl' : ¬ (65535 : Int) < (s.size : Int) := by omega
  clear he
  go_enter Try.func40, Try.ntmps40
  go_wp2_with fail
  refine (rgood_any s _ (by omega)).mono ?_
  rintro e w1 ⟨rfl, rfl⟩
  rw [hg.out]
  go_wp2_with fail
  go_returns
  exact ⟨rfl, S, hst.out.1, hst.out.2, fun k hk => Or.inl hk⟩

set_option maxHeartbeats 1000000 in
set_option maxRecDepth 100000 in
theorem text_good (w : World) (p : Nat) (S : List Nat) (st : WS) (s : ByteArray) (he : st.err = 0) (hl : s.size ≤ 65535) (hg : Hid (Utf.good s = true)) (ok : Hid st.Ok) (h : Hid (Wr 79 w p S st)) :
    Calls Try.prog 40 #[.pointer (some ⟨p, 0, none⟩), .string s] w fun e w' => e = .returned (.tuple #[]) ∧ Out 79 w p S (st.raw (le 2 s.size ++ s.data.toList)) w' := by
  have hE : ((st.err : Int) != 0) = false := by rw [he]; rfl
  have hE2 : ((st.err : Int) == 0) = true := by rw [he]; rfl
  obtain ⟨v, u, c0, c1, c2, c3, fz, -⟩ := h.out.parts
  obtain ⟨i0, hi, hz0, hz1, hz2⟩ := info_parts Wrt.info5
  have hl' : ¬ (65535 : Int) < (s.size : Int) := by omega
  obtain ⟨x0, hx0⟩ : ∃ x : UInt8, x = UInt8.ofNat s.size := ⟨_, rfl⟩
  obtain ⟨x1, hx1⟩ : ∃ x : UInt8, x = UInt8.ofNat (s.size / 256) := ⟨_, rfl⟩
  have q0 : (s.size : Int) % 256 = (x0.toNat : Int) := by rw [hx0]; simp
  have q1 : (s.size : Int) / 256 = (x1.toNat : Int) := by rw [hx1]; simp; omega
  have hle : Hid (le 2 s.size = [x0, x1]) := by rw [le2, ← hx0, ← hx1]; rfl
  have hb := get_bt s
  clear he hx0 hx1
  go_enter Try.func40, Try.ntmps40
  go_wp2_with fail
  refine (rgood_any s _ (by omega)).mono ?_
  rintro e w1 ⟨rfl, rfl⟩
  rw [hg.out]
  go_wp2_with (at_builtin; refine wpList_append_own _ rfl (.tmp 23) (.tmp 32) 37 rfl w.heap.size 5 i0 (.int .u8 0) 1 1 Try.underlying37 hi hz0 hz1 hz2 rfl (by decide) (.slice none 0 0) 0 [] rfl (World.ownsRow_nil _ _ _ _) ⟨w.heap.size, 0, none⟩ 2 2 [bv x0, bv x1] rfl rfl (World.news_of_block (cs := #[bv x0, bv x1]) (by exact heap_alloc_new w _)) (by intro u hu; simp at hu; rcases hu with rfl | rfl <;> rfl) (by decide) (by decide) (by simp) ?_; intro v2 w2 hown2 hgrow2 _; have R1 : Hid (w2.ownsRow w.heap.size 5 1 v2 2 ([x0, x1].map bv)) := (by simpa [Hid] using hown2); have R2 : Hid (Kept [] w w2) := ((Kept.refl [] w).alloc _).grown hgrow2 (fun i hi => by cases hi); clear hown2 hgrow2)
  go_loopw [4, 5] (fun b0 kv wr => ∃ (k : Nat) (b : Value) (l : List UInt8), k ≤ s.size ∧ kv = .int .i64 k ∧ b = b0 ∧ Hid (l = [x0, x1] ++ s.data.toList.take k) ∧ l.length ≤ k + 2 ∧ Hid (wr.ownsRow w.heap.size 5 1 b l.length (l.map bv)) ∧ Hid (Kept [] w wr)) (fun _ kv _ => s.size - (intOf kv).toNat)
  case atStart => exact ⟨0, _, [x0, x1], by omega, rfl, rfl, by simp [Hid], by simp, R1, R2⟩
  case round =>
    obtain ⟨k, b, l, hk, rfl, rfl, hL, hlk, hown, hK⟩ := hrel
    clear R1 R2
    by_cases hlt : k < s.size
    · obtain ⟨c, hc⟩ : ∃ c : UInt8, c = s.data.toList[k]'(by simpa using hlt) := ⟨_, rfl⟩
      have q3 : bt s k = (c.toNat : Int) := by rw [hc]; exact bt_list s k hlt
      have hll : Hid (l ++ [c] = [x0, x1] ++ s.data.toList.take (k + 1)) := by
        show _ = _
        rw [hL.out, List.take_succ_eq_append_getElem (by simpa using hlt), ← hc, List.append_assoc]
      clear hc
      go_wp2_with (at_builtin; refine wpList_append_own _ rfl (.tmp 40) (.tmp 44) 37 rfl w.heap.size 5 i0 (.int .u8 0) 1 1 Try.underlying37 hi hz0 hz1 hz2 rfl (by decide) b l.length _ rfl (hown.out.alloc _) ⟨wr.heap.size, 0, none⟩ 1 1 [bv c] rfl rfl (World.news_of_block (cs := #[bv c]) (by exact heap_alloc_new wr _)) (by intro u hu; simp at hu; subst hu; rfl) (by unfold maxLen; omega) (by omega) (by have := hK.out.size; simp; omega) ?_; intro v3 w3 hown3 hgrow3 _; have R1 : Hid (w3.ownsRow w.heap.size 5 1 v3 (l ++ [c]).length ((l ++ [c]).map bv)) := (by simpa [Hid] using hown3); have R2 : Hid (Kept [] w w3) := (hK.out.trans ((Kept.refl [] wr).alloc _) (fun i hi => by simp at hi)).grown hgrow3 (fun i hi => Or.inr (hown.out.lt i hi).1); clear hown3 hgrow3)
      go_roundw
      case rel => exact ⟨k + 1, v3, l ++ [c], by omega, by go_num, rfl, hll, by simp; omega, R1, R2⟩
      case measure => simp [intOf]; omega
    · have hkM : l = le 2 s.size ++ s.data.toList := by
        rw [hL.out, hle.out, List.take_of_length_le (by simp; omega)]
      have HKM := Lib.hid hkM
      have hs : Hid (Src wr b l b.ownBlock.toList) := Src.of_own hown.out
      have hd : Hid (∀ i ∈ b.ownBlock.toList, i ∉ S) := fun i hi hm2 => by
        have h1 := (hown.out.lt i (by simpa using hi)).1
        have h2 := h.out.lt i hm2
        omega
      have hw : Hid (Wr 79 wr p S st) := h.out.kept hK.out (fun i _ hm => by simp at hm)
      clear hkM
      go_wp2_with fail
      refine (raw_any _ p S _ st _ l (by omega) hs hd ok hw).mono ?_
      rintro e w3 ⟨rfl, ho⟩
      have HO := Lib.hid ho
      clear ho
      go_wp2_with fail
      go_end0
      rw [← HKM.out]
      exact ⟨rfl, Out.trans (S1 := S) (hK.out.mono (fun i hi => by simp at hi)) (fun i hi => Or.inl hi) HO.out⟩

/-- Text. -/
theorem text_any (w : World) (p : Nat) (S : List Nat) (st : WS) (s : ByteArray) (ok : Hid st.Ok) (h : Hid (Wr 79 w p S st)) :
    Calls Try.prog 40 #[.pointer (some ⟨p, 0, none⟩), .string s] w fun e w' => e = .returned (.tuple #[]) ∧ Out 79 w p S (st.text s) w' := by
  by_cases he : st.err ≠ 0
  · have e : st.text s = st := by unfold WS.text; rw [if_pos he]
    rw [e]
    exact text_wrong w p S st s he h
  · have he0 : st.err = 0 := by omega
    by_cases hl : 65535 < s.size
    · have e : st.text s = { st with err := 13 } := by unfold WS.text WS.fail; rw [if_neg he, if_pos hl, if_pos he0]
      rw [e]
      exact text_long w p S st s he0 hl h
    · by_cases hg : Utf.good s = true
      · have e : st.text s = st.raw (le 2 s.size ++ s.data.toList) := by unfold WS.text; rw [if_neg he, if_neg hl, if_neg (by simp [hg])]
        rw [e]
        exact text_good w p S st s he0 (by omega) hg ok h
      · have hg' : Utf.good s = false := by simpa using hg
        have e : st.text s = { st with err := 12 } := by unfold WS.text WS.fail; rw [if_neg he, if_neg hl, if_pos hg', if_pos he0]
        rw [e]
        exact text_bad w p S st s he0 (by omega) hg' h

set_option maxHeartbeats 1000000 in
set_option maxRecDepth 100000 in
/-- Open. -/
theorem open_any (w : World) (p : Nat) (S : List Nat) (st : WS) (ok : Hid st.Ok) (h : Hid (Wr 79 w p S st)) :
    Calls Try.prog 80 #[.pointer (some ⟨p, 0, none⟩)] w fun e w' => e = .returned (.int .i64 st.place) ∧ Out 79 w p S st.opened w' := by
  have k1 := ok.out.lim
  have k2 := ok.out.bs
  have k3 := ok.out.os
  obtain ⟨v, u, c0, c1, c2, c3, fz, hv, -⟩ := h.out.parts
  obtain ⟨a, c, rfl⟩ := own_slice hv.out
  by_cases hr : (st.room 2).err = 0
  · have e1 : st.opened = { st with bs := st.bs ++ [0, 0], os := st.os ++ [st.bs.length] } := by unfold WS.opened; rw [if_pos hr]
    have ep : st.place = st.bs.length := by unfold WS.place; rw [if_pos hr]
    obtain ⟨e2, e3, e4⟩ := WS.room_ok hr
    have e5 := WS.raw_good (st := st) (b := le 2 0) (by rw [le_length]; exact hr)
    rw [e1, ep]
    have hE : ((st.err : Int) == 0) = true := by rw [e4]; rfl
    have E5 := Lib.hid e5
    have E4 := Lib.hid e4
    clear e1 e2 e4 e5 hr ep
    go_enter Try.func80, Try.ntmps80
    go_wp2_with fail
    refine (u16_any _ p S st _ 0 rfl (by omega) ok h).mono ?_
    rintro e w2 ⟨rfl, S2, hw2, hk2, hS2⟩
    clear c0 c1 c2 c3 fz hv
    rw [E5.out] at hw2
    obtain ⟨s1, hs1⟩ : ∃ s1 : WS, s1 = { st with bs := st.bs ++ le 2 0 } := ⟨_, rfl⟩
    rw [← hs1] at hw2
    have hn1 : s1.os.length ≤ 16777216 := by rw [hs1]; simp; omega
    have hE1 : ((s1.err : Int) != 0) = false := by rw [hs1]; show ((st.err : Int) != 0) = false; rw [E4.out]; rfl
    have hE2 : ((s1.err : Int) == 0) = true := by rw [hs1]; exact hE
    have Hs1 := Lib.hid hs1
    clear hs1
    obtain ⟨v, u, c0, c1, c2, c3, fz, hv, hu, hp, hS⟩ := hw2.out.parts
    obtain ⟨i0, hi, hz0, hz1, hz2⟩ := info_parts Wrt.info3
    go_wp2_with (at_builtin; refine wpList_append_lies _ rfl (.tmp 20) (.tmp 22) 22 rfl 0 3 i0 (.int .i64 0) 1 8 Try.underlying22 hi hz0 hz1 hz2 rfl (by decide) u _ _ rfl (hu.out.alloc _) ⟨w2.heap.size, 0, none⟩ 1 1 [iv st.bs.length] rfl rfl (World.news_of_block (cs := #[iv st.bs.length]) (by exact heap_alloc_new w2 _)) (by intro u hu; simp at hu; subst hu; rfl) (by decide) (by unfold maxLen; omega) (by omega) (Nat.zero_le _) _ rfl ?_; intro g cap w3 hown hgrow hat hlt; obtain ⟨hp1, S3, R1, R2, R3⟩ := Wr.pushedOs (st := s1) (by decide) (by decide) hp.out hv.out hu.out hS.out ((Kept.refl [] w2).alloc _) hgrow hown (by simp) hat; have g1 := (four hp1).2.2.1; have g2 := (four hp1).2.2.2.2 2; have R1 := Lib.hid R1; clear hown hgrow hat hp1)
    go_ret
    refine ⟨rfl, S3, ?_, hk2.trans R2 hS2, fun k hk => ?_⟩
    · have e : { st with bs := st.bs ++ [0, 0], os := st.os ++ [st.bs.length] } = { s1 with os := s1.os ++ [st.bs.length] } := by rw [Hs1.out]; rfl
      rw [e]; exact R1
    · rcases R3 k hk with q | q
      · exact hS2 k q
      · right; have := hk2.size; omega
  · have e1 : st.opened = st.room 2 := by unfold WS.opened; rw [if_neg hr]
    have ep : st.place = 0 := by unfold WS.place; rw [if_neg hr]
    have e5 := WS.raw_err (st := st) (b := le 2 0) (by rw [le_length]; exact hr)
    rw [le_length] at e5
    rw [e1, ep]
    have hE : (((st.room 2).err : Int) != 0) = true := by rw [bne_iff_ne]; omega
    have hE2 : (((st.room 2).err : Int) == 0) = false := by simp; omega
    have E5 := Lib.hid e5
    clear e1 hr ep e5
    go_enter Try.func80, Try.ntmps80
    go_wp2_with fail
    refine (u16_any _ p S st _ 0 rfl (by omega) ok h).mono ?_
    rintro e w2 ⟨rfl, S2, hw2, hk2, hS2⟩
    clear c0 c1 c2 c3 fz hv
    rw [E5.out] at hw2
    obtain ⟨v, u, c0, c1, c2, c3, fz, -⟩ := hw2.out.parts
    go_wp2_with fail
    go_ret
    exact ⟨rfl, S2, hw2, hk2, hS2⟩
end Vrt
end Go.Proofs.Ytfdbpbhihccgbaa
