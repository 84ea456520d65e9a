/- What Text, Open, Shut and Done of a writer do. -/
import Derived.Test.YtfdbpbhihccgbaaWcl
namespace Go.Proofs.Ytfdbpbhihccgbaa
set_option linter.unusedVariables false
open Go.RowKit

theorem WS.raw_good {st : WS} {b : List UInt8} (h : (st.room b.length).err = 0) : st.raw b = { st with bs := st.bs ++ b } := by
  unfold WS.raw
  rw [if_pos h, (WS.room_ok h).1]
theorem WS.raw_err {st : WS} {b : List UInt8} (h : (st.room b.length).err ≠ 0) : st.raw b = st.room b.length := by
  unfold WS.raw
  rw [if_neg h]
theorem WS.room_small {st : WS} {n m : Nat} (h : (st.room n).err = 0) (hm : m ≤ n) : (st.room m).err = 0 := by
  obtain ⟨e1, e2, e3⟩ := WS.room_ok h
  unfold WS.room
  rw [if_neg (by omega)]
  exact e3

/-- What a part's beginning does; and its place. -/
def WS.opened (st : WS) : WS := if (st.room 2).err = 0 then { st with bs := st.bs ++ [0, 0], os := st.os ++ [st.bs.length] } else st.room 2
def WS.place (st : WS) : Nat := if (st.room 2).err = 0 then st.bs.length else 0
/-- What a part's end does. -/
def WS.shut (st : WS) (place : Int) : WS :=
  if st.err ≠ 0 then st else
  match st.os.getLast? with
  | none => st.fail 1
  | some q => if (q : Int) ≠ place then st.fail 1 else if 65535 < st.bs.length - q - 2 then st.fail 13
    else { st with bs := (st.bs.set q (UInt8.ofNat (st.bs.length - q - 2))).set (q + 1) (UInt8.ofNat ((st.bs.length - q - 2) / 256)), os := st.os.dropLast }
def WS.Fit (st : WS) : Prop := ∀ q ∈ st.os, q + 2 ≤ st.bs.length

/-- A place was appended to the open ones and the slice is stored back. -/
theorem Wr.pushedOs {t : TypeId} {wr W w1 : World} {p : Nat} {S : List Nat} {st : WS} {v u : Value} {g m cap q : Nat} (h5 : 5 ≠ t) (h3 : 3 ≠ t)
    (hp : wr.heap[p]? = some (.cells #[.int .i64 st.lim, v, u, .int .i64 st.err] t (0, 0))) (hv : wr.ownsRow 0 5 1 v st.bs.length (st.bs.map bv)) (hu : wr.ownsRow 0 3 1 u st.os.length (st.os.map iv))
    (hS : S = p :: (v.ownBlock.toList ++ u.ownBlock.toList)) (hW : Kept [] wr W) (hgrow : W.grownBy w1 u.ownBlock)
    (hown : w1.ownsRow 0 3 1 (.slice (some ⟨g, 0, none⟩) m cap) m (st.os.map iv ++ [iv q])) (hm : m = (st.os ++ [q]).length) (hat : u.ownBlock = some g ∨ g = W.heap.size) :
    w1.heap[p]? = some (.cells #[.int .i64 st.lim, v, u, .int .i64 st.err] t (0, 0)) ∧
    ∃ S', Wr t (w1.setCell ⟨p, 2, none⟩ (.slice (some ⟨g, 0, none⟩) m cap)) p S' { st with os := st.os ++ [q] } ∧ Kept S wr (w1.setCell ⟨p, 2, none⟩ (.slice (some ⟨g, 0, none⟩) m cap)) ∧ (∀ i ∈ S', i ∈ S ∨ wr.heap.size ≤ i) := by
  have hk1 : Kept S wr w1 := by
    refine (hW.mono (T := S) (fun i hi => by simp at hi)).grown hgrow (fun k hk => Or.inl ?_)
    rw [hS, hk]; simp
  have hpne : ∀ k, u.ownBlock = some k → k ≠ p := own_ne hu hp h3
  have hW1 : Kept u.ownBlock.toList wr w1 := (hW.mono (T := u.ownBlock.toList) (fun i hi => by simp at hi)).grown hgrow (fun k hk => Or.inl (by rw [hk]; simp))
  have hp1 : w1.heap[p]? = some (.cells #[.int .i64 st.lim, v, u, .int .i64 st.err] t (0, 0)) := by
    rw [hW1.block p (block_lt hp) (fun hm => hpne p (by simpa using hm) rfl)]; exact hp
  have hv1 : w1.ownsRow 0 5 1 v st.bs.length (st.bs.map bv) := own_kept hv hW1 (fun k hk hm => own_apart hv hu (by decide) k hk (by simpa using hm))
  refine ⟨hp1, p :: (v.ownBlock.toList ++ (some g).toList), ⟨v, _, by rw [heap_set _ hp1]; rfl, own_set hv1 hp1 h5, ?_, by simp [Value.ownBlock]⟩, hk1.setCell (Or.inl (by rw [hS]; simp)) _, ?_⟩
  · have e : (st.os ++ [q]).map iv = st.os.map iv ++ [iv q] := by simp
    rw [← hm, e]
    exact own_set hown hp1 h3
  · intro i hi
    simp only [List.mem_append, List.mem_cons, Option.mem_toList, Option.some.injEq] at hi
    rcases hi with rfl | hi | hi
    · left; rw [hS]; simp
    · left; rw [hS, hi]; simp
    · subst hi
      rcases hat with q | q
      · left; rw [hS, q]; simp
      · right; rw [q]; exact hW.size

theorem strCells_bv (s : ByteArray) : Lib.strCells s = s.data.toList.map bv := rfl

namespace Wrt
open Go.Proofs.Ytfdbpbhihccgbaa.Txt

/-- Text: too long. -/
theorem text_long (w : World) (p : Nat) (S : List Nat) (st : WS) (s : ByteArray) (hs : s.size ≤ 140737488355328) (hl : 65535 < s.size) (ok : Hid st.Ok) (h : Hid (Wr 77 w p S st)) :
    Calls Try.prog 26 #[.pointer (some ⟨p, 0, none⟩), .string s] w fun e w' => e = .returned (.tuple #[]) ∧ Out 77 w p S (st.fail 13) w' := by
  have hroom : (st.fail 13).room (2 + s.size) = st.fail 13 := WS.room_bad (WS.fail_err (by decide)) _
  have hE : (((st.fail 13).err : Int) == 0) = false := by have := WS.fail_err (st := st) (n := 13) (by decide); simp; omega
  have Hr := Lib.hid hroom
  clear hroom
  have hl' : (65535 : Int) < (s.size : Int) := by omega
  have ok2 : Hid (st.fail 13).Ok := ok.out.fail 13
  go_enter Try.func26, Try.ntmps26
  go_wp2_with fail
  refine (fail_any _ p S st _ 13 rfl h).mono ?_
  rintro e w1 ⟨rfl, hw1, hk1⟩
  go_wp2_with fail
  refine (room_any _ p S _ _ (2 + s.size) (by omega) (by omega) ok2 hw1).mono ?_
  rintro e w2 ⟨rfl, hw2, hk2⟩
  rw [Hr.out] at hw2 ⊢
  go_wp2_with fail
  go_end0
  exact ⟨rfl, S, hw2, hk1.trans hk2 (fun i hi => Or.inl hi), fun k hk => Or.inl hk⟩

/-- Text: none that is good. -/
theorem text_bad (w : World) (p : Nat) (S : List Nat) (st : WS) (s : ByteArray) (hl : s.size ≤ 65535) (hg : Hid (Utf.good s = false)) (ok : Hid st.Ok) (h : Hid (Wr 77 w p S st)) :
    Calls Try.prog 26 #[.pointer (some ⟨p, 0, none⟩), .string s] w fun e w' => e = .returned (.tuple #[]) ∧ Out 77 w p S (st.fail 12) w' := by
  have hroom : (st.fail 12).room (2 + s.size) = st.fail 12 := WS.room_bad (WS.fail_err (by decide)) _
  have hE : (((st.fail 12).err : Int) == 0) = false := by have := WS.fail_err (st := st) (n := 12) (by decide); simp; omega
  have Hr := Lib.hid hroom
  clear hroom
  have hl' : ¬ (65535 : Int) < (s.size : Int) := by omega
  have ok2 : Hid (st.fail 12).Ok := ok.out.fail 12
  go_enter Try.func26, Try.ntmps26
  go_wp2_with fail
  refine (good_any s _ (by omega)).mono ?_
  rintro e w0 ⟨rfl, hb⟩
  have hk0 := Kept.of_below hb S
  have hw0 : Hid (Wr 77 w0 p S st) := h.out.kept (Kept.of_below hb []) (fun k _ hm => by simp at hm)
  clear hb
  rw [hg.out]
  go_wp2_with fail
  refine (fail_any _ p S st _ 12 rfl hw0).mono ?_
  rintro e w1 ⟨rfl, hw1, hk1⟩
  go_wp2_with fail
  refine (room_any _ p S _ _ (2 + s.size) (by omega) (by omega) ok2 hw1).mono ?_
  rintro e w2 ⟨rfl, hw2, hk2⟩
  rw [Hr.out] at hw2 ⊢
  go_wp2_with fail
  go_end0
  exact ⟨rfl, S, hw2, (hk0.trans hk1 (fun i hi => Or.inl hi)).trans hk2 (fun i hi => Or.inl hi), fun k hk => Or.inl hk⟩

set_option maxHeartbeats 1000000 in
/-- Text: a good one. -/
theorem text_good (w : World) (p : Nat) (S : List Nat) (st : WS) (s : ByteArray) (hl : s.size ≤ 65535) (hg : Hid (Utf.good s = true)) (ok : Hid st.Ok) (h : Hid (Wr 77 w p S st)) :
    Calls Try.prog 26 #[.pointer (some ⟨p, 0, none⟩), .string s] w fun e w' => e = .returned (.tuple #[]) ∧ Out 77 w p S (st.raw (le 2 s.size ++ s.data.toList)) w' := by
  have hl' : ¬ (65535 : Int) < (s.size : Int) := by omega
  have hlen : (le 2 s.size ++ s.data.toList).length = 2 + s.size := by rw [List.length_append, le_length]; simp
  have k1 := ok.out.lim
  by_cases hr : (st.room (2 + s.size)).err = 0
  · have e1 := WS.raw_good (b := le 2 s.size ++ s.data.toList) (by rw [hlen]; exact hr)
    obtain ⟨e2, e3, e4⟩ := WS.room_ok hr
    have e5 := WS.raw_good (b := le 2 s.size) (by rw [le_length]; exact WS.room_small hr (by omega))
    rw [e1]
    have hE : ((st.err : Int) == 0) = true := by rw [e4]; rfl
    have E2 := Lib.hid e2
    have E5 := Lib.hid e5
    have q1 : IntKind.u16.wrap (s.size : Int) = s.size := IntWalk.u16_in _ ⟨by omega, by omega⟩
    clear e1 e2 e4 e5 hr hlen
    go_enter Try.func26, Try.ntmps26
    go_wp2_with fail
    refine (good_any s _ (by omega)).mono ?_
    rintro e w0 ⟨rfl, hb⟩
    have hk0 := Kept.of_below hb S
    have hw0 : Hid (Wr 77 w0 p S st) := h.out.kept (Kept.of_below hb []) (fun k _ hm => by simp at hm)
    clear hb
    rw [hg.out]
    go_wp2_with fail
    refine (room_any _ p S _ _ (2 + s.size) (by omega) (by omega) ok hw0).mono ?_
    rintro e w1 ⟨rfl, hw1, hk1⟩
    have hk1' := hk0.trans hk1 (fun i hi => Or.inl hi)
    rw [E2.out] at hw1 ⊢
    clear hk0 hk1
    go_wp2_with fail
    refine (put16 _ p S st _ s.size (by omega) (by omega) ok hw1).mono ?_
    rintro e w2 ⟨rfl, S2, hw2, hk2, hS2⟩
    rw [E5.out] at hw2
    obtain ⟨s1, hs1⟩ : ∃ s1 : WS, s1 = { st with bs := st.bs ++ le 2 s.size } := ⟨_, rfl⟩
    rw [← hs1] at hw2
    have hn1 : s1.bs.length ≤ 16777216 := by rw [hs1]; simp [le_length]; omega
    have Hs1 := Lib.hid hs1
    clear hs1
    obtain ⟨v, u, c0, c1, c2, c3, fz, hv, hu, hp, hS⟩ := hw2.out.parts
    have f2 := fz 1
    obtain ⟨i0, hi, hz0, hz1, hz2⟩ := info_parts info5
    go_wp2_with (at_builtin; refine App.wpList_string_at _ rfl (.tmp 28) (.tmp 29) 37 9 rfl 0 5 i0 Try.underlying37 Try.underlying9 hi hz0 hz1 hz2 v _ _ rfl hv.out s rfl (by unfold maxLen; omega) (by omega) (Nat.zero_le _) ?_; intro v' w3 hown hgrow hat; obtain ⟨hp1, S3, R1, R2, R3⟩ := Wr.pushed2 (st := s1) (news := s.data.toList) (by decide) (by decide) hp.out hv.out hu.out hS.out (Kept.refl [] w2) hgrow hown (by simp) hat; have g1 := (four hp1).2.1; have g2 := (four hp1).2.2.2.2 1; obtain ⟨a, c, rfl⟩ := own_slice hown; have R1 := Lib.hid R1; clear hown hgrow hat hp1)
    go_end0
    have hk3 := hk1'.trans hk2 (fun i hi => Or.inl hi)
    refine ⟨rfl, S3, ?_, hk3.trans R2 (fun k hk => ?_), fun k hk => ?_⟩
    · have e : { st with bs := st.bs ++ (le 2 s.size ++ s.data.toList) } = { s1 with bs := s1.bs ++ s.data.toList } := by rw [Hs1.out]; simp
      rw [e]; exact R1
    · rcases hS2 k hk with q | q
      · exact Or.inl q
      · right; have := hk1'.size; omega
    · rcases R3 k hk with q | q
      · rcases hS2 k q with q | q
        · exact Or.inl q
        · right; have := hk1'.size; omega
      · right; have := hk3.size; omega
  · have e1 := WS.raw_err (b := le 2 s.size ++ s.data.toList) (by rw [hlen]; exact hr)
    rw [e1, hlen]
    have hE : (((st.room (2 + s.size)).err : Int) == 0) = false := by simp; omega
    clear e1 hr hlen
    go_enter Try.func26, Try.ntmps26
    go_wp2_with fail
    refine (good_any s _ (by omega)).mono ?_
    rintro e w0 ⟨rfl, hb⟩
    have hk0 := Kept.of_below hb S
    have hw0 : Hid (Wr 77 w0 p S st) := h.out.kept (Kept.of_below hb []) (fun k _ hm => by simp at hm)
    clear hb
    rw [hg.out]
    go_wp2_with fail
    refine (room_any _ p S _ _ (2 + s.size) (by omega) (by omega) ok hw0).mono ?_
    rintro e w1 ⟨rfl, hw1, hk1⟩
    have hk1' := hk0.trans hk1 (fun i hi => Or.inl hi)
    go_wp2_with fail
    go_end0
    exact ⟨rfl, S, hw1, hk1', fun k hk => Or.inl hk⟩

/-- Text. -/
theorem text_any (w : World) (p : Nat) (S : List Nat) (st : WS) (s : ByteArray) (hs : s.size ≤ 140737488355328) (ok : Hid st.Ok) (h : Hid (Wr 77 w p S st)) :
    Calls Try.prog 26 #[.pointer (some ⟨p, 0, none⟩), .string s] w fun e w' => e = .returned (.tuple #[]) ∧ Out 77 w p S (st.text s) w' := by
  by_cases hl : 65535 < s.size
  · have e : st.text s = st.fail 13 := by
      unfold WS.text
      by_cases he : st.err ≠ 0
      · rw [if_pos he, WS.fail_bad he]
      · rw [if_neg he, if_pos hl]
    rw [e]
    exact text_long w p S st s hs hl ok h
  · by_cases hg : Utf.good s = true
    · have e : st.text s = st.raw (le 2 s.size ++ s.data.toList) := by
        unfold WS.text
        by_cases he : st.err ≠ 0
        · rw [if_pos he, WS.raw_bad he]
        · rw [if_neg he, if_neg hl, if_neg (by simp [hg])]
      rw [e]
      exact text_good w p S st s (by omega) hg ok h
    · have hg' : Utf.good s = false := by simpa using hg
      have e : st.text s = st.fail 12 := by
        unfold WS.text
        by_cases he : st.err ≠ 0
        · rw [if_pos he, WS.fail_bad he]
        · rw [if_neg he, if_neg hl, if_pos hg']
      rw [e]
      exact text_bad w p S st s (by omega) hg' ok h
end Wrt
end Go.Proofs.Ytfdbpbhihccgbaa
