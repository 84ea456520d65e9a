/- What each call of a writer does: U8, U16, U32, U64, Raw, Text, Open, Shut, Len, Done. -/
import Derived.Test.YtfdbpbhihccgbaaPut1
import Derived.Test.YtfdbpbhihccgbaaApp
import Derived.Laws.AppendOwnNone
namespace Go.Proofs.Ytfdbpbhihccgbaa
set_option linter.unusedVariables false
open Go.RowKit

/-- Bytes that can be read: a slice's value and where it lies (T: its blocks). -/
def Src (w : World) (v : Value) (bs : List UInt8) (T : List Nat) : Prop :=
  ∃ a c, v = .slice a bs.length c ∧ (a = none → bs = [] ∧ c = 0) ∧ ∀ ad, a = some ad → (0 < bs.length → ad.block ∈ T) ∧ ∀ j u, (bs.map bv)[j]? = some u → w.cell? (ad.add j) = some u

theorem add_block (a : Addr) (j : Nat) : (a.add j).block = a.block := by unfold Addr.add; split <;> rfl
theorem pos_of {bs : List UInt8} {j : Nat} {u : Value} (h : (bs.map bv)[j]? = some u) : 0 < bs.length := by
  cases bs with
  | nil => simp at h
  | cons a l => simp
theorem Src.kept {w w' : World} {v : Value} {bs : List UInt8} {T S : List Nat} (h : Src w v bs T) (hk : Kept S w w') (hd : ∀ k ∈ T, k ∉ S) : Src w' v bs T := by
  obtain ⟨a, c, h1, h2, h3⟩ := h
  refine ⟨a, c, h1, h2, fun ad e => ⟨(h3 ad e).1, fun j u hu => ?_⟩⟩
  have hc := (h3 ad e).2 j u hu
  have hlt := World.block_lt_of_cell? w _ hc
  rw [← hc]
  exact World.cell?_of_block (hk.block _ hlt (by rw [add_block]; exact hd _ ((h3 ad e).1 (pos_of hu))))
theorem Src.of_own {w : World} {v : Value} {bs : List UInt8} {base : Nat} (h : w.ownsRow base 5 1 v bs.length (bs.map bv)) : Src w v bs v.ownBlock.toList := by
  have hc := fun g => h.cells (g := g)
  rcases h.2 with ⟨rfl, h0⟩ | ⟨g, cap, cur, rfl, _⟩
  · exact ⟨none, 0, by rw [h0], fun _ => ⟨List.eq_nil_of_length_eq_zero h0, rfl⟩, fun ad e => by cases e⟩
  · refine ⟨_, _, rfl, fun e => (by cases e), fun ad e => ?_⟩
    cases e
    exact ⟨fun _ => by simp [Value.ownBlock], hc g rfl⟩

/-- Something was appended to the bytes and the slice is stored back: whatever its value. -/
theorem Wr.pushed2 {t : TypeId} {wr W w1 : World} {p : Nat} {S : List Nat} {st : WS} {v u v' : Value} {m : Nat} {news : List UInt8} (h5 : 5 ≠ t) (h3 : 3 ≠ t)
    (hp : wr.heap[p]? = some (.cells #[.int .i64 st.lim, v, u, .int .i64 st.err] t (0, 0))) (hv : wr.ownsRow 0 5 1 v st.bs.length (st.bs.map bv)) (hu : wr.ownsRow 0 3 1 u st.os.length (st.os.map iv))
    (hS : S = p :: (v.ownBlock.toList ++ u.ownBlock.toList)) (hW : Kept [] wr W) (hgrow : W.grownBy w1 v.ownBlock)
    (hown : w1.ownsRow 0 5 1 v' m (st.bs.map bv ++ news.map bv)) (hm : m = (st.bs ++ news).length) (hat : v'.ownBlock = v.ownBlock ∨ v'.ownBlock = some W.heap.size) :
    w1.heap[p]? = some (.cells #[.int .i64 st.lim, v, u, .int .i64 st.err] t (0, 0)) ∧
    ∃ S', Wr t (w1.setCell ⟨p, 1, none⟩ v') p S' { st with bs := st.bs ++ news } ∧ Kept S wr (w1.setCell ⟨p, 1, none⟩ v') ∧ (∀ i ∈ S', i ∈ S ∨ wr.heap.size ≤ i) := by
  have hk1 : Kept S wr w1 := by
    refine (hW.mono (T := S) (fun i hi => by simp at hi)).grown hgrow (fun k hk => Or.inl ?_)
    rw [hS, hk]; simp
  have hpne : ∀ k, v.ownBlock = some k → k ≠ p := own_ne hv hp h5
  have hW1 : Kept v.ownBlock.toList wr w1 := (hW.mono (T := v.ownBlock.toList) (fun i hi => by simp at hi)).grown hgrow (fun k hk => Or.inl (by rw [hk]; simp))
  have hp1 : w1.heap[p]? = some (.cells #[.int .i64 st.lim, v, u, .int .i64 st.err] t (0, 0)) := by
    rw [hW1.block p (block_lt hp) (fun hm => hpne p (by simpa using hm) rfl)]; exact hp
  have hu1 : w1.ownsRow 0 3 1 u st.os.length (st.os.map iv) := own_kept hu hW1 (fun k hk hm => own_apart hu hv (by decide) k hk (by simpa using hm))
  refine ⟨hp1, p :: (v'.ownBlock.toList ++ u.ownBlock.toList), ⟨_, u, by rw [heap_set _ hp1]; rfl, ?_, own_set hu1 hp1 h3, rfl⟩, hk1.setCell (Or.inl (by rw [hS]; simp)) _, ?_⟩
  · rw [← hm, List.map_append]
    exact own_set hown hp1 h5
  · intro i hi
    simp only [List.mem_append, List.mem_cons, Option.mem_toList] at hi
    rcases hi with rfl | hi | hi
    · left; rw [hS]; simp
    · rcases hat with q | q
      · left; rw [hS, ← q, hi]; simp
      · right; rw [hi] at q; cases q; exact hW.size
    · left; rw [hS, hi]; simp

theorem WS.room_bad {st : WS} (h : st.err ≠ 0) (n : Nat) : st.room n = st := by
  unfold WS.room WS.fail
  rw [if_neg h]
  split <;> rfl
theorem WS.fail_bad {st : WS} (h : st.err ≠ 0) (n : Nat) : st.fail n = st := by unfold WS.fail; rw [if_neg h]
theorem WS.fail_err {st : WS} {n : Nat} (hn : n ≠ 0) : (st.fail n).err ≠ 0 := by unfold WS.fail; simp only; split <;> assumption
theorem WS.raw_bad {st : WS} (h : st.err ≠ 0) (b : List UInt8) : st.raw b = st := by
  unfold WS.raw
  rw [WS.room_bad h, if_neg h]

/-- A text, as the chapter tells it. -/
def WS.text (st : WS) (s : ByteArray) : WS :=
  if st.err ≠ 0 then st else if 65535 < s.size then st.fail 13 else if Utf.good s = false then st.fail 12 else st.raw (le 2 s.size ++ s.data.toList)

/-- What a call leaves of a writer. -/
def Out (t : TypeId) (w : World) (p : Nat) (S : List Nat) (st : WS) (w' : World) : Prop := ∃ S', Hid (Wr t w' p S' st) ∧ Kept S w w' ∧ (∀ k ∈ S', k ∈ S ∨ w.heap.size ≤ k)
theorem Out.trans {t : TypeId} {w w1 w2 : World} {p : Nat} {S S1 : List Nat} {st : WS} (hk : Kept S w w1) (hs : ∀ k ∈ S1, k ∈ S ∨ w.heap.size ≤ k) (h : Out t w1 p S1 st w2) : Out t w p S st w2 := by
  obtain ⟨S2, h1, h2, h3⟩ := h
  exact ⟨S2, h1, hk.trans h2 hs, fun k hk2 => by rcases h3 k hk2 with q | q; exact hs k q; right; have := hk.size; omega⟩

namespace Wrt
open Go.Proofs.Ytfdbpbhihccgbaa.Txt

theorem u16_any (w : World) (p : Nat) (S : List Nat) (st : WS) (x : Int) (n : Nat) (hx : x = n) (hn : n ≤ 65535) (ok : Hid st.Ok) (h : Hid (Wr 77 w p S st)) :
    Calls Try.prog 23 #[.pointer (some ⟨p, 0, none⟩), .int .u16 x] w fun e w' => e = .returned (.tuple #[]) ∧ Out 77 w p S (st.raw (le 2 n)) w' := by
  subst hx
  go_enter Try.func23, Try.ntmps23
  go_wp2_with fail
  refine (put16 _ p S st _ n rfl hn ok h).mono ?_
  rintro e w1 ⟨rfl, hw⟩
  go_wp2_with fail
  go_end0
  exact ⟨rfl, hw⟩
theorem u8_any (w : World) (p : Nat) (S : List Nat) (st : WS) (x : Int) (n : Nat) (hx : x = n) (hn : n ≤ 255) (ok : Hid st.Ok) (h : Hid (Wr 77 w p S st)) :
    Calls Try.prog 25 #[.pointer (some ⟨p, 0, none⟩), .int .u8 x] w fun e w' => e = .returned (.tuple #[]) ∧ Out 77 w p S (st.raw (le 1 n)) w' := by
  subst hx
  go_enter Try.func25, Try.ntmps25
  go_wp2_with fail
  refine (put8 _ p S st _ n rfl hn ok h).mono ?_
  rintro e w1 ⟨rfl, hw⟩
  go_wp2_with fail
  go_end0
  exact ⟨rfl, hw⟩

theorem len_any (w : World) (p : Nat) (S : List Nat) (st : WS) (h : Hid (Wr 77 w p S st)) :
    Calls Try.prog 13 #[.pointer (some ⟨p, 0, none⟩)] w fun e w' => e = .returned (.int .i64 st.bs.length) ∧ w = w' := by
  obtain ⟨v, u, c0, c1, c2, c3, fz, hv, -⟩ := h.out.parts
  obtain ⟨a, c, rfl⟩ := own_slice hv.out
  go_enter Try.func13, Try.ntmps13
  go_wp2_with fail
  go_ret
  exact ⟨rfl, rfl⟩

set_option maxHeartbeats 1000000 in
/-- Raw. -/
theorem raw_any (w : World) (p : Nat) (S T : List Nat) (st : WS) (b : Value) (bs : List UInt8) (hsz : bs.length ≤ 1152921504606846976) (hb : Hid (Src w b bs T)) (hd : Hid (∀ k ∈ T, k ∉ S)) (ok : Hid st.Ok) (h : Hid (Wr 77 w p S st)) :
    Calls Try.prog 77 #[.pointer (some ⟨p, 0, none⟩), b] w fun e w' => e = .returned (.tuple #[]) ∧ Out 77 w p S (st.raw bs) w' := by
  obtain ⟨i0, hi, hz0, hz1, hz2⟩ := info_parts info5
  have k1 := ok.out.lim
  by_cases hr : (st.room bs.length).err = 0
  · have e1 : st.raw bs = { st.room bs.length with bs := st.bs ++ bs } := by unfold WS.raw; rw [if_pos hr]
    obtain ⟨e2, e3, e4⟩ := WS.room_ok hr
    have hE : (((st.room bs.length).err : Int) == 0) = true := by rw [hr]; rfl
    have hE0 : ((st.err : Int) == 0) = true := by rw [e4]; rfl
    rw [e1]
    have E2 := Lib.hid e2
    clear e1 e2 e4 hr
    have hb2 := hb.out
    obtain ⟨a, c, rfl, hno, hcl⟩ := hb.out
    have Hcl := Lib.hid hcl
    clear hcl
    cases a with
    | none =>
      obtain ⟨rfl, rfl⟩ := hno rfl
      have hE' : (((st.room 0).err : Int) == 0) = true := hE
      have E2' : Hid (st.room 0 = st) := E2
      clear hno hb2 hE hsz e3 E2 Hcl hb
      rw [show (List.length ([] : List UInt8)) = 0 from rfl]
      go_enter Try.func77, Try.ntmps77
      go_wp2_with fail
      refine (room_any _ p S st _ 0 rfl (by omega) ok h).mono ?_
      rintro e w1 ⟨rfl, hw1, hk1⟩
      rw [E2'.out] at hw1
      obtain ⟨v, u, c0, c1, c2, c3, fz, hv, hu, hp, hS⟩ := hw1.out.parts
      obtain ⟨a, c, rfl⟩ := own_slice hv.out
      have f2 := fz 1
      go_wp2_with (at_builtin; refine wpList_append_own_none rfl (.tmp 12) (.tmp 13) 37 rfl 0 5 i0 1 Try.underlying37 hi _ _ _ rfl hv.out rfl ?_)
      go_end0
      refine ⟨rfl, S, ?_, hk1.setCell (Or.inl (by rw [hS.out]; simp)) _, fun k hk => Or.inl hk⟩
      rw [E2'.out, List.append_nil]
      exact ⟨_, u, by rw [heap_set _ hp.out]; rfl, own_set hv.out hp.out (by decide), own_set hu.out hp.out (by decide), hS.out⟩
    | some ad =>
      clear hno hE
      have hE' : (((st.room bs.length).err : Int) == 0) = true := by rw [E2.out]; exact hE0
      go_enter Try.func77, Try.ntmps77
      go_wp2_with fail
      refine (room_any _ p S st _ bs.length rfl (by omega) ok h).mono ?_
      rintro e w1 ⟨rfl, hw1, hk1⟩
      rw [E2.out] at hw1
      have hsrc := Lib.hid ((hb2.kept hk1 hd.out))
      obtain ⟨v, u, c0, c1, c2, c3, fz, hv, hu, hp, hS⟩ := hw1.out.parts
      have f2 := fz 1
      have hcl : Hid (∀ j u, (bs.map bv)[j]? = some u → w1.cell? (ad.add j) = some u) := by
        obtain ⟨a, c', q1, _, q3⟩ := hsrc.out
        cases q1
        exact (q3 ad rfl).2
      go_wp2_with (at_builtin; refine wpList_append_own_at _ rfl (.tmp 12) (.tmp 13) 37 rfl 0 5 i0 (.int .u8 0) 1 1 Try.underlying37 hi hz0 hz1 hz2 rfl (by decide) v _ _ rfl hv.out ad _ _ (bs.map bv) rfl (by simp) hcl.out (by intro u hu; obtain ⟨x, _, rfl⟩ := List.mem_map.1 hu; rfl) (by unfold maxLen; omega) (by omega) (Nat.zero_le _) ?_; intro v' w2 hown hgrow _ hat; obtain ⟨hp1, S2, R1, R2, R3⟩ := Wr.pushed2 (st := st) (news := bs) (by decide) (by decide) hp.out hv.out hu.out hS.out (Kept.refl [] w1) hgrow hown (by simp) hat; have g1 := (four hp1).2.1; have g2 := (four hp1).2.2.2.2 1; obtain ⟨a, c, rfl⟩ := own_slice hown; have R1 := Lib.hid R1; clear hown hgrow hat hp1)
      go_end0
      refine ⟨rfl, S2, ?_, hk1.trans R2 (fun k hk => Or.inl hk), fun k hk => ?_⟩
      · rw [E2.out]; exact R1
      · rcases R3 k hk with q | q
        · exact Or.inl q
        · right; have := hk1.size; omega
  · have e1 : st.raw bs = st.room bs.length := by unfold WS.raw; rw [if_neg hr]
    have hE : (((st.room bs.length).err : Int) == 0) = false := by simp; omega
    rw [e1]
    clear e1 hr
    obtain ⟨a, c, rfl, -⟩ := hb.out
    go_enter Try.func77, Try.ntmps77
    go_wp2_with fail
    refine (room_any _ p S st _ bs.length rfl (by omega) ok h).mono ?_
    rintro e w1 ⟨rfl, hw1, hk1⟩
    go_wp2_with fail
    go_end0
    exact ⟨rfl, S, hw1, hk1, fun k hk => Or.inl hk⟩
end Wrt
end Go.Proofs.Ytfdbpbhihccgbaa
