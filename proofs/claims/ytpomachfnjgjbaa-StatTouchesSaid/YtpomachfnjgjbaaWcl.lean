/- What each call of a writer does: U8, U16, U32, U64, Raw, Text, Open, Shut, Len, Done. -/
import Derived.Test.YtpomachfnjgjbaaPut1
import Derived.Test.YtpomachfnjgjbaaApp
import Derived.Laws.AppendOwnNone
namespace Go.Proofs.Ytpomachfnjgjbaa
set_option linter.unusedVariables false
open Go.RowKit

/-- Bytes that can be read: a slice's value and where it lies (T: its blocks). -/
def Src (w : World) (v : Value) (bs : List UInt8) (T : List Nat) : Prop :=
  ∃ a c, v = .slice a bs.length c ∧ (a = none → bs = [] ∧ c = 0) ∧ ∀ ad, a = some ad → (0 < bs.length → ad.block ∈ T) ∧ ∀ j u, (bs.map bv)[j]? = some u → w.cell? (ad.add j) = some u

theorem add_block (a : Addr) (j : Nat) : (a.add j).block = a.block := by unfold Addr.add; split <;> rfl
theorem pos_of {bs : List UInt8} {j : Nat} {u : Value} (h : (bs.map bv)[j]? = some u) : 0 < bs.length := by
  cases bs with
  | nil => simp at h
  | cons a l => simp
theorem Src.kept {w w' : World} {v : Value} {bs : List UInt8} {T S : List Nat} (h : Src w v bs T) (hk : Kept S w w') (hd : ∀ k ∈ T, k ∉ S) : Src w' v bs T := by
  obtain ⟨a, c, h1, h2, h3⟩ := h
  refine ⟨a, c, h1, h2, fun ad e => ⟨(h3 ad e).1, fun j u hu => ?_⟩⟩
  have hc := (h3 ad e).2 j u hu
  have hlt := World.block_lt_of_cell? w _ hc
  rw [← hc]
  exact World.cell?_of_block (hk.block _ hlt (by rw [add_block]; exact hd _ ((h3 ad e).1 (pos_of hu))))
theorem Src.of_own {w : World} {v : Value} {bs : List UInt8} {base : Nat} (h : w.ownsRow base 5 1 v bs.length (bs.map bv)) : Src w v bs v.ownBlock.toList := by
  have hc := fun g => h.cells (g := g)
  rcases h.2 with ⟨rfl, h0⟩ | ⟨g, cap, cur, rfl, _⟩
  · exact ⟨none, 0, by rw [h0], fun _ => ⟨List.eq_nil_of_length_eq_zero h0, rfl⟩, fun ad e => by cases e⟩
  · refine ⟨_, _, rfl, fun e => (by cases e), fun ad e => ?_⟩
    cases e
    exact ⟨fun _ => by simp [Value.ownBlock], hc g rfl⟩

/-- Something was appended to the bytes and the slice is stored back: whatever its value. -/
theorem Wr.pushed2 {t : TypeId} {wr W w1 : World} {p : Nat} {S : List Nat} {st : WS} {v u v' : Value} {m : Nat} {news : List UInt8} (h5 : 5 ≠ t) (h3 : 3 ≠ t)
    (hp : wr.heap[p]? = some (.cells #[.int .i64 st.lim, v, u, .int .i64 st.err] t (0, 0))) (hv : wr.ownsRow 0 5 1 v st.bs.length (st.bs.map bv)) (hu : wr.ownsRow 0 3 1 u st.os.length (st.os.map iv))
    (hS : S = p :: (v.ownBlock.toList ++ u.ownBlock.toList)) (hW : Kept [] wr W) (hgrow : W.grownBy w1 v.ownBlock)
    (hown : w1.ownsRow 0 5 1 v' m (st.bs.map bv ++ news.map bv)) (hm : m = (st.bs ++ news).length) (hat : v'.ownBlock = v.ownBlock ∨ v'.ownBlock = some W.heap.size) :
    w1.heap[p]? = some (.cells #[.int .i64 st.lim, v, u, .int .i64 st.err] t (0, 0)) ∧
    ∃ S', Wr t (w1.setCell ⟨p, 1, none⟩ v') p S' { st with bs := st.bs ++ news } ∧ Kept S wr (w1.setCell ⟨p, 1, none⟩ v') ∧ (∀ i ∈ S', i ∈ S ∨ wr.heap.size ≤ i) := by
  have hk1 : Kept S wr w1 := by
    refine (hW.mono (T := S) (fun i hi => by simp at hi)).grown hgrow (fun k hk => Or.inl ?_)
    rw [hS, hk]; simp
  have hpne : ∀ k, v.ownBlock = some k → k ≠ p := own_ne hv hp h5
  have hW1 : Kept v.ownBlock.toList wr w1 := (hW.mono (T := v.ownBlock.toList) (fun i hi => by simp at hi)).grown hgrow (fun k hk => Or.inl (by rw [hk]; simp))
  have hp1 : w1.heap[p]? = some (.cells #[.int .i64 st.lim, v, u, .int .i64 st.err] t (0, 0)) := by
    rw [hW1.block p (block_lt hp) (fun hm => hpne p (by simpa using hm) rfl)]; exact hp
  have hu1 : w1.ownsRow 0 3 1 u st.os.length (st.os.map iv) := own_kept hu hW1 (fun k hk hm => own_apart hu hv (by decide) k hk (by simpa using hm))
  refine ⟨hp1, p :: (v'.ownBlock.toList ++ u.ownBlock.toList), ⟨_, u, by rw [heap_set _ hp1]; rfl, ?_, own_set hu1 hp1 h3, rfl⟩, hk1.setCell (Or.inl (by rw [hS]; simp)) _, ?_⟩
  · rw [← hm, List.map_append]
    exact own_set hown hp1 h5
  · intro i hi
    simp only [List.mem_append, List.mem_cons, Option.mem_toList] at hi
    rcases hi with rfl | hi | hi
    · left; rw [hS]; simp
    · rcases hat with q | q
      · left; rw [hS, ← q, hi]; simp
      · right; rw [hi] at q; cases q; exact hW.size
    · left; rw [hS, hi]; simp

theorem WS.room_bad {st : WS} (h : st.err ≠ 0) (n : Nat) : st.room n = st := by
  unfold WS.room WS.fail
  rw [if_neg h]
  split <;> rfl
theorem WS.fail_bad {st : WS} (h : st.err ≠ 0) (n : Nat) : st.fail n = st := by unfold WS.fail; rw [if_neg h]
theorem WS.fail_err {st : WS} {n : Nat} (hn : n ≠ 0) : (st.fail n).err ≠ 0 := by unfold WS.fail; simp only; split <;> assumption
theorem WS.raw_bad {st : WS} (h : st.err ≠ 0) (b : List UInt8) : st.raw b = st := by
  unfold WS.raw
  rw [WS.room_bad h, if_neg h]

/-- A text, as the chapter tells it. -/
def WS.text (st : WS) (s : ByteArray) : WS :=
  if st.err ≠ 0 then st else if 65535 < s.size then st.fail 13 else if Utf.good s = false then st.fail 12 else st.raw (le 2 s.size ++ s.data.toList)

/-- What a call leaves of a writer. -/
def Out (t : TypeId) (w : World) (p : Nat) (S : List Nat) (st : WS) (w' : World) : Prop := ∃ S', Hid (Wr t w' p S' st) ∧ Kept S w w' ∧ (∀ k ∈ S', k ∈ S ∨ w.heap.size ≤ k)
theorem Out.trans {t : TypeId} {w w1 w2 : World} {p : Nat} {S S1 : List Nat} {st : WS} (hk : Kept S w w1) (hs : ∀ k ∈ S1, k ∈ S ∨ w.heap.size ≤ k) (h : Out t w1 p S1 st w2) : Out t w p S st w2 := by
  obtain ⟨S2, h1, h2, h3⟩ := h
  exact ⟨S2, h1, hk.trans h2 hs, fun k hk2 => by rcases h3 k hk2 with q | q; exact hs k q; right; have := hk.size; omega⟩

namespace Wrt
open Go.Proofs.Ytpomachfnjgjbaa.Txt

theorem u16_any (w : World) (p : Nat) (S : List Nat) (st : WS) (x : Int) (n : Nat) (hx : x = n) (hn : n ≤ 65535) (ok : Hid st.Ok) (h : Hid (Wr 80 w p S st)) :
    Calls Try.prog 37 #[.pointer (some ⟨p, 0, none⟩), .int .u16 x] w fun e w' => e = .returned (.tuple #[]) ∧ Out 80 w p S (st.raw (le 2 n)) w' := by
  subst hx
  go_enter Try.func37, Try.ntmps37
  go_wp2_with fail
  refine (put16 _ p S st _ n rfl hn ok h).mono ?_
  rintro e w1 ⟨rfl, hw⟩
  go_wp2_with fail
  go_end0
  exact ⟨rfl, hw⟩
theorem u8_any (w : World) (p : Nat) (S : List Nat) (st : WS) (x : Int) (n : Nat) (hx : x = n) (hn : n ≤ 255) (ok : Hid st.Ok) (h : Hid (Wr 80 w p S st)) :
    Calls Try.prog 79 #[.pointer (some ⟨p, 0, none⟩), .int .u8 x] w fun e w' => e = .returned (.tuple #[]) ∧ Out 80 w p S (st.raw (le 1 n)) w' := by
  subst hx
  go_enter Try.func79, Try.ntmps79
  go_wp2_with fail
  refine (put8 _ p S st _ n rfl hn ok h).mono ?_
  rintro e w1 ⟨rfl, hw⟩
  go_wp2_with fail
  go_end0
  exact ⟨rfl, hw⟩

end Wrt
end Go.Proofs.Ytpomachfnjgjbaa
