/- A writer as the chapter tells it: its limit, its bytes, the places of its open parts, what went wrong; and where it lies in memory. Then what each call does to it. -/
import Derived.Test.YtfdbpbhihccgbaaKept
import Derived.Test.YtfdbpbhihccgbaaTxt
import Derived.Test.YtfdbpbhihccgbaaWid
import Derived.RegionTactic
import Derived.ChangeAlike
import Derived.Deep.RegionLaw
import Derived.Deep.AppendLies
import Derived.Lib.AppendStr
namespace Go.Proofs.Ytfdbpbhihccgbaa
set_option linter.unusedVariables false
open Go.RowKit

/-- A writer. -/
structure WS where
  lim : Nat
  bs : List UInt8
  os : List Nat
  err : Nat

def bv (b : UInt8) : Value := .int .u8 b.toNat
def iv (n : Nat) : Value := .int .i64 n

/-- A writer of the code lies at block p; S: its blocks (t: the struct's type). -/
def Wr (t : TypeId) (w : World) (p : Nat) (S : List Nat) (st : WS) : Prop :=
  ∃ v u, w.heap[p]? = some (.cells #[.int .i64 st.lim, v, u, .int .i64 st.err] t (0, 0)) ∧
    w.ownsRow 0 5 1 v st.bs.length (st.bs.map bv) ∧ w.ownsRow 0 3 1 u st.os.length (st.os.map iv) ∧ S = p :: (v.ownBlock.toList ++ u.ownBlock.toList)

theorem Wr.lt {t : TypeId} {w : World} {p : Nat} {S : List Nat} {st : WS} (h : Wr t w p S st) : ∀ k ∈ S, k < w.heap.size := by
  obtain ⟨v, u, h1, h2, h3, rfl⟩ := h
  intro k hk
  simp only [List.mem_cons, List.mem_append, Option.mem_toList] at hk
  rcases hk with rfl | hk | hk
  · exact block_lt h1
  · exact (h2.lt k hk).2
  · exact (h3.lt k hk).2

theorem own_kept {w w' : World} {T : List Nat} {e : TypeId} {v : Value} {n : Nat} {xs : List Value} (h : w.ownsRow 0 e 1 v n xs) (hk : Kept T w w') (hd : ∀ k, v.ownBlock = some k → k ∉ T) : w'.ownsRow 0 e 1 v n xs := by
  refine ⟨h.1, ?_⟩
  rcases h.2 with hn | ⟨g, cap, cur, rfl, hb, hgg, rest⟩
  · exact .inl hn
  · exact .inr ⟨g, cap, cur, rfl, hb, by rw [hk.block g (block_lt hgg) (hd g rfl)]; exact hgg, rest⟩

/-- What turns other blocks leaves a writer as it is. -/
theorem Wr.kept {t : TypeId} {w w' : World} {p : Nat} {S T : List Nat} {st : WS} (h : Wr t w p S st) (hk : Kept T w w') (hd : ∀ k ∈ S, k ∉ T) : Wr t w' p S st := by
  have hlt := h.lt
  obtain ⟨v, u, h1, h2, h3, rfl⟩ := h
  refine ⟨v, u, ?_, own_kept h2 hk (fun k e => hd k (by simp [e])), own_kept h3 hk (fun k e => hd k (by simp [e])), rfl⟩
  rw [hk.block p (block_lt h1) (hd p (by simp))]
  exact h1

/-- An owned row's block is none of another type. -/
theorem own_ne {w : World} {e t : TypeId} {v : Value} {n p : Nat} {xs : List Value} {cs : Array Value} (h : w.ownsRow 0 e 1 v n xs) (hp : w.heap[p]? = some (.cells cs t (0, 0))) (hne : e ≠ t) : ∀ k, v.ownBlock = some k → k ≠ p := by
  intro k hk he
  subst he
  rcases h.2 with ⟨rfl, _⟩ | ⟨g, cap, cur, rfl, hb, hgg, _⟩
  · simp [Value.ownBlock] at hk
  · simp [Value.ownBlock] at hk
    subst hk
    rw [hgg] at hp
    simp at hp
    exact hne hp.2

theorem own_set {w : World} {e t : TypeId} {v x : Value} {n p i : Nat} {xs : List Value} {cs : Array Value} (h : w.ownsRow 0 e 1 v n xs) (hp : w.heap[p]? = some (.cells cs t (0, 0))) (hne : e ≠ t) : (w.setCell ⟨p, i, none⟩ x).ownsRow 0 e 1 v n xs :=
  own_kept h (T := [p]) ((Kept.refl _ _).setCell (Or.inl (by simp)) _) (fun k hk hm => own_ne h hp hne k hk (by simpa using hm))

/-- What goes wrong first stays. -/
def WS.fail (st : WS) (n : Nat) : WS := { st with err := if st.err = 0 then n else st.err }
/-- Is there room for so many bytes? -/
def WS.room (st : WS) (n : Nat) : WS := if st.lim < n + st.bs.length then st.fail 11 else st
/-- These bytes, if there is room. -/
def WS.raw (st : WS) (b : List UInt8) : WS := if (st.room b.length).err = 0 then { st.room b.length with bs := st.bs ++ b } else st.room b.length
structure WS.Ok (st : WS) : Prop where
  lim : st.lim ≤ 16777216
  bs : st.bs.length ≤ st.lim
  os : 2 * st.os.length ≤ st.bs.length

theorem WS.Ok.fail {st : WS} (h : st.Ok) (n : Nat) : (st.fail n).Ok := ⟨h.lim, h.bs, h.os⟩
theorem WS.Ok.room {st : WS} (h : st.Ok) (n : Nat) : (st.room n).Ok := by
  unfold WS.room; split
  · exact h.fail 11
  · exact h
theorem WS.room_bs (st : WS) (n : Nat) : (st.room n).bs = st.bs := by unfold WS.room; split <;> rfl
theorem WS.room_os (st : WS) (n : Nat) : (st.room n).os = st.os := by unfold WS.room; split <;> rfl
theorem WS.room_lim (st : WS) (n : Nat) : (st.room n).lim = st.lim := by unfold WS.room; split <;> rfl
theorem WS.room_ok {st : WS} {n : Nat} (h : (st.room n).err = 0) : st.room n = st ∧ n + st.bs.length ≤ st.lim ∧ st.err = 0 := by
  by_cases k : st.lim < n + st.bs.length
  · unfold WS.room at h
    rw [if_pos k] at h
    unfold WS.fail at h
    simp only at h
    split at h
    · omega
    · exact absurd h ‹_›
  · have e : st.room n = st := by unfold WS.room; rw [if_neg k]
    rw [e] at h
    exact ⟨e, by omega, h⟩
theorem WS.Ok.raw {st : WS} (h : st.Ok) (b : List UInt8) : (st.raw b).Ok := by
  unfold WS.raw
  split
  · rename_i k
    obtain ⟨e, h1, h2⟩ := WS.room_ok k
    rw [e]
    exact ⟨h.lim, by simp; omega, by have := h.os; simp; omega⟩
  · exact h.room _

/-- A number's bytes, the lowest one first. -/
def le (k n : Nat) : List UInt8 := (List.range k).map fun i => UInt8.ofNat (n / 256 ^ i)
theorem le_succ (k n : Nat) : le (k + 1) n = le k n ++ [UInt8.ofNat (n / 256 ^ k)] := by simp [le, List.range_succ]
theorem le_length (k n : Nat) : (le k n).length = k := by simp [le]

theorem Wr.fail_store {t : TypeId} {w : World} {p : Nat} {S : List Nat} {st : WS} (h : Wr t w p S st) (h5 : 5 ≠ t) (h3 : 3 ≠ t) (n : Nat) :
    Wr t (w.setCell ⟨p, 3, none⟩ (.int .i64 n)) p S { st with err := n } ∧ Kept S w (w.setCell ⟨p, 3, none⟩ (.int .i64 n)) := by
  obtain ⟨v, u, h1, h2, h4, rfl⟩ := h
  exact ⟨⟨v, u, by rw [heap_set _ h1]; rfl, own_set h2 h1 h5, own_set h4 h1 h3, rfl⟩, (Kept.refl _ _).setCell (Or.inl (by simp)) _⟩
theorem Wr.parts {t : TypeId} {w : World} {p : Nat} {S : List Nat} {st : WS} (h : Wr t w p S st) : ∃ v u, w.cell? ⟨p, 0, none⟩ = some (.int .i64 st.lim) ∧ w.cell? ⟨p, 1, none⟩ = some v ∧ w.cell? ⟨p, 2, none⟩ = some u ∧
    w.cell? ⟨p, 3, none⟩ = some (.int .i64 st.err) ∧ (∀ i, w.frozen? ⟨p, i, none⟩ = false) ∧ Hid (w.ownsRow 0 5 1 v st.bs.length (st.bs.map bv)) ∧ Hid (w.ownsRow 0 3 1 u st.os.length (st.os.map iv)) ∧
    Hid (w.heap[p]? = some (.cells #[.int .i64 st.lim, v, u, .int .i64 st.err] t (0, 0))) ∧ Hid (S = p :: (v.ownBlock.toList ++ u.ownBlock.toList)) := by
  obtain ⟨v, u, h1, h2, h3, h4⟩ := h
  obtain ⟨c0, c1, c2, c3, fz⟩ := four h1
  exact ⟨v, u, c0, c1, c2, c3, fz, h2, h3, h1, h4⟩
/-- A row's value is a slice of its length. -/
theorem own_slice {w : World} {e : TypeId} {v : Value} {n : Nat} {xs : List Value} (h : w.ownsRow 0 e 1 v n xs) : ∃ a c, v = .slice a n c := by
  rcases h.2 with ⟨rfl, rfl⟩ | ⟨g, cap, cur, rfl, _⟩
  · exact ⟨_, _, rfl⟩
  · exact ⟨_, _, rfl⟩

theorem own_apart {w : World} {e t : TypeId} {v u : Value} {n m : Nat} {xs ys : List Value} (h : w.ownsRow 0 e 1 v n xs) (k : w.ownsRow 0 t 1 u m ys) (hne : e ≠ t) : ∀ i, v.ownBlock = some i → u.ownBlock ≠ some i := by
  intro i hi hu
  rcases k.2 with ⟨rfl, _⟩ | ⟨g, cap, cur, rfl, hb, hgg, _⟩
  · simp [Value.ownBlock] at hu
  · simp [Value.ownBlock] at hu
    subst hu
    exact own_ne h hgg hne g hi rfl

/-- Bytes were appended and the slice is stored back. -/
theorem Wr.pushed {t : TypeId} {wr W w1 : World} {p : Nat} {S : List Nat} {st : WS} {v u : Value} {g m cap : Nat} {news : List UInt8} (h5 : 5 ≠ t) (h3 : 3 ≠ t)
    (hp : wr.heap[p]? = some (.cells #[.int .i64 st.lim, v, u, .int .i64 st.err] t (0, 0))) (hv : wr.ownsRow 0 5 1 v st.bs.length (st.bs.map bv)) (hu : wr.ownsRow 0 3 1 u st.os.length (st.os.map iv))
    (hS : S = p :: (v.ownBlock.toList ++ u.ownBlock.toList)) (hW : Kept [] wr W) (hgrow : W.grownBy w1 v.ownBlock)
    (hown : w1.ownsRow 0 5 1 (.slice (some ⟨g, 0, none⟩) m cap) m (st.bs.map bv ++ news.map bv)) (hm : m = (st.bs ++ news).length) (hat : v.ownBlock = some g ∨ g = W.heap.size) :
    w1.heap[p]? = some (.cells #[.int .i64 st.lim, v, u, .int .i64 st.err] t (0, 0)) ∧
    ∃ S', Wr t (w1.setCell ⟨p, 1, none⟩ (.slice (some ⟨g, 0, none⟩) m cap)) p S' { st with bs := st.bs ++ news } ∧ Kept S wr (w1.setCell ⟨p, 1, none⟩ (.slice (some ⟨g, 0, none⟩) m cap)) ∧ (∀ i ∈ S', i ∈ S ∨ wr.heap.size ≤ i) := by
  have hk1 : Kept S wr w1 := by
    refine (hW.mono (T := S) (fun i hi => by simp at hi)).grown hgrow (fun k hk => Or.inl ?_)
    rw [hS, hk]; simp
  have hpne : ∀ k, v.ownBlock = some k → k ≠ p := own_ne hv hp h5
  have hW1 : Kept v.ownBlock.toList wr w1 := (hW.mono (T := v.ownBlock.toList) (fun i hi => by simp at hi)).grown hgrow (fun k hk => Or.inl (by rw [hk]; simp))
  have hp1 : w1.heap[p]? = some (.cells #[.int .i64 st.lim, v, u, .int .i64 st.err] t (0, 0)) := by
    rw [hW1.block p (block_lt hp) (fun hm => hpne p (by simpa using hm) rfl)]; exact hp
  have hu1 : w1.ownsRow 0 3 1 u st.os.length (st.os.map iv) := own_kept hu hW1 (fun k hk hm => own_apart hu hv (by decide) k hk (by simpa using hm))
  refine ⟨hp1, p :: (some g).toList ++ u.ownBlock.toList, ⟨_, u, by rw [heap_set _ hp1]; rfl, ?_, own_set hu1 hp1 h3, by simp [Value.ownBlock]⟩, hk1.setCell (Or.inl (by rw [hS]; simp)) _, ?_⟩
  · rw [← hm, List.map_append]
    exact own_set hown hp1 h5
  · intro i hi
    simp only [List.mem_append, List.mem_cons, Option.mem_toList, Option.some.injEq] at hi
    rcases hi with (rfl | hi) | hi
    · left; rw [hS]; simp
    · subst hi
      rcases hat with q | q
      · left; rw [hS, q]; simp
      · right; rw [q]; exact hW.size
    · left; rw [hS, hi]; simp

namespace Wrt
open Go.Proofs.Ytfdbpbhihccgbaa.Txt

/-- right. -/
theorem right_any (w : World) (p : Nat) (S : List Nat) (st : WS) (h : Hid (Wr 77 w p S st)) :
    Calls Try.prog 63 #[.pointer (some ⟨p, 0, none⟩)] w fun e w' => e = .returned (.bool ((st.err : Int) == 0)) ∧ w = w' := by
  obtain ⟨v, u, c0, c1, c2, c3, fz, -⟩ := h.out.parts
  go_enter Try.func63, Try.ntmps63
  go_wp2
  go_ret
  exact ⟨rfl, rfl⟩

/-- fail. -/
theorem fail_any (w : World) (p : Nat) (S : List Nat) (st : WS) (x : Int) (n : Nat) (hx : x = n) (h : Hid (Wr 77 w p S st)) :
    Calls Try.prog 61 #[.pointer (some ⟨p, 0, none⟩), .int .i64 x] w fun e w' => e = .returned (.tuple #[]) ∧ Hid (Wr 77 w' p S (st.fail n)) ∧ Kept S w w' := by
  subst hx
  have hs := Lib.hid (h.out.fail_store (by decide) (by decide) n)
  obtain ⟨v, u, c0, c1, c2, c3, fz, -⟩ := h.out.parts
  by_cases he : st.err = 0
  · have e1 : st.fail n = { st with err := n } := by unfold WS.fail; rw [if_pos he]
    rw [e1]
    have E : ((st.err : Int) == 0) = true := by rw [he]; rfl
    clear he e1
    go_enter Try.func61, Try.ntmps61
    go_wp2_with (go_at_call 63; refine (right_any _ p _ st h).mono ?_; rintro e w' ⟨rfl, rfl⟩)
    go_end0
    exact ⟨rfl, hs.out⟩
  · have e1 : st.fail n = st := by unfold WS.fail; rw [if_neg he]
    rw [e1]
    have E : ((st.err : Int) == 0) = false := by simp; omega
    clear he e1
    go_enter Try.func61, Try.ntmps61
    go_wp2_with (go_at_call 63; refine (right_any _ p _ st h).mono ?_; rintro e w' ⟨rfl, rfl⟩)
    go_end0
    exact ⟨rfl, h, Kept.refl _ _⟩

theorem wr_drewN {t : TypeId} {w : World} {p : Nat} {S : List Nat} {st : WS} (h : Hid (Wr t w p S st)) (n : Nat) : Hid (Wr t (w.drewN n) p S st) := h

/-- room. -/
theorem room_any (w : World) (p : Nat) (S : List Nat) (st : WS) (n : Int) (m : Nat) (hn : n = m) (hm : m ≤ 1152921504606846976) (ok : Hid st.Ok) (h : Hid (Wr 77 w p S st)) :
    Calls Try.prog 59 #[.pointer (some ⟨p, 0, none⟩), .int .i64 n] w fun e w' => e = .returned (.bool (((st.room m).err : Int) == 0)) ∧ Hid (Wr 77 w' p S (st.room m)) ∧ Kept S w w' := by
  subst hn
  obtain ⟨v, u, c0, c1, c2, c3, fz, hv, -⟩ := h.out.parts
  obtain ⟨a, c, rfl⟩ := own_slice hv.out
  have k1 := ok.out.lim
  have k2 := ok.out.bs
  by_cases hr : st.lim < m + st.bs.length
  · have e1 : st.room m = st.fail 11 := by unfold WS.room; rw [if_pos hr]
    rw [e1]
    have hr' : (st.lim : Int) - (st.bs.length : Int) < (m : Int) := by omega
    clear e1 hr
    go_enter Try.func59, Try.ntmps59
    go_wp2_with fail
    go_quiet (fail)
    go_wp2_with fail
    refine (fail_any _ p _ st _ 11 rfl (wr_drewN h nq)).mono ?_
    rintro e w1 ⟨rfl, hw, hk⟩
    have hk' := ((Kept.refl S w).drewN nq).trans hk (fun i hi => Or.inl hi)
    clear hk
    go_wp2_with fail
    refine (right_any _ p _ _ hw).mono ?_
    rintro e w2 ⟨rfl, rfl⟩
    go_wp2_with fail
    go_ret
    exact ⟨rfl, hw, hk'⟩
  · have e1 : st.room m = st := by unfold WS.room; rw [if_neg hr]
    rw [e1]
    have hr' : (m : Int) ≤ (st.lim : Int) - (st.bs.length : Int) := by omega
    clear e1 hr
    go_enter Try.func59, Try.ntmps59
    go_wp2_with fail
    go_quiet (fail)
    go_wp2_with fail
    refine (right_any _ p _ _ (wr_drewN h nq)).mono ?_
    rintro e w2 ⟨rfl, rfl⟩
    go_wp2_with fail
    go_ret
    exact ⟨rfl, h, (Kept.refl S w).drewN nq⟩

theorem info5 : (Try.prog.info? 5).map (fun i => (i.zero, i.size, i.bytes)) = some (some (.int .u8 0), 1, 1) := by kernel_rfl
theorem info3 : (Try.prog.info? 3).map (fun i => (i.zero, i.size, i.bytes)) = some (some (.int .i64 0), 1, 8) := by kernel_rfl

end Wrt
end Go.Proofs.Ytfdbpbhihccgbaa
