/- A reader as the chapter tells it: what is left, its place, what went wrong and where; where it lies in memory; what right, failAt, Fail, next, At, Err, Left, End of it do. -/
import Derived.Test.YtfdbpbhihccgbaaWdn
namespace Go.Proofs.Ytfdbpbhihccgbaa
set_option linter.unusedVariables false
open Go.RowKit

/-- Bytes that can be read, a part of an array. -/
def Seg (w : World) (v : Value) (bs : List UInt8) (T : List Nat) : Prop :=
  (v = .slice none 0 0 ∧ bs = []) ∨ ∃ b o c, v = .slice (some ⟨b, o, none⟩) bs.length c ∧ bs.length ≤ c ∧ (0 < bs.length → b ∈ T) ∧ ∀ j u, (bs.map bv)[j]? = some u → w.cell? ⟨b, o + j, none⟩ = some u

theorem Seg.kept {w w' : World} {v : Value} {bs : List UInt8} {T S : List Nat} (h : Seg w v bs T) (hk : Kept S w w') (hd : ∀ k ∈ T, k ∉ S) : Seg w' v bs T := by
  rcases h with h | ⟨b, o, c, h1, h2, h3, h4⟩
  · exact Or.inl h
  · refine Or.inr ⟨b, o, c, h1, h2, h3, fun j u hu => ?_⟩
    have hc := h4 j u hu
    rw [← hc]
    exact World.cell?_of_block (hk.block _ (World.block_lt_of_cell? w _ hc) (hd b (h3 (pos_of hu))))
theorem Seg.src {w : World} {v : Value} {bs : List UInt8} {T : List Nat} (h : Seg w v bs T) : Src w v bs T := by
  rcases h with ⟨rfl, rfl⟩ | ⟨b, o, c, rfl, h2, h3, h4⟩
  · exact ⟨none, 0, rfl, fun _ => ⟨rfl, rfl⟩, fun ad e => by cases e⟩
  · refine ⟨_, _, rfl, (fun e => by cases e), fun ad e => ?_⟩
    cases e
    exact ⟨h3, fun j u hu => by rw [Addr.add_lit]; exact h4 j u hu⟩
theorem Seg.of_own {w : World} {v : Value} {bs : List UInt8} {base : Nat} (h : w.ownsRow base 5 1 v bs.length (bs.map bv)) : Seg w v bs v.ownBlock.toList := by
  have hc := fun g => h.cells (g := g)
  rcases h.2 with ⟨rfl, h0⟩ | ⟨g, cap, cur, rfl, _, _, hn, _⟩
  · exact Or.inl ⟨rfl, List.eq_nil_of_length_eq_zero h0⟩
  · refine Or.inr ⟨g, 0, cap, rfl, hn, (fun _ => by simp [Value.ownBlock]), fun j u hu => ?_⟩
    have := hc g rfl j u hu
    rwa [Addr.add_lit] at this
theorem Seg.empty (w : World) (T : List Nat) : Seg w (.slice none 0 0) [] T := Or.inl ⟨rfl, rfl⟩

/-- A reader. -/
structure RS where
  left : List UInt8
  pos : Nat
  err : Int
  bad : Nat

/-- A reader of the code lies at block r; its bytes lie in the blocks of T. -/
def Rd (w : World) (r : Nat) (T : List Nat) (st : RS) : Prop :=
  ∃ v, w.heap[r]? = some (.cells #[v, .int .i64 st.pos, .int .i64 st.err, .int .i64 st.bad] 86 (0, 0)) ∧ Seg w v st.left T ∧ r ∉ T

theorem Rd.lt {w : World} {r : Nat} {T : List Nat} {st : RS} (h : Rd w r T st) : r < w.heap.size := by obtain ⟨v, h1, _⟩ := h; exact block_lt h1
theorem Rd.kept {w w' : World} {r : Nat} {T S : List Nat} {st : RS} (h : Rd w r T st) (hk : Kept S w w') (hr : r ∉ S) (hd : ∀ k ∈ T, k ∉ S) : Rd w' r T st := by
  obtain ⟨v, h1, h2, h3⟩ := h
  exact ⟨v, by rw [hk.block r (block_lt h1) hr]; exact h1, h2.kept hk hd, h3⟩
theorem Rd.parts {w : World} {r : Nat} {T : List Nat} {st : RS} (h : Rd w r T st) : ∃ v, w.cell? ⟨r, 0, none⟩ = some v ∧ w.cell? ⟨r, 1, none⟩ = some (.int .i64 st.pos) ∧ w.cell? ⟨r, 2, none⟩ = some (.int .i64 st.err) ∧
    w.cell? ⟨r, 3, none⟩ = some (.int .i64 st.bad) ∧ (∀ i, w.frozen? ⟨r, i, none⟩ = false) ∧ Hid (Seg w v st.left T) ∧ Hid (w.heap[r]? = some (.cells #[v, .int .i64 st.pos, .int .i64 st.err, .int .i64 st.bad] 86 (0, 0))) ∧ Hid (r ∉ T) := by
  obtain ⟨v, h1, h2, h3⟩ := h
  obtain ⟨c0, c1, c2, c3, fz⟩ := four h1
  exact ⟨v, c0, c1, c2, c3, fz, h2, h1, h3⟩
theorem Seg.slice {w : World} {v : Value} {bs : List UInt8} {T : List Nat} (h : Seg w v bs T) : ∃ a c, v = .slice a bs.length c := by
  rcases h with ⟨rfl, rfl⟩ | ⟨b, o, c, rfl, _⟩
  · exact ⟨_, _, rfl⟩
  · exact ⟨_, _, rfl⟩

def RS.failAt (st : RS) (e : Int) (p : Nat) : RS := if st.err = 0 ∧ e ≠ 0 then { st with err := e, bad := p } else st
def RS.fail (st : RS) (e : Int) : RS := st.failAt e st.pos
/-- What going over n bytes does, and what it answers. -/
def RS.next (st : RS) (n : Nat) : RS := if st.left.length < n then st.fail 10 else if st.err ≠ 0 then st else { st with left := st.left.drop n, pos := st.pos + n }
def RS.got (st : RS) (n : Nat) : List UInt8 := if st.left.length < n then [] else if st.err ≠ 0 then [] else st.left.take n
structure RS.Ok (st : RS) : Prop where
  pos : st.pos + st.left.length ≤ 1152921504606846976
  e1 : -9223372036854775808 ≤ st.err
  e2 : st.err ≤ 9223372036854775807

/-- What is right behind its place stands, cut. -/
theorem Seg.take {w : World} {b o c n : Nat} {bs : List UInt8} {T : List Nat} (h : Seg w (.slice (some ⟨b, o, none⟩) bs.length c) bs T) (hn : n ≤ bs.length) : Seg w (.slice (some ⟨b, o, none⟩) n c) (bs.take n) T := by
  rcases h with ⟨h, _⟩ | ⟨b', o', c', h1, h2, h3, h4⟩
  · cases h
  · cases h1
    refine Or.inr ⟨b, o, c, by simp [Nat.min_eq_left hn], by simp; omega, (fun hp => h3 (Nat.lt_of_lt_of_le hp (by rw [List.length_take]; exact Nat.min_le_right _ _))), fun j u hu => h4 j u ?_⟩
    rw [List.map_take, List.getElem?_take] at hu
    split at hu
    · exact hu
    · cases hu
theorem Seg.drop {w : World} {b o c n : Nat} {bs : List UInt8} {T : List Nat} (h : Seg w (.slice (some ⟨b, o, none⟩) bs.length c) bs T) (hn : n ≤ bs.length) (a : Addr) (ha : a = ⟨b, o, none⟩ ∧ c = n ∨ a = ⟨b, o + n, none⟩) :
    Seg w (.slice (some a) (bs.length - n) (c - n)) (bs.drop n) T := by
  rcases h with ⟨h, _⟩ | ⟨b', o', c', h1, h2, h3, h4⟩
  · cases h
  · cases h1
    rcases ha with ⟨rfl, rfl⟩ | rfl
    · have e : bs.drop c = [] := List.drop_eq_nil_of_le h2
      refine Or.inr ⟨b, o, 0, by rw [e]; simp; omega, by rw [e]; simp, (fun hp => by rw [e] at hp; simp at hp), fun j u hu => by rw [e] at hu; simp at hu⟩
    · refine Or.inr ⟨b, o + n, c - n, by simp, by simp; omega, (fun hp => h3 (by rw [List.length_drop] at hp; omega)), fun j u hu => ?_⟩
      rw [List.map_drop, List.getElem?_drop] at hu
      rw [Nat.add_assoc]
      exact h4 (n + j) u hu

namespace Rdr
open Go.Proofs.Ytfdbpbhihccgbaa.Txt

theorem right_any (w : World) (r : Nat) (T : List Nat) (st : RS) (h : Hid (Rd w r T st)) :
    Calls Try.prog 70 #[.pointer (some ⟨r, 0, none⟩)] w fun e w' => e = .returned (.bool (st.err == 0)) ∧ w = w' := by
  obtain ⟨v, c0, c1, c2, c3, fz, -⟩ := h.out.parts
  go_enter Try.func70, Try.ntmps70
  go_wp2_with fail
  go_ret
  exact ⟨rfl, rfl⟩

theorem failAt_any (w : World) (r : Nat) (T : List Nat) (st : RS) (x y : Int) (p : Nat) (hy : y = p) (h : Hid (Rd w r T st)) :
    Calls Try.prog 69 #[.pointer (some ⟨r, 0, none⟩), .int .i64 x, .int .i64 y] w fun e w' => e = .returned (.tuple #[]) ∧ Hid (Rd w' r T (st.failAt x p)) ∧ Kept [r] w w' := by
  subst hy
  obtain ⟨v, c0, c1, c2, c3, fz, hs, hp, hr⟩ := h.out.parts
  by_cases he : st.err = 0
  · have E : (st.err == 0) = true := by rw [he]; rfl
    by_cases hx : x = 0
    · have e1 : st.failAt x p = st := by unfold RS.failAt; rw [if_neg (by omega)]
      rw [e1]
      subst hx
      clear e1 he
      go_enter Try.func69, Try.ntmps69
      go_wp2_with fail
      refine (right_any _ r T st h).mono ?_
      rintro e w1 ⟨rfl, rfl⟩
      go_wp2_with fail
      go_end0
      exact ⟨rfl, h, Kept.refl _ _⟩
    · have e1 : st.failAt x p = { st with err := x, bad := p } := by unfold RS.failAt; rw [if_pos ⟨he, hx⟩]
      rw [e1]
      have X : (x == 0) = false := by simpa using hx
      clear e1 he hx
      go_enter Try.func69, Try.ntmps69
      go_wp2_with fail
      refine (right_any _ r T st h).mono ?_
      rintro e w1 ⟨rfl, rfl⟩
      go_wp2_with fail
      go_end0
      have hk : Kept [r] w ((w.setCell ⟨r, 2, none⟩ (.int .i64 x)).setCell ⟨r, 3, none⟩ (.int .i64 p)) := ((Kept.refl _ _).setCell (Or.inl (by simp)) _).setCell (Or.inl (by simp)) _
      refine ⟨rfl, ⟨v, ?_, hs.out.kept hk (fun k hk2 hm => hr.out (by simp at hm; exact hm ▸ hk2)), hr.out⟩, hk⟩
      rw [heap_set _ (heap_set _ hp.out)]
      rfl
  · have E : (st.err == 0) = false := by simpa using he
    have e1 : st.failAt x p = st := by unfold RS.failAt; rw [if_neg (by omega)]
    rw [e1]
    clear e1 he
    go_enter Try.func69, Try.ntmps69
    go_wp2_with fail
    refine (right_any _ r T st h).mono ?_
    rintro e w1 ⟨rfl, rfl⟩
    go_wp2_with fail
    go_end0
    exact ⟨rfl, h, Kept.refl _ _⟩

theorem fail_any (w : World) (r : Nat) (T : List Nat) (st : RS) (x : Int) (h : Hid (Rd w r T st)) :
    Calls Try.prog 52 #[.pointer (some ⟨r, 0, none⟩), .int .i64 x] w fun e w' => e = .returned (.tuple #[]) ∧ Hid (Rd w' r T (st.fail x)) ∧ Kept [r] w w' := by
  obtain ⟨v, c0, c1, c2, c3, fz, -⟩ := h.out.parts
  go_enter Try.func52, Try.ntmps52
  go_wp2_with fail
  refine (failAt_any _ r T st x _ st.pos rfl h).mono ?_
  rintro e w1 ⟨rfl, h1, h2⟩
  go_wp2_with fail
  go_end0
  exact ⟨rfl, h1, h2⟩

theorem at_any (w : World) (r : Nat) (T : List Nat) (st : RS) (h : Hid (Rd w r T st)) :
    Calls Try.prog 35 #[.pointer (some ⟨r, 0, none⟩)] w fun e w' => e = .returned (.int .i64 st.pos) ∧ w = w' := by
  obtain ⟨v, c0, c1, c2, c3, fz, -⟩ := h.out.parts
  go_enter Try.func35, Try.ntmps35
  go_wp2_with fail
  go_ret
  exact ⟨rfl, rfl⟩

theorem err_any (w : World) (r : Nat) (T : List Nat) (st : RS) (h : Hid (Rd w r T st)) :
    Calls Try.prog 34 #[.pointer (some ⟨r, 0, none⟩)] w fun e w' => e = .returned (.tuple #[.int .i64 st.err, .int .i64 st.bad]) ∧ Kept [] w w' := by
  obtain ⟨v, c0, c1, c2, c3, fz, -⟩ := h.out.parts
  go_enter Try.func34, Try.ntmps34
  go_wp2_with fail
  go_quiet (fail)
  go_wp2_with fail
  go_ret2
  exact ⟨rfl, (Kept.refl _ _).drewN _⟩

def RS.remains (st : RS) : Nat := if st.err = 0 then st.left.length else 0
theorem left_any (w : World) (r : Nat) (T : List Nat) (st : RS) (h : Hid (Rd w r T st)) :
    Calls Try.prog 36 #[.pointer (some ⟨r, 0, none⟩)] w fun e w' => e = .returned (.int .i64 (if st.err = 0 then st.left.length else 0 : Nat)) ∧ w = w' := by
  obtain ⟨v, c0, c1, c2, c3, fz, hs, -⟩ := h.out.parts
  obtain ⟨a, c, rfl⟩ := hs.out.slice
  by_cases he : st.err = 0
  · have E : (st.err == 0) = true := by rw [he]; rfl
    rw [if_pos he]
    clear he
    go_enter Try.func36, Try.ntmps36
    go_wp2_with fail
    refine (right_any _ r T st h).mono ?_
    rintro e w1 ⟨rfl, rfl⟩
    go_wp2_with fail
    go_ret
    exact ⟨rfl, rfl⟩
  · have E : (st.err == 0) = false := by simpa using he
    rw [if_neg he]
    clear he
    go_enter Try.func36, Try.ntmps36
    go_wp2_with fail
    refine (right_any _ r T st h).mono ?_
    rintro e w1 ⟨rfl, rfl⟩
    go_wp2_with fail
    go_ret
    exact ⟨rfl, rfl⟩

/-- End. -/
def RS.end (st : RS) : RS := if 0 < st.left.length then st.fail 14 else st
theorem end_any (w : World) (r : Nat) (T : List Nat) (st : RS) (h : Hid (Rd w r T st)) :
    Calls Try.prog 50 #[.pointer (some ⟨r, 0, none⟩)] w fun e w' => e = .returned (.tuple #[]) ∧ Hid (Rd w' r T (RS.end st)) ∧ Kept [r] w w' := by
  obtain ⟨v, c0, c1, c2, c3, fz, hs, -⟩ := h.out.parts
  obtain ⟨a, c, rfl⟩ := hs.out.slice
  by_cases hl : 0 < st.left.length
  · have e1 : RS.end st = st.fail 14 := by unfold RS.end; rw [if_pos hl]
    have hl' : (0 : Int) < (st.left.length : Int) := by omega
    rw [e1]
    clear e1 hl
    go_enter Try.func50, Try.ntmps50
    go_wp2_with fail
    refine (fail_any _ r T st 14 h).mono ?_
    rintro e w1 ⟨rfl, h1, h2⟩
    go_wp2_with fail
    go_end0
    exact ⟨rfl, h1, h2⟩
  · have e1 : RS.end st = st := by unfold RS.end; rw [if_neg hl]
    have hl' : ¬ (0 : Int) < (st.left.length : Int) := by omega
    rw [e1]
    clear e1 hl
    go_enter Try.func50, Try.ntmps50
    go_wp2_with fail
    go_end0
    exact ⟨rfl, h, Kept.refl _ _⟩
end Rdr
end Go.Proofs.Ytfdbpbhihccgbaa
