/- The reference's reader: Part. -/
import Derived.Test.YtfdbpbhihccgbaaRop
import Derived.Deep.Onto
import Derived.IntWalk
import Derived.Deep.QuietTactic
import Derived.BigQuiet
import Derived.Test.YtfdbpbhihccgbaaRg4
import Derived.Test.YtfdbpbhihccgbaaZLaw
import Derived.Test.YtfdbpbhihccgbaaZByt
import Derived.Test.YtfdbpbhihccgbaaVnm
import Derived.Deep.RegionLaw
import Derived.Deep.Cut
import Derived.Deep.CutBlock
import Derived.Deep.CutRange

section
namespace Go.Proofs.Ytfdbpbhihccgbaa
set_option linter.unusedVariables false
open Go.RowKit

/-- Raw: n bytes are read; a number below 0 is none. -/
def RS.rawed (st : RS) (x : Int) : RS := if x < 0 then st.fail 1 else st.next x.toNat
def RS.raws (st : RS) (x : Int) : List UInt8 := if x < 0 then [] else st.got x.toNat
/-- What Raw answers: bytes of its own. -/
def RawOut (w : World) (r : Nat) (T : List Nat) (st : RS) (x : Int) (e : Ending) (w' : World) : Prop :=
  ∃ v, e = .returned v ∧ Hid (Wrt.Own w' w.heap.size v (st.raws x)) ∧ Hid (Rd w' r T (st.rawed x)) ∧ Kept [r] w w'
theorem RS.got_left (st : RS) (n : Nat) : (st.got n).length ≤ st.left.length := by
  unfold RS.got
  repeat' split
  · simp
  · simp
  · simp; omega


namespace Rdr
open Go.Proofs.Ytfdbpbhihccgbaa.Txt

theorem raw_any (w : World) (r : Nat) (T : List Nat) (st : RS) (x : Int) (hl : st.left.length ≤ 1152921504606) (ok : Hid st.Ok) (h : Hid (Rd w r T st)) :
    Calls Try.prog 46 #[.pointer (some ⟨r, 0, none⟩), .int .i64 x] w (RawOut w r T st x) := by
  by_cases hx : x < 0
  · have e1 : st.rawed x = st.fail 1 := by unfold RS.rawed; rw [if_pos hx]
    have e2 : st.raws x = [] := by unfold RS.raws; rw [if_pos hx]
    have E1 := Lib.hid e1
    have E2 := Lib.hid e2
    clear e1 e2
    go_enter Try.func46, Try.ntmps46
    go_wp2_with fail
    refine (fail_any _ r T st 1 h).mono ?_
    rintro e w1 ⟨rfl, h1, k1⟩
    go_wp2_with fail
    go_ret
    refine ⟨_, rfl, ?_, by rw [E1.out]; exact h1, k1⟩
    rw [E2.out]
    exact World.ownsRow_nil _ _ _ _
  · obtain ⟨n, hn⟩ : ∃ n : Nat, x = (n : Int) := ⟨x.toNat, by omega⟩
    subst hn
    have e1 : st.rawed n = st.next n := by unfold RS.rawed; rw [if_neg hx]; rfl
    have e2 : st.raws n = st.got n := by unfold RS.raws; rw [if_neg hx]; rfl
    have hgl := RS.got_left st n
    have E1 := Lib.hid e1
    have E2 := Lib.hid e2
    clear e1 e2
    go_enter Try.func46, Try.ntmps46
    go_wp2_with fail
    refine (next_any _ r T st _ n rfl ok h).mono ?_
    rintro e w1 ⟨v, rfl, hv, h1, k1⟩
    have hs : Hid (Src w1 v (st.got n) T) := hv.out.src
    go_wp2_with fail
    refine (Wrt.clone_any _ v (st.got n) T (by omega) hs).mono ?_
    rintro e w2 ⟨v2, rfl, hv2, k2⟩
    go_wp2_with fail
    go_ret
    refine ⟨_, rfl, ?_, ?_, k1.trans k2 (fun i hi => by simp at hi)⟩
    · rw [E2.out]
      exact World.ownsRow.mono hv2.out k1.size
    · rw [E1.out]
      exact h1.out.kept k2 (by simp) (fun k _ hm => by simp at hm)
end Rdr
end Go.Proofs.Ytfdbpbhihccgbaa
end

section
namespace Go.Proofs.Ytfdbpbhihccgbaa
set_option linter.unusedVariables false
open Go.RowKit

/-- The cells of a block of five. -/
theorem five {w : World} {p : Nat} {a b c d e : Value} {t : TypeId} (h : w.heap[p]? = some (.cells #[a, b, c, d, e] t (0, 0))) :
    w.cell? ⟨p, 0, none⟩ = some a ∧ w.cell? ⟨p, 1, none⟩ = some b ∧ w.cell? ⟨p, 2, none⟩ = some c ∧ w.cell? ⟨p, 3, none⟩ = some d ∧ w.cell? ⟨p, 4, none⟩ = some e ∧ (∀ i, w.frozen? ⟨p, i, none⟩ = false) := by
  refine ⟨?_, ?_, ?_, ?_, ?_, fun i => ?_⟩
  · rw [cell_of_row w p 0 _ t (0, 0) h]; rfl
  · rw [cell_of_row w p 1 _ t (0, 0) h]; rfl
  · rw [cell_of_row w p 2 _ t (0, 0) h]; rfl
  · rw [cell_of_row w p 3 _ t (0, 0) h]; rfl
  · rw [cell_of_row w p 4 _ t (0, 0) h]; rfl
  · simp [World.frozen?, h]

/-- A reader of the reference lies at block r: its bytes, how many were read, its beginning's place. -/
structure Vx (w : World) (r : Nat) (T : List Nat) (st : RS) (v : Value) (all : List UInt8) (P B : Nat) : Prop where
  at' : w.heap[r]? = some (.cells #[v, .int .i64 P, .int .i64 B, .int .i64 st.err, .int .i64 st.bad] 88 (0, 0))
  seg : Seg w v all T
  out : r ∉ T
  left : st.left = all.drop P
  le : P ≤ all.length
  pos : st.pos = B + P
def Vd (w : World) (r : Nat) (T : List Nat) (st : RS) : Prop := ∃ v all P B, Vx w r T st v all P B
theorem Vx.kept {w w' : World} {r : Nat} {T S : List Nat} {st : RS} {v : Value} {all : List UInt8} {P B : Nat} (h : Vx w r T st v all P B) (hk : Kept S w w') (hr : r ∉ S) (hd : ∀ k ∈ T, k ∉ S) : Vx w' r T st v all P B :=
  ⟨by rw [hk.block r (block_lt h.at') hr]; exact h.at', h.seg.kept hk hd, h.out, h.left, h.le, h.pos⟩
theorem Vd.kept {w w' : World} {r : Nat} {T S : List Nat} {st : RS} (h : Vd w r T st) (hk : Kept S w w') (hr : r ∉ S) (hd : ∀ k ∈ T, k ∉ S) : Vd w' r T st := by
  obtain ⟨v, all, P, B, x⟩ := h
  exact ⟨v, all, P, B, x.kept hk hr hd⟩
theorem Vd.lt {w : World} {r : Nat} {T : List Nat} {st : RS} (h : Vd w r T st) : r < w.heap.size := by obtain ⟨v, all, P, B, x⟩ := h; exact block_lt x.at'
theorem Vx.len {w : World} {r : Nat} {T : List Nat} {st : RS} {v : Value} {all : List UInt8} {P B : Nat} (h : Vx w r T st v all P B) : P + st.left.length = all.length := by
  have := h.le
  rw [h.left, List.length_drop]
  omega

namespace Vrd
open Go.Proofs.Ytfdbpbhihccgbaa.Txt

set_option maxHeartbeats 400000 in
theorem wrong_any (w : World) (r : Nat) (T : List Nat) (st : RS) (x y : Int) (k : Nat) (hy : y = k) (hb : st.pos + k ≤ 1152921504606846976) (h : Hid (Vd w r T st)) :
    Calls Try.prog 81 #[.pointer (some ⟨r, 0, none⟩), .int .i64 x, .int .i64 y] w fun e w' => e = .returned (.tuple #[]) ∧ Hid (Vd w' r T { st with err := x, bad := st.pos + k }) ∧ Kept [r] w w' := by
  subst hy
  obtain ⟨v, all, P, B, X⟩ := h.out
  have HX := Lib.hid X
  have h1 := X.at'
  have hp := X.pos
  rw [hp] at hb
  have HP := Lib.hid hp
  obtain ⟨c0, c1, c2, c3, c4, fz⟩ := five h1
  have f3 := fz 3
  have f4 := fz 4
  have s1 : IntKind.i64.wrap ((B : Int) + (P : Int)) = (B : Int) + (P : Int) := IntWalk.i64_in _ (by omega)
  have s2 : IntKind.i64.wrap ((B : Int) + (P : Int) + (k : Int)) = (B : Int) + (P : Int) + (k : Int) := IntWalk.i64_in _ (by omega)
  clear X h1 hp fz
  go_enter Try.func81, Try.ntmps81
  go_wp2_with fail
  go_region
  all_goals
    go_wp2_with fail
    go_end0
  all_goals
    have e1 : (B : Int) + (P : Int) + (k : Int) = ((st.pos + k : Nat) : Int) := by rw [HP.out]; omega
    rw [e1]
    have hk : Kept [r] w ((w.setCell ⟨r, 3, none⟩ (.int .i64 x)).setCell ⟨r, 4, none⟩ (.int .i64 ((st.pos + k : Nat) : Int))).drew := (((Kept.refl _ _).setCell (Or.inl (by simp)) _).setCell (Or.inl (by simp)) _).drew
    obtain ⟨x1, x2, x3, x4, x5, x6⟩ := HX.out
    refine ⟨rfl, ⟨v, all, P, B, ?_, x2.kept hk (fun k hk2 hm => x3 (by simp at hm; exact hm ▸ hk2)), x3, x4, x5, x6⟩, hk⟩
    have e2 := heap_set (i := 4) (.int .i64 ((st.pos + k : Nat) : Int)) (heap_set (i := 3) (.int .i64 x) x1)
    exact e2

/-- The reader is wrong by e, here. -/
theorem fail_eq {st : RS} {e : Int} (h : st.err = 0) (he : e ≠ 0) : ({ st with err := e, bad := st.pos + 0 } : RS) = st.fail e := by
  unfold RS.fail RS.failAt
  rw [if_pos ⟨h, he⟩]
  rfl

theorem err_any (w : World) (r : Nat) (T : List Nat) (st : RS) (h : Hid (Vd w r T st)) :
    Calls Try.prog 57 #[.pointer (some ⟨r, 0, none⟩)] w fun e w' => e = .returned (.tuple #[.int .i64 st.err, .int .i64 st.bad]) ∧ Kept [] w w' := by
  obtain ⟨v, all, P, B, X⟩ := h.out
  obtain ⟨c0, c1, c2, c3, c4, fz⟩ := five X.at'
  clear X
  go_enter Try.func57, Try.ntmps57
  go_wp2_with fail
  go_quiet (fail)
  go_wp2_with fail
  go_ret2
  exact ⟨rfl, (Kept.refl _ _).drewN _⟩

theorem at_any (w : World) (r : Nat) (T : List Nat) (st : RS) (hb : st.pos ≤ 1152921504606846976) (h : Hid (Vd w r T st)) :
    Calls Try.prog 55 #[.pointer (some ⟨r, 0, none⟩)] w fun e w' => e = .returned (.int .i64 st.pos) ∧ ∃ n, w' = w.drewN n := by
  obtain ⟨v, all, P, B, X⟩ := h.out
  have hp := X.pos
  rw [hp] at hb
  have HP := Lib.hid hp
  obtain ⟨c0, c1, c2, c3, c4, fz⟩ := five X.at'
  have s1 : IntKind.i64.wrap ((B : Int) + (P : Int)) = (B : Int) + (P : Int) := IntWalk.i64_in _ (by omega)
  clear X hp
  go_enter Try.func55, Try.ntmps55
  go_wp2_with fail
  go_quiet (fail)
  go_wp2_with fail
  go_ret
  exact ⟨ret_int (by rw [HP.out]; omega), _, rfl⟩

theorem left_any (w : World) (r : Nat) (T : List Nat) (st : RS) (hb : st.pos + st.left.length ≤ 1152921504606846976) (h : Hid (Vd w r T st)) :
    Calls Try.prog 54 #[.pointer (some ⟨r, 0, none⟩)] w fun e w' => e = .returned (.int .i64 (if st.err = 0 then st.left.length else 0 : Nat)) ∧ ∃ n, w' = w.drewN n := by
  obtain ⟨v, all, P, B, X⟩ := h.out
  have hl := X.len
  have hp := X.pos
  obtain ⟨a, c, rfl⟩ := X.seg.slice
  obtain ⟨c0, c1, c2, c3, c4, fz⟩ := five X.at'
  have s1 : IntKind.i64.wrap ((all.length : Int) - (P : Int)) = (all.length : Int) - (P : Int) := IntWalk.i64_in _ (by omega)
  have HL := Lib.hid hl
  clear X hp hl
  by_cases he : st.err = 0
  · have E : (st.err == 0) = true := by rw [he]; rfl
    have E2 : (st.err != 0) = false := by rw [he]; rfl
    rw [if_pos he]
    clear he
    go_enter Try.func54, Try.ntmps54
    go_wp2_with fail
    go_quiet (fail)
    go_wp2_with fail
    go_ret
    exact ⟨ret_int (by have := HL.out; omega), _, rfl⟩
  · have E : (st.err == 0) = false := by simpa using he
    have E2 : (st.err != 0) = true := by simpa using he
    rw [if_neg he]
    clear he
    go_enter Try.func54, Try.ntmps54
    go_wp2_with fail
    go_ret
    exact ⟨rfl, 0, rfl⟩

theorem fail_any (w : World) (r : Nat) (T : List Nat) (st : RS) (x : Int) (hb : st.pos ≤ 1152921504606846976) (h : Hid (Vd w r T st)) :
    Calls Try.prog 53 #[.pointer (some ⟨r, 0, none⟩), .int .i64 x] w fun e w' => e = .returned (.tuple #[]) ∧ Hid (Vd w' r T (st.fail x)) ∧ Kept [r] w w' := by
  obtain ⟨v, all, P, B, X⟩ := h.out
  obtain ⟨c0, c1, c2, c3, c4, fz⟩ := five X.at'
  clear X
  by_cases he : st.err = 0
  · by_cases hx : x = 0
    · have e1 : st.fail x = st := by unfold RS.fail RS.failAt; rw [if_neg (by omega)]
      rw [e1]
      subst hx
      have E : (st.err == 0) = true := by rw [he]; rfl
      clear e1 he
      go_enter Try.func53, Try.ntmps53
      go_wp2_with fail
      go_end0
      exact ⟨rfl, h, Kept.refl _ _⟩
    · have FE := Lib.hid (fail_eq he hx)
      have WR := Lib.hid (wrong_any w r T st x 0 0 rfl (by omega) h)
      rw [FE.out] at WR
      have E : (st.err == 0) = true := by rw [he]; rfl
      have X : (x != 0) = true := by simpa using hx
      clear he hx FE
      go_enter Try.func53, Try.ntmps53
      go_wp2_with fail
      refine WR.out.mono ?_
      rintro e w1 ⟨rfl, h1, k1⟩
      go_wp2_with fail
      go_end0
      exact ⟨rfl, h1, k1⟩
  · have e1 : st.fail x = st := by unfold RS.fail RS.failAt; rw [if_neg (by omega)]
    rw [e1]
    have E : (st.err == 0) = false := by simpa using he
    clear e1 he
    go_enter Try.func53, Try.ntmps53
    go_wp2_with fail
    go_end0
    exact ⟨rfl, h, Kept.refl _ _⟩

theorem end_any (w : World) (r : Nat) (T : List Nat) (st : RS) (hb : st.pos + st.left.length ≤ 1152921504606846976) (h : Hid (Vd w r T st)) :
    Calls Try.prog 51 #[.pointer (some ⟨r, 0, none⟩)] w fun e w' => e = .returned (.tuple #[]) ∧ Hid (Vd w' r T (Rdr.RS.end st)) ∧ Kept [r] w w' := by
  obtain ⟨v, all, P, B, X⟩ := h.out
  have hl := X.len
  obtain ⟨a, c, rfl⟩ := X.seg.slice
  obtain ⟨c0, c1, c2, c3, c4, fz⟩ := five X.at'
  clear X
  by_cases he : st.err = 0
  · have E : (st.err == 0) = true := by rw [he]; rfl
    by_cases hx : 0 < st.left.length
    · have e1 : Rdr.RS.end st = st.fail 14 := by unfold Rdr.RS.end; rw [if_pos hx]
      have FE := Lib.hid (fail_eq (e := 14) he (by decide))
      have WR := Lib.hid (fun m => wrong_any (w.drewN m) r T st 14 0 0 rfl (by omega) (h.out.kept ((Kept.refl [] w).drewN m) (by simp) (fun _ _ hm => by cases hm)))
      rw [FE.out, ← e1] at WR
      have lt : (P : Int) < (all.length : Int) := by omega
      clear he hx FE e1 hl
      go_enter Try.func51, Try.ntmps51
      go_wp2_with fail
      go_quiet (fail)
      go_wp2_with fail
      refine (WR.out _).mono ?_
      rintro e w1 ⟨rfl, h1, k1⟩
      go_wp2_with fail
      go_end0
      exact ⟨rfl, h1, ((Kept.refl [r] w).drewN _).trans k1 (fun i hi => Or.inl hi)⟩
    · have e1 : Rdr.RS.end st = st := by unfold Rdr.RS.end; rw [if_neg hx]
      rw [e1]
      have lt : ¬ (P : Int) < (all.length : Int) := by omega
      clear he hx e1 hl
      go_enter Try.func51, Try.ntmps51
      go_wp2_with fail
      go_quiet (fail)
      go_wp2_with fail
      go_end0
      exact ⟨rfl, h.out.kept ((Kept.refl [] w).drewN _) (by simp) (fun _ _ hm => by cases hm), (Kept.refl [r] w).drewN _⟩
  · have e1 : Rdr.RS.end st = st := by
      unfold Rdr.RS.end RS.fail RS.failAt
      split
      · rw [if_neg (by omega)]
      · rfl
    rw [e1]
    have E : (st.err == 0) = false := by simpa using he
    clear e1 he hl
    go_enter Try.func51, Try.ntmps51
    go_wp2_with fail
    go_quiet (fail)
    go_wp2_with fail
    go_end0
    exact ⟨rfl, h.out.kept ((Kept.refl [] w).drewN _) (by simp) (fun _ _ hm => by cases hm), (Kept.refl [r] w).drewN _⟩
end Vrd
end Go.Proofs.Ytfdbpbhihccgbaa
end

section
namespace Go.Proofs.Ytfdbpbhihccgbaa
set_option linter.unusedVariables false
open Go.RowKit

theorem Src.news {w : World} {v : Value} {bs : List UInt8} {T : List Nat} (h : Src w v bs T) : Zb.RowSrc w v bs.length (bs.map bv) := by
  obtain ⟨a, c, rfl, h0, h1⟩ := h
  cases a with
  | none => obtain ⟨rfl, rfl⟩ := h0 rfl; exact Or.inl ⟨rfl, rfl, rfl⟩
  | some ad => exact Or.inr ⟨ad, c, rfl, (h1 ad rfl).2⟩
/-- A part of what can be read. -/
theorem Seg.part {w : World} {b o c : Nat} {all : List UInt8} {T : List Nat} (h : Seg w (.slice (some ⟨b, o, none⟩) all.length c) all T) (lo n : Nat) (hn : lo + n ≤ all.length) (c' : Nat) :
    Zb.RowSrc w (.slice (some ⟨b, o + lo, none⟩) n c') n (((all.drop lo).take n).map bv) := by
  rcases h with ⟨h, _⟩ | ⟨b', o', c2, h1, h2, h3, h4⟩
  · cases h
  · cases h1
    refine Or.inr ⟨_, _, rfl, fun j u hu => ?_⟩
    rw [Addr.add_lit]
    simp only [List.map_take, List.map_drop] at hu
    rw [List.getElem?_take] at hu
    split at hu
    · rw [List.getElem?_drop] at hu
      have := h4 (lo + j) u hu
      rw [← Nat.add_assoc] at this
      exact this
    · cases hu
theorem none_src (w : World) (a : Option Addr) (c : Nat) (h : a = none → c = 0) : Zb.RowSrc w (.slice a 0 c) 0 [] := by
  cases a with
  | none => obtain rfl := h rfl; exact Or.inl ⟨rfl, rfl, rfl⟩
  | some ad => exact Or.inr ⟨ad, c, rfl, fun j u hu => by simp at hu⟩

namespace Vrd
open Go.Proofs.Ytfdbpbhihccgbaa.Txt

set_option maxHeartbeats 1000000 in
set_option maxRecDepth 100000 in
theorem new_any (w : World) (a : Option Addr) (c : Nat) (bs : List UInt8) (T : List Nat) (hsz : bs.length ≤ 1152921504) (hb : Hid (Src w (.slice a bs.length c) bs T)) :
    Calls Try.prog 20 #[.slice a bs.length c] w fun e w' => ∃ q U, e = .returned (.pointer (some ⟨q, 0, none⟩)) ∧ Hid (Vd w' q U ⟨bs, 0, 0, 0⟩) ∧ (∀ k ∈ q :: U, w.heap.size ≤ k ∧ k < w'.heap.size) ∧ Kept [] w w' := by
  obtain ⟨i0, hi, hz0, hz1, hz2⟩ := info_parts Wrt.info5
  have SRC := Lib.hid hb.out.news
  have NL : Hid ((bs.map bv).length = bs.length * 1) := by show _ = _; simp
  have ONE : Hid (∀ u ∈ bs.map bv, u.oneCell' = true) := fun u hu => by obtain ⟨x, _, rfl⟩ := List.mem_map.1 hu; rfl
  obtain ⟨n, hn⟩ : ∃ n, n = bs.length := ⟨_, rfl⟩
  rw [← hn] at SRC hsz NL ⊢
  have HN := Lib.hid hn
  obtain ⟨news, hnw⟩ : ∃ n, n = bs.map bv := ⟨_, rfl⟩
  rw [← hnw] at SRC NL ONE
  have HW := Lib.hid hnw
  clear hn hnw
  go_enter Try.func20, Try.ntmps20
  go_upto_region 2 with (fail)
  iterate 7 (first | go_values | go_skip | go_guarded | go_step | go_upon | go_back)
  (at_builtin; refine Zb.wpList_append_src w rfl (.tmp 4) (.tmp 5) 37 rfl w.heap.size 5 i0 (.int .u8 0) 1 1 Try.underlying37 hi hz0 hz1 hz2 rfl (by decide) (.slice none 0 0) 0 [] rfl (World.ownsRow_nil _ _ _ _) (.slice a n c) n news rfl SRC.out NL.out ONE.out (by unfold maxLen; omega) (by omega) (Nat.le_refl _) ?_; intro v4 w4 hown4 hgrow4 hat4; have O4 := Lib.hid hown4; have K4 := Lib.hid ((Kept.refl [] w).grown hgrow4 (fun k e => by cases e)); clear hown4 hgrow4 hat4)
  obtain ⟨a4, c4, rfl⟩ := Zb.own_slice O4.out
  rw [Nat.zero_add] at O4 ⊢
  go_wp2_with fail
  go_ret
  obtain ⟨v4, hv4⟩ : ∃ v4, v4 = Value.slice a4 n c4 := ⟨_, rfl⟩
  rw [← hv4] at O4 ⊢
  have O : Wrt.Own w4 w.heap.size v4 bs := by
    have h := O4.out
    rw [HN.out, HW.out] at h
    exact h
  have z4 := K4.out.size
  have sg := Seg.of_own O
  have hk : Kept [] w4 (w4.alloc (.cells #[v4, .int .i64 0, .int .i64 0, .int .i64 0, .int .i64 0] 88)) := (Kept.refl _ _).alloc _
  have hno : w4.heap.size ∉ v4.ownBlock.toList := fun hm => by
    have := (O.lt w4.heap.size (by simpa using hm)).2
    omega
  refine ⟨w4.heap.size, v4.ownBlock.toList, rfl, ⟨v4, bs, 0, 0, heap_alloc_new w4 _, sg.kept hk (fun _ _ hm => by cases hm), hno, rfl, Nat.zero_le _, rfl⟩, fun k hkm => ?_, K4.out.trans hk (fun _ hm => by cases hm)⟩
  rcases List.mem_cons.1 hkm with rfl | hkm
  · exact ⟨z4, by simp⟩
  · have := O.lt k (by simpa using hkm)
    exact ⟨this.1, by simp; omega⟩

/-- What Raw leaves: bytes of its own. -/
def RawOut (w : World) (r : Nat) (T : List Nat) (st : RS) (x : Int) (e : Ending) (w' : World) : Prop :=
  ∃ v, e = .returned v ∧ Hid (Wrt.Own w' w.heap.size v (st.raws x)) ∧ Hid (Vd w' r T (st.rawed x)) ∧ Kept [r] w w'

theorem raw_short (w : World) (r : Nat) (T : List Nat) (st : RS) (x : Int) (n : Nat) (hx : x = n) (hn : st.left.length < n) (he : st.err = 0) (hb : st.pos + st.left.length ≤ 1152921504606846976) (h : Hid (Vd w r T st)) :
    Calls Try.prog 47 #[.pointer (some ⟨r, 0, none⟩), .int .i64 x] w (RawOut w r T st x) := by
  subst hx
  have e1 : st.rawed n = st.fail 10 := by unfold RS.rawed RS.next; rw [if_neg (by omega), if_pos (by simpa using hn)]
  have e2 : st.raws n = [] := by unfold RS.raws RS.got; rw [if_neg (by omega), if_pos (by simpa using hn)]
  obtain ⟨v, all, P, B, X⟩ := h.out
  have hl := X.len
  obtain ⟨a, c, rfl⟩ := X.seg.slice
  obtain ⟨c0, c1, c2, c3, c4, fz⟩ := five X.at'
  have s1 : IntKind.i64.wrap ((all.length : Int) - (P : Int)) = (all.length : Int) - (P : Int) := IntWalk.i64_in _ (by omega)
  have s2 : (all.length : Int) - (P : Int) < (n : Int) := by omega
  have FE := fail_eq (e := 10) he (by decide)
  have WR := Lib.hid (fun m => wrong_any (w.drewN m) r T st 10 0 0 rfl (by omega) (h.out.kept ((Kept.refl [] w).drewN m) (by simp) (fun _ _ hm => by cases hm)))
  rw [FE, ← e1] at WR
  have E2 := Lib.hid e2
  have E : (st.err != 0) = false := by rw [he]; rfl
  clear X he hn FE e1 e2 hl
  go_enter Try.func47, Try.ntmps47
  go_wp2_with fail
  go_quiet (fail)
  go_wp2_with fail
  refine (WR.out _).mono ?_
  rintro e w1 ⟨rfl, h1, k1⟩
  go_wp2_with fail
  go_ret
  exact ⟨_, rfl, (by rw [E2.out]; exact World.ownsRow_nil _ _ _ _), h1, ((Kept.refl [r] w).drewN _).trans k1 (fun i hi => Or.inl hi)⟩
theorem raw_wrong (w : World) (r : Nat) (T : List Nat) (st : RS) (x : Int) (he : st.err ≠ 0) (h : Hid (Vd w r T st)) :
    Calls Try.prog 47 #[.pointer (some ⟨r, 0, none⟩), .int .i64 x] w (RawOut w r T st x) := by
  have e0 : ∀ e, st.fail e = st := fun e => by unfold RS.fail RS.failAt; rw [if_neg (by omega)]
  have e1 : st.rawed x = st := by
    unfold RS.rawed RS.next
    repeat' split
    · exact e0 _
    · exact e0 _
    · rfl
  have e2 : st.raws x = [] := by
    unfold RS.raws RS.got
    repeat' split
    · rfl
    · rfl
    · rfl
  obtain ⟨v, all, P, B, X⟩ := h.out
  obtain ⟨c0, c1, c2, c3, c4, fz⟩ := five X.at'
  have E : (st.err != 0) = true := by simpa using he
  have E1 := Lib.hid e1
  have E2 := Lib.hid e2
  clear X he e0 e1 e2
  go_enter Try.func47, Try.ntmps47
  go_wp2_with fail
  go_ret
  exact ⟨_, rfl, (by rw [E2.out]; exact World.ownsRow_nil _ _ _ _), (by rw [E1.out]; exact h), Kept.refl _ _⟩
theorem raw_neg (w : World) (r : Nat) (T : List Nat) (st : RS) (x : Int) (hx : x < 0) (he : st.err = 0) (hb : st.pos + st.left.length ≤ 1152921504606846976) (h : Hid (Vd w r T st)) :
    Calls Try.prog 47 #[.pointer (some ⟨r, 0, none⟩), .int .i64 x] w (RawOut w r T st x) := by
  have e1 : st.rawed x = st.fail 1 := by unfold RS.rawed; rw [if_pos hx]
  have e2 : st.raws x = [] := by unfold RS.raws; rw [if_pos hx]
  obtain ⟨v, all, P, B, X⟩ := h.out
  obtain ⟨c0, c1, c2, c3, c4, fz⟩ := five X.at'
  have FE := fail_eq (e := 1) he (by decide)
  have WR := Lib.hid (wrong_any w r T st 1 0 0 rfl (by omega) h)
  rw [FE, ← e1] at WR
  have E2 := Lib.hid e2
  have E : (st.err != 0) = false := by rw [he]; rfl
  clear X he FE e1 e2
  go_enter Try.func47, Try.ntmps47
  go_wp2_with fail
  refine WR.out.mono ?_
  rintro e w1 ⟨rfl, h1, k1⟩
  go_wp2_with fail
  go_ret
  exact ⟨_, rfl, (by rw [E2.out]; exact World.ownsRow_nil _ _ _ _), h1, k1⟩

/-- The cells of a reader that has gone on. -/
theorem gone_on {w0 w : World} {r n : Nat} {T : List Nat} {st : RS} {v : Value} {all : List UInt8} {P B : Nat} {q : Int} (X : Vx w0 r T st v all P B) (K : Kept [] w0 w) (hq : q = (P : Int) + (n : Int)) (hn : n ≤ st.left.length) :
    Vd (w.setCell ⟨r, 1, none⟩ (.int .i64 q)) r T { st with left := st.left.drop n, pos := st.pos + n } ∧ Kept [r] w (w.setCell ⟨r, 1, none⟩ (.int .i64 q)) := by
  have hl := X.len
  have X' := X.kept K (by simp) (fun _ _ hm => by cases hm)
  have hk : Kept [r] w (w.setCell ⟨r, 1, none⟩ (.int .i64 q)) := (Kept.refl _ _).setCell (Or.inl (by simp)) _
  have hq' : q = ((P + n : Nat) : Int) := by omega
  subst hq'
  refine ⟨⟨v, all, P + n, B, ?_, X'.seg.kept hk (fun k hk2 hm => X.out (by simp at hm; exact hm ▸ hk2)), X.out, ?_, by omega, ?_⟩, hk⟩
  · exact heap_set (i := 1) _ X'.at'
  · show st.left.drop n = _
    rw [X.left, List.drop_drop]
  · show st.pos + n = _
    rw [X.pos]
    omega
/-- A list beside a reader that has turned. -/
theorem own_beside {w w' : World} {B r : Nat} {v : Value} {bs : List UInt8} {cs : Array Value} {t : TypeId} (O : Wrt.Own w B v bs) (K : Kept [r] w w') (h : w.heap[r]? = some (.cells cs t (0, 0))) (ht : t ≠ 5) : Wrt.Own w' B v bs :=
  Zb.ownsRow_kept O K (fun b hb hm => by
    simp at hm
    subst hm
    exact Zb.own_neB O h (Ne.symm ht) b hb rfl)

set_option maxHeartbeats 4000000 in
set_option maxRecDepth 100000 in
theorem raw_nil (w : World) (r : Nat) (T : List Nat) (st : RS) (all : List UInt8) (B  : Nat) (he : (st.err != 0) = false) (hal : all.length = 0) (hsz : all.length ≤ 1152921504)
    (X : Hid (Vx w r T st (.slice none 0 0) all 0 B)) :
    Calls Try.prog 47 #[.pointer (some ⟨r, 0, none⟩), .int .i64 0] w fun e w' => ∃ v, e = .returned v ∧ Hid (Wrt.Own w' w.heap.size v (st.left.take 0)) ∧ Hid (Vd w' r T { st with left := st.left.drop 0, pos := st.pos + 0 }) ∧ Kept [r] w w' := by
  obtain ⟨i0, hi, hz0, hz1, hz2⟩ := info_parts Wrt.info5
  obtain ⟨c0, c1, c2, c3, c4, fz⟩ := five X.out.at'
  have c1 : w.cell? ⟨r, 1, none⟩ = some (.int .i64 0) := c1
  have f1 := fz 1
  have s0 : IntKind.i64.wrap (0 : Int) = 0 := IntWalk.i64_in _ (by omega)
  have SRC : Hid (∀ w1, Kept [] w w1 → Zb.RowSrc w1 (.slice none 0 0) 0 []) := fun w1 K => none_src _ _ _ (fun e => by first | rfl | cases e)
  clear fz hal
  go_enter Try.func47, Try.ntmps47
  go_wp2_with fail
  go_quiet (fail)
  go_wp2_with fail
  obtain ⟨w1, hw1⟩ : ∃ w1, w1 = w.drewN nq := ⟨_, rfl⟩
  have K1 : Hid (Kept [] w w1) := by rw [hw1]; exact (Kept.refl [] w).drewN nq
  have X1 : Hid (Vx w1 r T st (.slice none 0 0) all 0 B) := X.out.kept K1.out (by simp) (fun _ _ hm => by cases hm)
  obtain ⟨c0, c1, c2, c3, c4, fz⟩ := five X1.out.at'
  have c1 : w1.cell? ⟨r, 1, none⟩ = some (.int .i64 0) := c1
  have f1 := fz 1
  have KD : Hid (Kept [] w w1.drew) := K1.out.trans (Kept.refl [] w1).drew (fun _ hm => by cases hm)
  rw [← hw1]
  clear hw1 fz
  go_region_law (refine Zb.step_append_src w1.drew rfl (.tmp 29) (.tmp 44) 37 rfl w.heap.size 5 i0 (.int .u8 0) 1 1 Try.underlying37 hi hz0 hz1 hz2 rfl (by decide) (.slice none 0 0) 0 [] (by simp [Act.eval, Act.put]) (World.ownsRow_nil _ _ _ _) (.slice none 0 0) 0 [] (by simp [Act.eval, Act.put]) (SRC.out _ KD.out) rfl (fun u hu => by cases hu) (by decide) (by decide) KD.out.size ?_; intro v4 w4 hown4 hgrow4 hat4; have O4 := Lib.hid hown4; have K4 := Lib.hid (KD.out.grown hgrow4 (fun k e => by cases e)); have X4 : Hid (Vx w4 r T st (.slice none 0 0) all 0 B) := X.out.kept K4.out (by simp) (fun _ _ hm => by cases hm); obtain ⟨d0, d1, d2, d3, d4, fz⟩ := five X4.out.at'; have d1 : w4.cell? ⟨r, 1, none⟩ = some (.int .i64 0) := d1; have g1 := fz 1; clear hown4 hgrow4 hat4 fz)
  all_goals
    go_wp2_with fail
    go_ret
  all_goals
    have O : Wrt.Own w4 w.heap.size v4 (st.left.take 0) := O4.out
    obtain ⟨g1', g2'⟩ := gone_on (n := 0) (q := 0) X4.out (Kept.refl [] w4) (by simp) (Nat.zero_le _)
    exact ⟨v4, rfl, own_beside O g2' X4.out.at' (by decide), g1', (K4.out.mono (fun _ hm => by cases hm)).trans g2' (fun i hi => Or.inl hi)⟩

set_option maxHeartbeats 4000000 in
set_option maxRecDepth 100000 in
theorem raw_cap (w : World) (r : Nat) (T : List Nat) (st : RS) (all : List UInt8) (B b o P : Nat) (he : (st.err != 0) = false) (hal : all.length = P) (hsz : all.length ≤ 1152921504)
    (X : Hid (Vx w r T st (.slice (some ⟨b, o, none⟩) all.length P) all P B)) :
    Calls Try.prog 47 #[.pointer (some ⟨r, 0, none⟩), .int .i64 0] w fun e w' => ∃ v, e = .returned v ∧ Hid (Wrt.Own w' w.heap.size v (st.left.take 0)) ∧ Hid (Vd w' r T { st with left := st.left.drop 0, pos := st.pos + 0 }) ∧ Kept [r] w w' := by
  obtain ⟨i0, hi, hz0, hz1, hz2⟩ := info_parts Wrt.info5
  obtain ⟨c0, c1, c2, c3, c4, fz⟩ := five X.out.at'
  have c1 : w.cell? ⟨r, 1, none⟩ = some (.int .i64 (P : Int)) := c1
  have f1 := fz 1
  have s1 : IntKind.i64.wrap ((all.length : Int) - (P : Int)) = 0 := by rw [hal]; simp; rfl
  have s3 : IntKind.i64.wrap (P : Int) = (P : Int) := IntWalk.i64_in _ (by omega)
  have p3 : ((P : Int)).toNat = P := by omega
  have p4 : P - P = 0 := by omega
  have SRC : Hid (∀ w1, Kept [] w w1 → Zb.RowSrc w1 (.slice (some ⟨b, o, none⟩) 0 0) 0 []) := fun w1 K => none_src _ _ _ (fun e => by first | rfl | cases e)
  clear fz hal
  go_enter Try.func47, Try.ntmps47
  go_wp2_with fail
  go_quiet (fail)
  go_wp2_with fail
  obtain ⟨w1, hw1⟩ : ∃ w1, w1 = w.drewN nq := ⟨_, rfl⟩
  have K1 : Hid (Kept [] w w1) := by rw [hw1]; exact (Kept.refl [] w).drewN nq
  have X1 : Hid (Vx w1 r T st (.slice (some ⟨b, o, none⟩) all.length P) all P B) := X.out.kept K1.out (by simp) (fun _ _ hm => by cases hm)
  obtain ⟨c0, c1, c2, c3, c4, fz⟩ := five X1.out.at'
  have c1 : w1.cell? ⟨r, 1, none⟩ = some (.int .i64 (P : Int)) := c1
  have f1 := fz 1
  have KD : Hid (Kept [] w w1.drew) := K1.out.trans (Kept.refl [] w1).drew (fun _ hm => by cases hm)
  rw [← hw1]
  clear hw1 fz
  go_region_law (refine Zb.step_append_src w1.drew rfl (.tmp 29) (.tmp 44) 37 rfl w.heap.size 5 i0 (.int .u8 0) 1 1 Try.underlying37 hi hz0 hz1 hz2 rfl (by decide) (.slice none 0 0) 0 [] (by simp [Act.eval, Act.put]) (World.ownsRow_nil _ _ _ _) (.slice (some ⟨b, o, none⟩) 0 0) 0 [] (by simp [Act.eval, Act.put]) (SRC.out _ KD.out) rfl (fun u hu => by cases hu) (by decide) (by decide) KD.out.size ?_; intro v4 w4 hown4 hgrow4 hat4; have O4 := Lib.hid hown4; have K4 := Lib.hid (KD.out.grown hgrow4 (fun k e => by cases e)); have X4 : Hid (Vx w4 r T st (.slice (some ⟨b, o, none⟩) all.length P) all P B) := X.out.kept K4.out (by simp) (fun _ _ hm => by cases hm); obtain ⟨d0, d1, d2, d3, d4, fz⟩ := five X4.out.at'; have d1 : w4.cell? ⟨r, 1, none⟩ = some (.int .i64 (P : Int)) := d1; have g1 := fz 1; clear hown4 hgrow4 hat4 fz)
  all_goals
    go_wp2_with fail
    go_ret
  all_goals
    have O : Wrt.Own w4 w.heap.size v4 (st.left.take 0) := O4.out
    obtain ⟨g1', g2'⟩ := gone_on (n := 0) (q := (P : Int)) X4.out (Kept.refl [] w4) (by simp) (Nat.zero_le _)
    exact ⟨v4, rfl, own_beside O g2' X4.out.at' (by decide), g1', (K4.out.mono (fun _ hm => by cases hm)).trans g2' (fun i hi => Or.inl hi)⟩

set_option maxHeartbeats 4000000 in
set_option maxRecDepth 100000 in
theorem raw_more (w : World) (r : Nat) (T : List Nat) (st : RS) (x : Int) (n : Nat) (all : List UInt8) (P B b o c : Nat) (hx : x = n) (hn : n ≤ st.left.length) (he : (st.err != 0) = false) (hb : B + all.length ≤ 1152921504606846976) (hsz : all.length ≤ 1152921504) (hPc : ¬ c = P) (hc : all.length ≤ c)
    (X : Hid (Vx w r T st (.slice (some ⟨b, o, none⟩) all.length c) all P B)) :
    Calls Try.prog 47 #[.pointer (some ⟨r, 0, none⟩), .int .i64 x] w fun e w' => ∃ v, e = .returned v ∧ Hid (Wrt.Own w' w.heap.size v (st.left.take n)) ∧ Hid (Vd w' r T { st with left := st.left.drop n, pos := st.pos + n }) ∧ Kept [r] w w' := by
  subst hx
  obtain ⟨i0, hi, hz0, hz1, hz2⟩ := info_parts Wrt.info5
  have hl := X.out.len
  obtain ⟨c0, c1, c2, c3, c4, fz⟩ := five X.out.at'
  have f1 := fz 1
  have s1 : IntKind.i64.wrap ((all.length : Int) - (P : Int)) = (all.length : Int) - (P : Int) := IntWalk.i64_in _ (by omega)
  have s2 : ¬ (all.length : Int) - (P : Int) < (n : Int) := by omega
  have s3 : IntKind.i64.wrap ((P : Int) + (n : Int)) = (P : Int) + (n : Int) := IntWalk.i64_in _ (by omega)
  have p1 : (P : Int) ≤ (P : Int) + (n : Int) := by omega
  have p2 : (P : Int) + (n : Int) ≤ (c : Int) := by omega
  have p3 : ((P : Int) + (n : Int)).toNat = P + n := by omega
  have p4 : P + n - P = n := by omega
  have p5 : (0 : Int) ≤ (P : Int) + (n : Int) := by omega
  have ML : n ≤ 1152921504 := by omega
  have NL : Hid ((((all.drop P).take n).map bv).length = n * 1) := by show _ = _; simp; omega
  have ONE : Hid (∀ u ∈ ((all.drop P).take n).map bv, u.oneCell' = true) := fun u hu => by obtain ⟨x, _, rfl⟩ := List.mem_map.1 hu; rfl
  have SRC : Hid (∀ w1, Kept [] w w1 → Zb.RowSrc w1 (.slice (some ⟨b, o + P, none⟩) n (c - P)) n (((all.drop P).take n).map bv)) := fun w1 K => ((X.out.kept K (by simp) (fun _ _ hm => by cases hm)).seg.part P n (by omega) _)
  have HA : Hid (all.drop P = st.left) := X.out.left.symm
  obtain ⟨news, hnw⟩ : ∃ m, m = ((all.drop P).take n).map bv := ⟨_, rfl⟩
  rw [← hnw] at SRC NL ONE
  have HW := Lib.hid hnw
  have HHN := Lib.hid hn
  clear hl hnw fz hn hb hsz
  go_enter Try.func47, Try.ntmps47
  go_wp2_with fail
  go_quiet (fail)
  go_wp2_with fail
  obtain ⟨w1, hw1⟩ : ∃ w1, w1 = w.drewN nq := ⟨_, rfl⟩
  have K1 : Hid (Kept [] w w1) := by rw [hw1]; exact (Kept.refl [] w).drewN nq
  have X1 : Hid (Vx w1 r T st (.slice (some ⟨b, o, none⟩) all.length c) all P B) := X.out.kept K1.out (by simp) (fun _ _ hm => by cases hm)
  obtain ⟨c0, c1, c2, c3, c4, fz⟩ := five X1.out.at'
  have f1 := fz 1
  have KD : Hid (Kept [] w w1.drew) := K1.out.trans (Kept.refl [] w1).drew (fun _ hm => by cases hm)
  rw [← hw1]
  clear hw1 fz
  go_region_law (refine Zb.step_append_src w1.drew rfl (.tmp 29) (.tmp 44) 37 rfl w.heap.size 5 i0 (.int .u8 0) 1 1 Try.underlying37 hi hz0 hz1 hz2 rfl (by decide) (.slice none 0 0) 0 [] (by simp [Act.eval, Act.put]) (World.ownsRow_nil _ _ _ _) (.slice (some ⟨b, o + P, none⟩) n (c - P)) n news (by simp [Act.eval, Act.put]) (SRC.out _ KD.out) NL.out ONE.out (by unfold maxLen; omega) (by omega) KD.out.size ?_; intro v4 w4 hown4 hgrow4 hat4; have O4 := Lib.hid hown4; have K4 := Lib.hid (KD.out.grown hgrow4 (fun k e => by cases e)); have X4 : Hid (Vx w4 r T st (.slice (some ⟨b, o, none⟩) all.length c) all P B) := X.out.kept K4.out (by simp) (fun _ _ hm => by cases hm); obtain ⟨d0, d1, d2, d3, d4, fz⟩ := five X4.out.at'; have g1 := fz 1; clear hown4 hgrow4 hat4 fz)
  all_goals
    go_wp2_with fail
    go_ret
  all_goals
    have O : Wrt.Own w4 w.heap.size v4 (st.left.take n) := by
      have h := O4.out
      rw [Nat.zero_add, List.nil_append, HW.out, HA.out] at h
      unfold Wrt.Own
      rw [List.length_take, Nat.min_eq_left HHN.out]
      exact h
    obtain ⟨g1', g2'⟩ := gone_on (n := n) X4.out (Kept.refl [] w4) rfl HHN.out
    exact ⟨v4, rfl, own_beside O g2' X4.out.at' (by decide), g1', (K4.out.mono (fun _ hm => by cases hm)).trans g2' (fun i hi => Or.inl hi)⟩

end Vrd
end Go.Proofs.Ytfdbpbhihccgbaa
end

section
namespace Go.Proofs.Ytfdbpbhihccgbaa
set_option linter.unusedVariables false
open Go.RowKit

namespace Vrd
open Go.Proofs.Ytfdbpbhihccgbaa.Txt

theorem raw_any (w : World) (r : Nat) (T : List Nat) (st : RS) (x : Int) (hb : st.pos + st.left.length ≤ 1152921504) (h : Hid (Vd w r T st)) :
    Calls Try.prog 47 #[.pointer (some ⟨r, 0, none⟩), .int .i64 x] w (RawOut w r T st x) := by
  by_cases he : st.err = 0
  · by_cases hx : x < 0
    · exact raw_neg w r T st x hx he (by omega) h
    · obtain ⟨n, rfl⟩ : ∃ n : Nat, x = n := ⟨x.toNat, by omega⟩
      by_cases hn : st.left.length < n
      · exact raw_short w r T st n n rfl hn he (by omega) h
      · have e1 : st.rawed n = { st with left := st.left.drop n, pos := st.pos + n } := by
          unfold RS.rawed RS.next
          rw [if_neg hx, if_neg (by simp; omega), if_neg (by omega)]
          rfl
        have e2 : st.raws n = st.left.take n := by
          unfold RS.raws RS.got
          rw [if_neg hx, if_neg (by simp; omega), if_neg (by omega)]
          rfl
        obtain ⟨v, all, P, B, X⟩ := h.out
        have hl := X.len
        have hp := X.pos
        have E : (st.err != 0) = false := by rw [he]; rfl
        unfold RawOut
        rw [e1, e2]
        rcases X.seg with ⟨rfl, rfl⟩ | ⟨b, o, c, rfl, hc, ht, hcl⟩
        · rw [List.length_nil] at hl
          obtain rfl : n = 0 := by omega
          obtain rfl : P = 0 := by omega
          exact raw_nil w r T st [] B E rfl (by simp) X
        · by_cases hcp : c = P
          · subst hcp
            obtain rfl : n = 0 := by omega
            exact raw_cap w r T st all B b o c E (by omega) (by omega) X
          · exact raw_more w r T st n n all P B b o c rfl (by omega) E (by omega) (by omega) hcp hc X
  · exact raw_wrong w r T st x he h

theorem leval_at (l : List UInt8) (k : Nat) (h : k < l.length) : leval (l.drop k) = l[k].toNat + 256 * leval (l.drop (k + 1)) := by
  rw [List.drop_eq_getElem_cons h]
  rfl
theorem leval_bd (l : List UInt8) (h : l.length ≤ 8) (k : Nat) (hk : k < l.length) : leval (l.drop (k + 1)) * 256 + 255 < 18446744073709551616 := by
  have h1 := leval_lt (l.drop (k + 1))
  have h2 : (l.drop (k + 1)).length ≤ 7 := by rw [List.length_drop]; omega
  have h3 : 256 ^ (l.drop (k + 1)).length ≤ 256 ^ 7 := Nat.pow_le_pow_right (by decide) h2
  omega

set_option maxHeartbeats 1000000 in
theorem number_any (w : World) (r : Nat) (T : List Nat) (st : RS) (n : Nat) (hn : n ≤ 8) (x : Int) (hx : x = n) (hb : st.pos + st.left.length ≤ 1152921504) (h : Hid (Vd w r T st)) :
    Calls Try.prog 97 #[.pointer (some ⟨r, 0, none⟩), .int .i64 x] w fun e w' => e = .returned (.int .u64 (leval (st.got n))) ∧ Hid (Vd w' r T (st.next n)) ∧ Kept [r] w w' := by
  subst hx
  have RAW := Lib.hid (raw_any w r T st n hb h)
  have e1 : st.rawed n = st.next n := by unfold RS.rawed; rw [if_neg (by omega)]; rfl
  have e2 : st.raws n = st.got n := by unfold RS.raws; rw [if_neg (by omega)]; rfl
  unfold RawOut at RAW
  rw [e1, e2] at RAW
  have hgl := RS.got_length st n
  obtain ⟨l, hl⟩ : ∃ l, l = st.got n := ⟨_, rfl⟩
  rw [← hl] at RAW hgl ⊢
  have hl8 : l.length ≤ 8 := by omega
  clear e1 e2 hl hgl
  go_enter Try.func97, Try.ntmps97
  go_wp2_with fail
  refine RAW.out.mono ?_
  rintro e w1 ⟨v, rfl, o1, h1, k1⟩
  have K1 := Lib.hid k1
  have SG := Lib.hid (Seg.of_own o1.out)
  obtain ⟨a, c, rfl⟩ := SG.out.slice
  clear RAW k1 o1
  go_wp2_with fail
  go_loop [6, 7] (fun nv iv => ∃ k : Nat, k ≤ l.length ∧ nv = .int .u64 (leval (l.drop k)) ∧ iv = .int .i64 ((k : Int) - 1)) (fun _ iv => (intOf iv + 1).toNat)
  case atStart => exact ⟨l.length, Nat.le_refl _, by rw [List.drop_length]; rfl, rfl⟩
  case round =>
    obtain ⟨k, hk, rfl, rfl⟩ := hrel
    by_cases h0 : 1 ≤ k
    · obtain ⟨j, rfl⟩ : ∃ j, k = j + 1 := ⟨k - 1, by omega⟩
      have hj : j < l.length := by omega
      have ej : ((j + 1 : Nat) : Int) - 1 = (j : Int) := by omega
      rw [ej]
      obtain ⟨b, o, c', hv, hbc⟩ : ∃ b o c', Value.slice a l.length c = .slice (some ⟨b, o, none⟩) l.length c' ∧ w1.cell? ⟨b, o + j, none⟩ = some (.int .u8 l[j].toNat) := by
        rcases SG.out with ⟨hh, hnil⟩ | ⟨b, o, c', h1, h2, h3, h4⟩
        · rw [hnil] at hj; simp at hj
        · exact ⟨b, o, c', h1, h4 j _ (by rw [List.getElem?_map, List.getElem?_eq_getElem hj]; rfl)⟩
      simp only [Value.slice.injEq, true_and] at hv
      obtain ⟨rfl, rfl⟩ := hv
      have hbd := leval_bd l hl8 j hj
      have hat := leval_at l j hj
      have hby : l[j].toNat < 256 := l[j].toNat_lt
      obtain ⟨z, hz⟩ : ∃ z, z = leval (l.drop (j + 1)) := ⟨_, rfl⟩
      obtain ⟨y, hy⟩ : ∃ y, y = l[j].toNat := ⟨_, rfl⟩
      rw [← hz] at hbd hat ⊢
      rw [← hy] at hbc hat hby
      have HAT := Lib.hid hat
      clear hz hy hat h0 ej
      go_wp2_with fail
      go_round
      case rel => exact ⟨j, by omega, by rw [HAT.out]; congr 1; omega, by go_num⟩
      case measure => simp [intOf]
    · obtain rfl : k = 0 := by omega
      rw [List.drop_zero]
      go_wp2_with fail
      go_ret
      exact ⟨rfl, h1, K1.out⟩
end Vrd
end Go.Proofs.Ytfdbpbhihccgbaa
end

section
namespace Go.Proofs.Ytfdbpbhihccgbaa
set_option linter.unusedVariables false
open Go.RowKit

theorem RS.counted_good {st : RS} (he : st.err = 0) (h2 : 2 ≤ st.left.length) (hc : st.cnt ≤ st.left.length - 2) : st.counted = st := by
  have e1 : st.next 2 = { st with left := st.left.drop 2, pos := st.pos + 2 } := by unfold RS.next; rw [if_neg (by omega), if_neg (by omega)]
  have e2 : st.peek.err = 0 := by
    unfold RS.peek RS.next
    rw [if_neg (by rw [← RS.next, e1]; simp; omega), if_neg (by rw [← RS.next, e1]; simpa using he), ← RS.next, e1]
    exact he
  unfold RS.counted
  rw [if_pos e2]
theorem RS.counted_short {st : RS} (he : st.err = 0) (h : st.left.length < 2 ∨ st.left.length - 2 < st.cnt) : st.counted = st.fail 10 := by
  have e2 : st.peek.err = 10 := by
    by_cases h2 : st.left.length < 2
    · have e1 : st.next 2 = st.fail 10 := by unfold RS.next; rw [if_pos h2]
      have e3 : (st.fail 10).err = 10 := by unfold RS.fail RS.failAt; rw [if_pos ⟨he, by decide⟩]
      have e4 : ∀ n, ((st.fail 10).next n).err = 10 := fun n => by
        unfold RS.next
        split
        · have : ((st.fail 10).fail 10) = st.fail 10 := by
            show (st.fail 10).failAt 10 _ = _
            unfold RS.failAt
            rw [if_neg (by omega)]
          rw [this, e3]
        · split
          · exact e3
          · exact e3
      unfold RS.peek
      rw [e1]
      exact e4 _
    · have e1 : st.next 2 = { st with left := st.left.drop 2, pos := st.pos + 2 } := by unfold RS.next; rw [if_neg (by omega), if_neg (by omega)]
      unfold RS.peek
      rw [e1]
      unfold RS.next
      rw [if_pos (by simp; omega)]
      unfold RS.fail RS.failAt
      rw [if_pos ⟨he, by decide⟩]
  unfold RS.counted
  rw [if_neg (by omega), e2]
theorem RS.cnt_two {st : RS} (he : st.err = 0) (h2 : 2 ≤ st.left.length) : st.cnt = st.left[0].toNat + 256 * st.left[1].toNat := by
  have e1 : st.got 2 = [st.left[0], st.left[1]] := by
    unfold RS.got
    rw [if_neg (by omega), if_neg (by omega)]
    apply List.ext_getElem
    · simp; omega
    · intro i h1 h3
      have : i < 2 := by simpa using h3
      rcases (by omega : i = 0 ∨ i = 1) with rfl | rfl <;> simp
  unfold RS.cnt
  rw [e1]
  rfl

namespace Vrd
open Go.Proofs.Ytfdbpbhihccgbaa.Txt

theorem u8_any (w : World) (r : Nat) (T : List Nat) (st : RS) (hb : st.pos + st.left.length ≤ 1152921504) (h : Hid (Vd w r T st)) :
    Calls Try.prog 84 #[.pointer (some ⟨r, 0, none⟩)] w fun e w' => e = .returned (.int .u8 (leval (st.got 1))) ∧ Hid (Vd w' r T (st.next 1)) ∧ Kept [r] w w' := by
  have NU := Lib.hid (number_any w r T st 1 (by decide) 1 rfl hb h)
  have hl : leval (st.got 1) < 256 := by
    have h1 := leval_lt (st.got 1)
    have h2 := RS.got_length st 1
    have h3 : 256 ^ (st.got 1).length ≤ 256 ^ 1 := Nat.pow_le_pow_right (by decide) h2
    omega
  go_enter Try.func84, Try.ntmps84
  go_wp2_with fail
  refine NU.out.mono ?_
  rintro e w1 ⟨rfl, h1, h2⟩
  go_wp2_with fail
  go_ret
  exact ⟨rfl, h1, h2⟩
theorem u16_any (w : World) (r : Nat) (T : List Nat) (st : RS) (hb : st.pos + st.left.length ≤ 1152921504) (h : Hid (Vd w r T st)) :
    Calls Try.prog 85 #[.pointer (some ⟨r, 0, none⟩)] w fun e w' => e = .returned (.int .u16 (leval (st.got 2))) ∧ Hid (Vd w' r T (st.next 2)) ∧ Kept [r] w w' := by
  have NU := Lib.hid (number_any w r T st 2 (by decide) 2 rfl hb h)
  have hl : leval (st.got 2) < 65536 := by
    have h1 := leval_lt (st.got 2)
    have h2 := RS.got_length st 2
    have h3 : 256 ^ (st.got 2).length ≤ 256 ^ 2 := Nat.pow_le_pow_right (by decide) h2
    omega
  go_enter Try.func85, Try.ntmps85
  go_wp2_with fail
  refine NU.out.mono ?_
  rintro e w1 ⟨rfl, h1, h2⟩
  go_wp2_with fail
  go_ret
  exact ⟨rfl, h1, h2⟩
theorem u32_any (w : World) (r : Nat) (T : List Nat) (st : RS) (hb : st.pos + st.left.length ≤ 1152921504) (h : Hid (Vd w r T st)) :
    Calls Try.prog 87 #[.pointer (some ⟨r, 0, none⟩)] w fun e w' => e = .returned (.int .u32 (leval (st.got 4))) ∧ Hid (Vd w' r T (st.next 4)) ∧ Kept [r] w w' := by
  have NU := Lib.hid (number_any w r T st 4 (by decide) 4 rfl hb h)
  have hl : leval (st.got 4) < 4294967296 := by
    have h1 := leval_lt (st.got 4)
    have h2 := RS.got_length st 4
    have h3 : 256 ^ (st.got 4).length ≤ 256 ^ 4 := Nat.pow_le_pow_right (by decide) h2
    omega
  go_enter Try.func87, Try.ntmps87
  go_wp2_with fail
  refine NU.out.mono ?_
  rintro e w1 ⟨rfl, h1, h2⟩
  go_wp2_with fail
  go_ret
  exact ⟨rfl, h1, h2⟩
theorem u64_any (w : World) (r : Nat) (T : List Nat) (st : RS) (hb : st.pos + st.left.length ≤ 1152921504) (h : Hid (Vd w r T st)) :
    Calls Try.prog 89 #[.pointer (some ⟨r, 0, none⟩)] w fun e w' => e = .returned (.int .u64 (leval (st.got 8))) ∧ Hid (Vd w' r T (st.next 8)) ∧ Kept [r] w w' := by
  have NU := Lib.hid (number_any w r T st 8 (by decide) 8 rfl hb h)
  go_enter Try.func89, Try.ntmps89
  go_wp2_with fail
  refine NU.out.mono ?_
  rintro e w1 ⟨rfl, h1, h2⟩
  go_wp2_with fail
  go_ret
  exact ⟨rfl, h1, h2⟩

def CountOut (w : World) (r : Nat) (T : List Nat) (st : RS) (e : Ending) (w' : World) : Prop :=
  e = .returned (.tuple #[.int .i64 ((if st.counted.err = 0 then st.cnt else 0 : Nat)), .bool (st.counted.err == 0)]) ∧ Hid (Vd w' r T st.counted) ∧ Kept [r] w w'

set_option maxHeartbeats 1000000 in
theorem counted_any (w : World) (r : Nat) (T : List Nat) (st : RS) (hb : st.pos + st.left.length ≤ 1152921504) (h : Hid (Vd w r T st)) :
    Calls Try.prog 82 #[.pointer (some ⟨r, 0, none⟩)] w (CountOut w r T st) := by
  obtain ⟨v, all, P, B, X⟩ := h.out
  have hl := X.len
  have hp := X.pos
  have HLE := X.left
  have hseg := Lib.hid X.seg
  obtain ⟨a, c, rfl⟩ := X.seg.slice
  obtain ⟨c0, c1, c2, c3, c4, fz⟩ := five X.at'
  have s1 : IntKind.i64.wrap ((all.length : Int) - (P : Int)) = (all.length : Int) - (P : Int) := IntWalk.i64_in _ (by omega)
  by_cases he : st.err = 0
  · have E : (st.err != 0) = false := by rw [he]; rfl
    have WR := Lib.hid (fun m => wrong_any (w.drewN m) r T st 10 0 0 rfl (by omega) (h.out.kept ((Kept.refl [] w).drewN m) (by simp) (fun _ _ hm => by cases hm)))
    rw [fail_eq (e := 10) he (by decide)] at WR
    by_cases h2 : st.left.length < 2
    · have e1 := RS.counted_short he (Or.inl h2)
      have e3 : (st.fail 10).err = 10 := by unfold RS.fail RS.failAt; rw [if_pos ⟨he, by decide⟩]
      unfold CountOut
      rw [e1, e3]
      have j1 : (all.length : Int) - (P : Int) < 2 := by omega
      clear X he HLE hl e1 e3 h2 hb hp
      go_enter Try.func82, Try.ntmps82
      go_wp2_with fail
      go_quiet (fail)
      go_wp2_with fail
      refine (WR.out _).mono ?_
      rintro e w1 ⟨rfl, h1, k1⟩
      go_wp2_with fail
      go_ret2
      exact ⟨rfl, h1, ((Kept.refl [r] w).drewN _).trans k1 (fun i hi => Or.inl hi)⟩
    · have hc2 := RS.cnt_two he (by omega)
      obtain ⟨b, o, c', hv, hcc, hcl⟩ : ∃ b o c', Value.slice a all.length c = .slice (some ⟨b, o, none⟩) all.length c' ∧ all.length ≤ c' ∧ ∀ j (hj : j < all.length), w.cell? ⟨b, o + j, none⟩ = some (.int .u8 all[j].toNat) := by
        rcases hseg.out with ⟨hh, hnil⟩ | ⟨b, o, c', h1, h2, h3, h4⟩
        · rw [hnil, List.length_nil] at hl; omega
        · exact ⟨b, o, c', h1, h2, fun j hj => h4 j _ (by rw [List.getElem?_map, List.getElem?_eq_getElem hj]; rfl)⟩
      simp only [Value.slice.injEq, true_and] at hv
      obtain ⟨rfl, rfl⟩ := hv
      have q0 := hcl P (by omega)
      have q1 := hcl (P + 1) (by omega)
      have x0 : st.left[0] = all[P]'(by omega) := by
        have : st.left[0]? = all[P]? := by rw [HLE, List.getElem?_drop]; simp
        rw [List.getElem?_eq_getElem (by omega), List.getElem?_eq_getElem (by omega)] at this
        exact Option.some.inj this
      have x1 : st.left[1] = all[P + 1]'(by omega) := by
        have : st.left[1]? = all[P + 1]? := by rw [HLE, List.getElem?_drop]
        rw [List.getElem?_eq_getElem (by omega), List.getElem?_eq_getElem (by omega)] at this
        exact Option.some.inj this
      rw [x0, x1] at hc2
      have y0 : (all[P]'(by omega)).toNat < 256 := UInt8.toNat_lt _
      have y1 : (all[P + 1]'(by omega)).toNat < 256 := UInt8.toNat_lt _
      obtain ⟨m0, hm0⟩ : ∃ m, m = (all[P]'(by omega)).toNat := ⟨_, rfl⟩
      obtain ⟨m1, hm1⟩ : ∃ m, m = (all[P + 1]'(by omega)).toNat := ⟨_, rfl⟩
      rw [← hm0] at q0 hc2 y0
      rw [← hm1] at q1 hc2 y1
      rw [← Nat.add_assoc] at q1
      clear hm0 hm1 x0 x1 hcl
      have t1 : IntKind.i64.wrap ((P : Int) + 1) = (P : Int) + 1 := IntWalk.i64_in _ (by omega)
      have t2 : (0 : Int) ≤ (P : Int) + 1 := by omega
      have t3 : ((P : Int) + 1).toNat = P + 1 := by omega
      have t4 : IntKind.i64.wrap (256 * (m1 : Int)) = 256 * (m1 : Int) := IntWalk.i64_in _ (by omega)
      have t5 : IntKind.i64.wrap ((m0 : Int) + 256 * (m1 : Int)) = (m0 : Int) + 256 * (m1 : Int) := IntWalk.i64_in _ (by omega)
      have t6 : IntKind.i64.wrap ((all.length : Int) - (P : Int) - 2) = (all.length : Int) - (P : Int) - 2 := IntWalk.i64_in _ (by omega)
      have i0 : (P : Int) < (all.length : Int) := by omega
      have i1 : (P : Int) + 1 < (all.length : Int) := by omega
      have j1 : (2 : Int) ≤ (all.length : Int) - (P : Int) := by omega
      by_cases hn : st.left.length - 2 < st.cnt
      · have e1 := RS.counted_short he (Or.inr hn)
        have e3 : (st.fail 10).err = 10 := by unfold RS.fail RS.failAt; rw [if_pos ⟨he, by decide⟩]
        unfold CountOut
        rw [e1, e3]
        have j2 : (all.length : Int) - (P : Int) - 2 < (m0 : Int) + 256 * (m1 : Int) := by omega
        have j4 : ¬ (all.length : Int) - (P : Int) < 2 := by omega
        clear X he HLE hl e1 e3 h2 hb hp hc2 hn
        go_enter Try.func82, Try.ntmps82
        go_wp2_with fail
        go_quiet (fail)
        go_wp2_with fail
        obtain ⟨w1, hw1⟩ : ∃ w1, w1 = w.drewN nq := ⟨_, rfl⟩
        have K1 : Hid (Kept [] w w1) := by rw [hw1]; exact (Kept.refl [] w).drewN nq
        have WR1 := Lib.hid (fun m => WR.out (nq + m))
        have WR2 : Hid (∀ m, Calls Try.prog 81 #[.pointer (some ⟨r, 0, none⟩), .int .i64 10, .int .i64 0] (w1.drewN m) fun e w' => e = .returned (.tuple #[]) ∧ Hid (Vd w' r T (st.fail 10)) ∧ Kept [r] w w') := fun m => by
          have := (WR1.out m).mono (R' := fun e w' => e = .returned (.tuple #[]) ∧ Hid (Vd w' r T (st.fail 10)) ∧ Kept [r] w w') (fun e w' ⟨a1, a2, a3⟩ => ⟨a1, a2, ((Kept.refl [r] w).drewN _).trans a3 (fun i hi => Or.inl hi)⟩)
          rw [hw1]
          have e : (w.drewN nq).drewN m = w.drewN (nq + m) := by simp [World.drewN, Nat.add_assoc]
          rw [e]
          exact this
        have c0 : w1.cell? ⟨r, 0, none⟩ = some (.slice (some ⟨b, o, none⟩) all.length c) := by rw [hw1]; exact c0
        have c1 : w1.cell? ⟨r, 1, none⟩ = some (.int .i64 P) := by rw [hw1]; exact c1
        have q0 : w1.cell? ⟨b, o + P, none⟩ = some (.int .u8 m0) := by rw [hw1]; exact q0
        have q1 : w1.cell? ⟨b, o + (P + 1), none⟩ = some (.int .u8 m1) := by rw [hw1, ← Nat.add_assoc]; exact q1
        rw [← hw1]
        clear hw1 WR WR1
        go_region
        all_goals
          go_wp2_with fail
          refine (WR2.out 1).mono ?_
          rintro e w1 ⟨rfl, h1, k1⟩
          go_wp2_with fail
          go_ret2
          exact ⟨rfl, h1, k1⟩
      · have e1 := RS.counted_good he (by omega) (by omega)
        have E2 : (st.err == 0) = true := by rw [he]; rfl
        unfold CountOut
        rw [e1, if_pos he, E2]
        have j2 : ¬ (all.length : Int) - (P : Int) - 2 < (m0 : Int) + 256 * (m1 : Int) := by omega
        have j3 : decide ((all.length : Int) - (P : Int) - 2 < (m0 : Int) + 256 * (m1 : Int)) = false := decide_eq_false j2
        have j4 : ¬ (all.length : Int) - (P : Int) < 2 := by omega
        have HC2 := Lib.hid hc2
        clear X he HLE hl e1 h2 hb hp hc2 hn E2 WR
        go_enter Try.func82, Try.ntmps82
        go_wp2_with fail
        go_quiet (fail)
        go_wp2_with fail
        obtain ⟨w1, hw1⟩ : ∃ w1, w1 = w.drewN nq := ⟨_, rfl⟩
        have c0 : w1.cell? ⟨r, 0, none⟩ = some (.slice (some ⟨b, o, none⟩) all.length c) := by rw [hw1]; exact c0
        have c1 : w1.cell? ⟨r, 1, none⟩ = some (.int .i64 P) := by rw [hw1]; exact c1
        have q0 : w1.cell? ⟨b, o + P, none⟩ = some (.int .u8 m0) := by rw [hw1]; exact q0
        have q1 : w1.cell? ⟨b, o + (P + 1), none⟩ = some (.int .u8 m1) := by rw [hw1, ← Nat.add_assoc]; exact q1
        have H1 : Hid (Vd w1 r T st ∧ Kept [r] w w1) := by
          rw [hw1]
          exact ⟨h.out.kept ((Kept.refl [] w).drewN _) (by simp) (fun _ _ hm => by cases hm), (Kept.refl [r] w).drewN _⟩
        rw [← hw1]
        clear hw1
        go_region
        all_goals
          go_wp2_with fail
          go_ret2
          refine ⟨?_, H1.out.1.kept (Kept.refl [] w1).drew (by simp) (fun _ _ hm => by cases hm), H1.out.2.trans (Kept.refl [] w1).drew (fun _ hm => by cases hm)⟩
          rw [HC2.out]
          rfl
  · have E : (st.err != 0) = true := by simpa using he
    have E2 : (st.err == 0) = false := by simpa using he
    have e1 := RS.counted_bad he
    unfold CountOut
    rw [e1, if_neg he, E2]
    clear X he hl e1 HLE hp
    go_enter Try.func82, Try.ntmps82
    go_wp2_with fail
    go_ret2
    exact ⟨rfl, h, Kept.refl _ _⟩
end Vrd
end Go.Proofs.Ytfdbpbhihccgbaa
end

section
namespace Go.Proofs.Ytfdbpbhihccgbaa
set_option linter.unusedVariables false
open Go.RowKit

/-- A slice of a slice, its address under one name. -/
theorem slice_at (b o L c lo hi : Nat) (h1 : lo ≤ hi) (h2 : hi ≤ c) (x y : Int) (hx : x = lo) (hy : y = hi) :
    ∃ ad : Addr, (ad = ⟨b, o, none⟩ ∧ c = lo ∨ ad = ⟨b, o + lo, none⟩) ∧ ∀ w, (Instr.slice 37 (.slice (some ⟨b, o, none⟩) L c) (some (.int .i64 x)) (some (.int .i64 y)) none).run Try.prog w = .ok (.slice (some ad) (hi - lo) (c - lo)) w := by
  subst hx hy
  refine ⟨if c = lo then ⟨b, o, none⟩ else ⟨b, o + lo, none⟩, ?_, fun w => ?_⟩
  · split
    · rename_i h; exact Or.inl ⟨rfl, h⟩
    · exact Or.inr rfl
  · rw [run_slice_lh w 37 (some ⟨b, o, none⟩) L c (by kernel_rfl) .i64 .i64 lo hi (by omega) (by omega) (by omega)]
    have e : ∀ w, (sizeOf (Try.prog.elem 37)).run Try.prog w = .ok 1 w := fun w => by kernel_rfl
    rw [e]
    simp only [Result.andThen, sliced, Int.toNat_natCast, Nat.mul_one]
    congr 2
    split
    · rfl
    · simp [Addr.add]

/-- What stands there. -/
theorem Seg.piece {w : World} {b o c : Nat} {all : List UInt8} {T : List Nat} (h : Seg w (.slice (some ⟨b, o, none⟩) all.length c) all T) (lo n : Nat) (hn : lo + n ≤ all.length) (ad : Addr) (ha : ad = ⟨b, o, none⟩ ∧ c = lo ∨ ad = ⟨b, o + lo, none⟩) :
    Seg w (.slice (some ad) n (c - lo)) ((all.drop lo).take n) T := by
  have h1 := h.drop (n := lo) (by omega) ad (by rcases ha with ⟨a1, a2⟩ | a1; exact Or.inl ⟨a1, a2⟩; exact Or.inr a1)
  obtain ⟨b', o', c', e1, e2, e3, e4⟩ : ∃ b' o' c', Value.slice (some ad) (all.length - lo) (c - lo) = .slice (some ⟨b', o', none⟩) (all.drop lo).length c' ∧ (all.drop lo).length ≤ c' ∧ (0 < (all.drop lo).length → b' ∈ T) ∧ ∀ j u, ((all.drop lo).map bv)[j]? = some u → w.cell? ⟨b', o' + j, none⟩ = some u := by
    rcases h1 with ⟨q, _⟩ | q
    · cases q
    · exact q
  have el : (all.drop lo).length = all.length - lo := List.length_drop
  rw [← el] at h1 e1
  simp only [Value.slice.injEq, true_and, Option.some.injEq] at e1
  obtain ⟨rfl, rfl⟩ := e1
  have h2 := h1.take (n := n) (by rw [el]; omega)
  exact h2

theorem Vx.vcase {w : World} {r : Nat} {T : List Nat} {st : RS} {v : Value} {all : List UInt8} {P B : Nat} (X : Vx w r T st v all P B) (h : 0 < st.left.length) : ∃ b o c, v = .slice (some ⟨b, o, none⟩) all.length c ∧ all.length ≤ c := by
  have hl := X.len
  rcases X.seg with ⟨_, hnil⟩ | ⟨b, o, c, h1, h2, _⟩
  · rw [hnil, List.length_nil] at hl; omega
  · exact ⟨b, o, c, h1, h2⟩
theorem RS.piece_eq {st : RS} (he : st.counted.err = 0) : st.counted = st ∧ st.err = 0 ∧ 2 + st.cnt ≤ st.left.length ∧ st.piece = (st.left.drop 2).take st.cnt ∧ st.piece.length = st.cnt := by
  obtain ⟨q1, q2, q3, q4, q5, _⟩ := Rdr.RS.counted_zero he
  exact ⟨q1, q2, by omega, q4, q5⟩

namespace Vrd
open Go.Proofs.Ytfdbpbhihccgbaa.Txt

def TextOut (w : World) (r : Nat) (T : List Nat) (st : RS) (e : Ending) (w' : World) : Prop := e = .returned (.string st.said) ∧ Hid (Vd w' r T st.text) ∧ Kept [r] w w'

set_option maxHeartbeats 2000000 in
theorem text_any (w : World) (r : Nat) (T : List Nat) (st : RS) (hb : st.pos + st.left.length ≤ 1152921504) (h : Hid (Vd w r T st)) :
    Calls Try.prog 48 #[.pointer (some ⟨r, 0, none⟩)] w (TextOut w r T st) := by
  have CN := Lib.hid (counted_any w r T st hb h)
  have hrT : Hid (∀ k ∈ T, k ∉ [r]) := by
    obtain ⟨v, all, P, B, X⟩ := h.out
    exact fun k hk hm => by simp at hm; exact X.out (hm ▸ hk)
  unfold CountOut at CN
  unfold TextOut
  by_cases he : st.counted.err = 0
  · obtain ⟨q1, q2, q3, q4, q5⟩ := RS.piece_eq he
    have hcl := RS.cnt_lt st
    rw [q1, if_pos q2, show (st.err == 0) = true from by rw [q2]; rfl] at CN
    have hsz := Rdr.str_size st.piece
    have hbl := Utf.bad_le (str st.piece)
    have e1 : Utf.good (str st.piece) = true → st.text = { st with left := st.left.drop (2 + st.cnt), pos := st.pos + (2 + st.cnt) } ∧ st.said = str st.piece := fun hg => by
      unfold RS.text RS.said
      rw [if_neg (by omega), if_neg (by simp [hg]), if_neg (by omega), if_neg (by simp [hg]), q1, q5]
      refine ⟨?_, rfl⟩
      unfold RS.next
      rw [if_neg (by omega), if_neg (by omega)]
    have e2 : Utf.good (str st.piece) = false → st.text = { st with err := 12, bad := st.pos + (2 + Utf.bad (str st.piece)) } ∧ st.said = str [] := fun hg => by
      unfold RS.text RS.said
      rw [if_neg (by omega), if_pos hg, if_neg (by omega), if_pos hg, q1]
      refine ⟨?_, rfl⟩
      unfold RS.failAt
      rw [if_pos ⟨q2, by decide⟩, Nat.add_assoc]
    have hgb : (Utf.good (str st.piece) = true ∧ ¬ Utf.bad (str st.piece) < (str st.piece).size) ∨ (Utf.good (str st.piece) = false ∧ Utf.bad (str st.piece) < (str st.piece).size) := by
      cases hg : Utf.good (str st.piece)
      · exact Or.inr ⟨rfl, by have := of_decide_eq_false hg; omega⟩
      · exact Or.inl ⟨rfl, by have := of_decide_eq_true hg; omega⟩
    have SEGP : Hid (∀ w1 v all P B, Vx w1 r T st v all P B → ∃ b o c, v = .slice (some ⟨b, o, none⟩) all.length c ∧ all.length ≤ c ∧ ∀ ad, (ad = ⟨b, o, none⟩ ∧ c = P + 2 ∨ ad = ⟨b, o + (P + 2), none⟩) → Seg w1 (.slice (some ad) st.cnt (c - (P + 2))) st.piece T) := fun w1 v all P B X => by
      obtain ⟨b, o, c, rfl, hc⟩ := X.vcase (by omega)
      refine ⟨b, o, c, rfl, hc, fun ad ha => ?_⟩
      have hl := X.len
      have := X.seg.piece (P + 2) st.cnt (by omega) ad ha
      rwa [← List.drop_drop, ← X.left, ← q4] at this
    obtain ⟨n, hn⟩ : ∃ n, n = st.cnt := ⟨_, rfl⟩
    obtain ⟨s, hs⟩ : ∃ s, s = str st.piece := ⟨_, rfl⟩
    rw [← hn] at CN q3 q5 hcl e1 SEGP
    rw [← hs] at hsz hbl e1 e2 hgb
    have HS := Lib.hid hs
    have hss : s.size = n := by omega
    have hsm : s.size ≤ 65535 := by omega
    have E1 := Lib.hid e1
    have E2 := Lib.hid e2
    have Q3 := Lib.hid q3
    have HGB := Lib.hid hgb
    obtain ⟨ub, hub⟩ : ∃ u, u = Utf.bad s := ⟨_, rfl⟩
    rw [← hub] at E2 HGB hbl
    have BAD : Hid (∀ w, Calls Try.prog 83 #[.string s] w fun e w' => e = .returned (.int .i64 ub) ∧ w = w') := fun w => by
      rw [hub]
      exact bad_any s w (by omega)
    clear q4 q5 hsz hs e1 e2 hgb he q1 hn hub
    go_enter Try.func48, Try.ntmps48
    go_wp2_with fail
    refine CN.out.mono ?_
    rintro e w1 ⟨rfl, h1, k1⟩
    obtain ⟨v, all, P, B, X⟩ := h1.out
    have X1 := Lib.hid X
    have hl := X.len
    have hp := X.pos
    obtain ⟨b, o, c, rfl, hc, hsg⟩ := SEGP.out _ _ _ _ _ X
    obtain ⟨c0, c1, c2, c3, c4, fz⟩ := five X.at'
    have f1 := fz 1
    obtain ⟨ad, had, hsl⟩ := slice_at b o all.length c (P + 2) (P + 2 + n) (by omega) (by omega) ((P : Int) + 2) ((P : Int) + 2 + (n : Int)) (by omega) (by omega)
    have en : P + 2 + n - (P + 2) = n := by omega
    rw [en] at hsl
    have SG : Hid (∀ w2, Kept [] w1 w2 → (convert 37 9 (.slice (some ad) n (c - (P + 2)))).run Try.prog w2 = .ok (.string s) w2) := fun w2 k => by
      rw [HS.out]
      exact Rdr.conv_seg ((hsg ad had).kept k (fun _ _ hm => by cases hm))
    have hcv := SG.out w1.drew (Kept.refl [] w1).drew
    have t1 : IntKind.i64.wrap ((P : Int) + 2) = (P : Int) + 2 := IntWalk.i64_in _ (by omega)
    have t2 : IntKind.i64.wrap ((P : Int) + 2 + (n : Int)) = (P : Int) + 2 + (n : Int) := IntWalk.i64_in _ (by omega)
    have HB : P + 2 + n ≤ 1152921504 ∧ ub ≤ 65535 ∧ st.pos + (2 + ub) ≤ 1152921504606846976 := by omega
    have HL := Lib.hid hl
    have K1 := Lib.hid k1
    clear X hl hp SEGP had hsg CN en SG fz k1 hc hss hsm h q2 q3
    obtain ⟨hB1, hB2, hB3⟩ := HB
    go_wp2_with fail
    go_region
    all_goals
      have K2 : Hid (Kept [r] w w1.drew) := K1.out.drew
      have h2 : Hid (Vd w1.drew r T st) := h1.out.kept (Kept.refl [] w1).drew (by simp) (fun _ _ hm => by cases hm)
      obtain ⟨w2, hw2⟩ : ∃ w2, w2 = w1.drew := ⟨_, rfl⟩
      have X2 : Hid (Vx w2 r T st (.slice (some ⟨b, o, none⟩) all.length c) all P B) := by rw [hw2]; exact X1.out.kept (Kept.refl [] w1).drew (by simp) (fun _ _ hm => by cases hm)
      rw [← hw2] at K2 h2 ⊢
      clear hw2 hsl hcv c0 c1 c2 c3 c4 f1
      obtain ⟨c0, c1, c2, c3, c4, fz⟩ := five X2.out.at'
      have f1 := fz 1
      clear fz
    · go_wp2_with fail
      refine (BAD.out _).mono ?_
      rintro e w3 ⟨rfl, rfl⟩
      rcases HGB.out with ⟨hg, hlt⟩ | ⟨hg, hlt⟩
      · obtain ⟨g1, g2⟩ := E1.out hg
        have G1 := Lib.hid g1
        have G2 := Lib.hid g2
        have hlt' : ¬ (ub : Int) < (s.size : Int) := by omega
        clear hg g1 g2 hlt
        go_wp2_with fail
        go_ret
        obtain ⟨g1', g2'⟩ := gone_on (n := 2 + n) (q := (P : Int) + 2 + (n : Int)) X2.out (Kept.refl [] w2) (by omega) Q3.out
        exact ⟨Txt.ret_str G2.out.symm, by rw [G1.out]; exact g1', K2.out.trans g2' (fun i hi => Or.inl hi)⟩
      · obtain ⟨g1, g2⟩ := E2.out hg
        have G1 := Lib.hid g1
        have G2 := Lib.hid g2
        have hlt' : (ub : Int) < (s.size : Int) := by omega
        have WR := Lib.hid (wrong_any w2 r T st 12 (2 + (ub : Int)) (2 + ub) (by omega) hB3 h2)
        rw [← G1.out] at WR
        clear hg g1 g2 hlt
        go_wp2_with fail
        refine WR.out.mono ?_
        rintro e w3 ⟨rfl, h3, k3⟩
        go_wp2_with fail
        go_ret
        exact ⟨Txt.ret_str (by rw [G2.out]; rfl), h3, K2.out.trans k3 (fun i hi => Or.inl hi)⟩
  · have e1 : st.text = st.counted := by unfold RS.text; rw [if_pos he]
    have e2 : st.said = str [] := by unfold RS.said; rw [if_pos he]
    rw [if_neg he, show (st.counted.err == 0) = false from by simpa using he, ← e1] at CN
    have E2 := Lib.hid e2
    clear he e1 e2
    go_enter Try.func48, Try.ntmps48
    go_wp2_with fail
    refine CN.out.mono ?_
    rintro e w1 ⟨rfl, h1, k1⟩
    go_wp2_with fail
    go_ret
    exact ⟨Txt.ret_str (by rw [E2.out]; rfl), h1, k1⟩
end Vrd
end Go.Proofs.Ytfdbpbhihccgbaa
end

namespace Go.Proofs.Ytfdbpbhihccgbaa
set_option linter.unusedVariables false
open Go.RowKit
namespace Vrd
open Go.Proofs.Ytfdbpbhihccgbaa.Txt

def PartOut (w : World) (r : Nat) (T : List Nat) (st : RS) (e : Ending) (w' : World) : Prop :=
  ∃ q U, e = .returned (.pointer (some ⟨q, 0, none⟩)) ∧ (∀ k ∈ q :: U, w.heap.size ≤ k ∧ k < w'.heap.size) ∧ Hid (Vd w' q U st.part) ∧ Hid (Vd w' r T st.past) ∧ Kept [r] w w'

/-- A reader that was made. -/
theorem laid {w : World} {v : Value} {bs : List UInt8} {B : Nat} {st : RS} {p e b : Int} (O : Wrt.Own w B v bs) (hl : st.left = bs) (hp : p = (st.pos : Int)) (he : e = st.err) (hb : b = (st.bad : Int)) :
    Vd (w.alloc (.cells #[v, .int .i64 0, .int .i64 p, .int .i64 e, .int .i64 b] 88)) w.heap.size v.ownBlock.toList st := by
  subst hp he hb
  have hk : Kept [] w (w.alloc (.cells #[v, .int .i64 0, .int .i64 (st.pos : Int), .int .i64 st.err, .int .i64 (st.bad : Int)] 88)) := (Kept.refl _ _).alloc _
  refine ⟨v, bs, 0, st.pos, heap_alloc_new w _, (Seg.of_own O).kept hk (fun _ _ hm => by cases hm), fun hm => ?_, by rw [hl]; rfl, Nat.zero_le _, rfl⟩
  have := (O.lt w.heap.size (by simpa using hm)).2
  omega

set_option maxHeartbeats 4000000 in
set_option maxRecDepth 100000 in
theorem part_any (w : World) (r : Nat) (T : List Nat) (st : RS) (hb : st.pos + st.left.length ≤ 1152921504) (h : Hid (Vd w r T st)) :
    Calls Try.prog 49 #[.pointer (some ⟨r, 0, none⟩)] w (PartOut w r T st) := by
  have CN := Lib.hid (counted_any w r T st hb h)
  have hrT : Hid (∀ k ∈ T, k ∉ [r]) := by
    obtain ⟨v, all, P, B, X⟩ := h.out
    exact fun k hk hm => by simp at hm; exact X.out (hm ▸ hk)
  have hrl : r < w.heap.size := h.out.lt
  unfold CountOut at CN
  unfold PartOut
  by_cases he : st.counted.err = 0
  · obtain ⟨q1, q2, q3, q4, q5⟩ := RS.piece_eq he
    obtain ⟨i0, hi, hz0, hz1, hz2⟩ := info_parts Wrt.info5
    have hcl := RS.cnt_lt st
    rw [q1, if_pos q2, show (st.err == 0) = true from by rw [q2]; rfl] at CN
    have e1 : st.past = { st with left := st.left.drop (2 + st.cnt), pos := st.pos + (2 + st.cnt) } := by
      unfold RS.past
      rw [if_neg (by omega), q1, q5]
      unfold RS.next
      rw [if_neg (by omega), if_neg (by omega)]
    have e2 : st.part = ⟨st.piece, st.pos + 2, 0, 0⟩ := by
      unfold RS.part
      rw [if_neg (by omega), e1, q5]
      have e3 : st.pos + (2 + st.cnt) - st.cnt = st.pos + 2 := by omega
      simp only [e3]
    have SEGP : Hid (∀ w1 v all P B, Vx w1 r T st v all P B → ∃ b o c, v = .slice (some ⟨b, o, none⟩) all.length c ∧ all.length ≤ c ∧ ∀ ad, (ad = ⟨b, o, none⟩ ∧ c = P + 2 ∨ ad = ⟨b, o + (P + 2), none⟩) → Seg w1 (.slice (some ad) st.cnt (c - (P + 2))) st.piece T) := fun w1 v all P B X => by
      obtain ⟨b, o, c, rfl, hc⟩ := X.vcase (by omega)
      refine ⟨b, o, c, rfl, hc, fun ad ha => ?_⟩
      have hl := X.len
      have := X.seg.piece (P + 2) st.cnt (by omega) ad ha
      rwa [← List.drop_drop, ← X.left, ← q4] at this
    have NL : Hid ((st.piece.map bv).length = st.cnt * 1) := by show _ = _; simp [q5]
    have ONE : Hid (∀ u ∈ st.piece.map bv, u.oneCell' = true) := fun u hu => by obtain ⟨x, _, rfl⟩ := List.mem_map.1 hu; rfl
    have SRCP : Hid (∀ w1 ad c, Seg w1 (.slice (some ad) st.cnt c) st.piece T → Zb.RowSrc w1 (.slice (some ad) st.cnt c) st.cnt (st.piece.map bv)) := fun w1 ad c sg => by
      have := sg.src.news
      rwa [q5] at this
    obtain ⟨n, hn⟩ : ∃ n, n = st.cnt := ⟨_, rfl⟩
    rw [← hn] at CN q3 q5 hcl e1 SEGP NL SRCP
    obtain ⟨news, hnews⟩ : ∃ l, l = st.piece.map bv := ⟨_, rfl⟩
    rw [← hnews] at NL ONE SRCP
    have HNW := Lib.hid hnews
    have Q3 := Lib.hid q3
    have Q5 := Lib.hid q5
    have E1 := Lib.hid e1
    have E2 := Lib.hid e2
    clear q4 q5 e1 e2 he q1 hn hnews
    go_enter Try.func49, Try.ntmps49
    go_wp2_with fail
    refine CN.out.mono ?_
    rintro e w1 ⟨rfl, h1, k1⟩
    obtain ⟨v, all, P, B, X⟩ := h1.out
    have X1 := Lib.hid X
    have hl := X.len
    have hp := X.pos
    obtain ⟨b, o, c, rfl, hc, hsg⟩ := SEGP.out _ _ _ _ _ X
    obtain ⟨c0, c1, c2, c3, c4, fz⟩ := five X.at'
    have f1 := fz 1
    obtain ⟨ad, had, hsl⟩ := slice_at b o all.length c (P + 2) (P + 2 + n) (by omega) (by omega) ((P : Int) + 2) ((P : Int) + 2 + (n : Int)) (by omega) (by omega)
    have en : P + 2 + n - (P + 2) = n := by omega
    rw [en] at hsl
    have KD : Hid (Kept [] w1 w1.drew) := (Kept.refl [] w1).drew
    have SRC : Hid (Zb.RowSrc w1.drew (.slice (some ad) n (c - (P + 2))) n news) := SRCP.out _ _ _ ((hsg ad had).kept KD.out (fun _ _ hm => by cases hm))
    have t1 : IntKind.i64.wrap ((P : Int) + 2) = (P : Int) + 2 := IntWalk.i64_in _ (by omega)
    have t2 : IntKind.i64.wrap ((P : Int) + 2 + (n : Int)) = (P : Int) + 2 + (n : Int) := IntWalk.i64_in _ (by omega)
    have t3 : IntKind.i64.wrap ((B : Int) + (P : Int)) = (B : Int) + (P : Int) := IntWalk.i64_in _ (by omega)
    have t4 : IntKind.i64.wrap ((B : Int) + (P : Int) + 2) = (B : Int) + (P : Int) + 2 := IntWalk.i64_in _ (by omega)
    have K1 := Lib.hid k1
    have ML : n ≤ 65535 := hcl
    have HP := Lib.hid hp
    clear X hl hp SEGP had hsg CN en SRCP fz k1 hc h q2 q3
    go_upto_region 5 with (fail)
    go_cut [5] from 28 to 46 (fun s5 wx => ∃ a4 c4, s5 = .slice a4 n c4 ∧ Hid (Wrt.Own wx w1.heap.size (.slice a4 n c4) st.piece) ∧ Hid (Kept [] w1 wx))
    case first =>
      go_region_law (refine Zb.step_append_src w1.drew rfl (.tmp 28) (.tmp 45) 37 rfl w1.heap.size 5 i0 (.int .u8 0) 1 1 Try.underlying37 hi hz0 hz1 hz2 rfl (by decide) (.slice none 0 0) 0 [] (by simp [Act.eval, Act.put]) (World.ownsRow_nil _ _ _ _) (.slice (some ad) n (c - (P + 2))) n news (by simp [Act.eval, Act.put]) SRC.out NL.out ONE.out (by unfold maxLen; omega) (by omega) KD.out.size ?_; intro v4 w4 hown4 hgrow4 hat4; have O4 := Lib.hid hown4; have K4 := Lib.hid (KD.out.grown hgrow4 (fun k e => by cases e)); have X4 : Hid (Vx w4 r T st (.slice (some ⟨b, o, none⟩) all.length c) all P B) := X1.out.kept K4.out (by simp) (fun _ _ hm => by cases hm); obtain ⟨d0, d1, d2, d3, d4, fz⟩ := five X4.out.at'; have g1 := fz 1; obtain ⟨a4, c4', rfl⟩ := Zb.own_slice hown4; clear hown4 hgrow4 hat4 fz)
      all_goals
        rw [Nat.zero_add] at O4
        go_wp2_with fail
        go_meet
        case rel =>
          refine ⟨a4, c4', rfl, ?_, K4⟩
          have h := O4.out
          rw [List.nil_append, HNW.out] at h
          unfold Wrt.Own
          rw [Q5.out]
          exact h
    case rest =>
      obtain ⟨a4, k4, rfl, O4, K4⟩ := hcut
      have X4 : Hid (Vx wc r T st (.slice (some ⟨b, o, none⟩) all.length c) all P B) := X1.out.kept K4.out (by simp) (fun _ _ hm => by cases hm)
      obtain ⟨d0, d1, d2, d3, d4, fz⟩ := five X4.out.at'
      have g1 := fz 1
      have hrc : ¬ wc.heap.size = r := by have := K4.out.size; have := K1.out.size; omega
      have hrd : ¬ r = wc.heap.size := by omega
      clear fz c0 c1 c2 c3 c4 f1 hsl SRC
      go_wp2_with fail
      go_region
      all_goals
        obtain ⟨w5, hw5⟩ : ∃ w5, w5 = (wc.alloc (.cells #[.slice a4 n k4, .int .i64 0, .int .i64 ((B : Int) + (P : Int) + 2), .int .i64 0, .int .i64 0] 88)).drew := ⟨_, rfl⟩
        have K5 : Hid (Kept [] wc w5) := by rw [hw5]; exact ((Kept.refl [] wc).alloc _).drew
        have N5 : Hid (Vd w5 wc.heap.size (Value.slice a4 n k4).ownBlock.toList st.part) := by
          rw [hw5, E2.out]
          exact (laid (st := ⟨st.piece, st.pos + 2, 0, 0⟩) O4.out rfl (by rw [HP.out]; rfl) rfl rfl).kept (Kept.refl [] _).drew (by simp) (fun _ _ hm => by cases hm)
        have S5 : Hid (wc.heap.size < w5.heap.size) := by rw [hw5]; show _ < _; simp
        have X5 : Hid (Vx w5 r T st (.slice (some ⟨b, o, none⟩) all.length c) all P B) := X4.out.kept K5.out (by simp) (fun _ _ hm => by cases hm)
        rw [← hw5]
        clear hw5 d0 d1 d2 d3 d4 g1
        obtain ⟨d0, d1, d2, d3, d4, fz⟩ := five X5.out.at'
        have g1 := fz 1
        clear fz
        go_wp2_with fail
        go_ret
        obtain ⟨g1', g2'⟩ := gone_on (n := 2 + n) (q := (P : Int) + 2 + (n : Int)) X5.out (Kept.refl [] w5) (by omega) Q3.out
        have z1 := K1.out.size
        have z4 := K4.out.size
        have z5 := S5.out
        have hob := O4.out.lt
        refine ⟨wc.heap.size, (Value.slice a4 n k4).ownBlock.toList, rfl, fun k hk => ?_, ?_, by rw [E1.out]; exact g1', ((K1.out.trans K4.out (fun _ hm => by cases hm)).trans K5.out (fun _ hm => by cases hm)).trans g2' (fun i hi => Or.inl hi)⟩
        · have e6 : (w5.setCell ⟨r, 1, none⟩ (.int .i64 ((P : Int) + 2 + (n : Int)))).heap.size = w5.heap.size := by simp [World.setCell]
          rw [e6]
          rcases List.mem_cons.1 hk with rfl | hk
          · omega
          · have := hob k (by simpa using hk)
            omega
        · refine N5.out.kept g2' (by simp; omega) (fun k hk hm => ?_)
          have := hob k (by simpa using hk)
          simp at hm
          omega
  · have e1 : st.past = st.counted := by unfold RS.past; rw [if_pos he]
    have e2 : st.part = ⟨[], st.counted.bad, st.counted.err, st.counted.bad⟩ := by unfold RS.part; rw [if_pos he]
    rw [if_neg he, show (st.counted.err == 0) = false from by simpa using he] at CN
    have E1 := Lib.hid e1
    have E2 := Lib.hid e2
    clear he e1 e2
    go_enter Try.func49, Try.ntmps49
    go_wp2_with fail
    refine CN.out.mono ?_
    rintro e w1 ⟨rfl, h1, k1⟩
    obtain ⟨v, all, P, B, X⟩ := h1.out
    obtain ⟨c0, c1, c2, c3, c4, fz⟩ := five X.at'
    have K1 := Lib.hid k1
    clear X fz k1
    go_wp2_with fail
    go_region
    all_goals
      go_wp2_with fail
      go_ret
    all_goals
      have KA : Kept [] w1 ((w1.alloc (.cells #[.slice none 0 0, .int .i64 0, .int .i64 st.counted.bad, .int .i64 st.counted.err, .int .i64 st.counted.bad] 88)).drew) := ((Kept.refl _ _).alloc _).drew
      have O : Wrt.Own w1 w1.heap.size (.slice none 0 0) [] := World.ownsRow_nil _ _ _ _
      refine ⟨w1.heap.size, [], rfl, fun k hk => ?_, ?_, ?_, K1.out.trans KA (fun _ hm => by cases hm)⟩
      · have := K1.out.size
        obtain rfl : k = w1.heap.size := by simpa using hk
        exact ⟨this, by simp⟩
      · rw [E2.out]
        exact (laid (st := ⟨[], st.counted.bad, st.counted.err, st.counted.bad⟩) O rfl rfl rfl rfl).kept (Kept.refl [] _).drew (by simp) (fun _ hm => by cases hm)
      · rw [E1.out]
        exact h1.out.kept KA (by simp) (fun _ _ hm => by cases hm)
end Vrd
end Go.Proofs.Ytfdbpbhihccgbaa
