/- What the law's done does: both writers tell the same, asked twice; the book has two lists more. Two writers and a book side by side. -/
import Derived.Test.YtfdbpbhihccgbaaKpt
import Derived.Test.YtfdbpbhihccgbaaBkl
import Derived.Test.YtfdbpbhihccgbaaTwo
namespace Go.Proofs.Ytfdbpbhihccgbaa
set_option linter.unusedVariables false
open Go.RowKit

/-- What Done tells: the bytes, and what is wrong. -/
def WS.toldB (st : WS) : List UInt8 := if st.err = 0 ∧ st.os = [] then st.bs else []
def WS.toldE (st : WS) : Nat := if st.err ≠ 0 then st.err else if st.os = [] then 0 else 1
def DoneOut (w : World) (bs : List UInt8) (n : Nat) (e : Ending) (w' : World) : Prop := ∃ v', e = .returned (.tuple #[v', .int .i64 n]) ∧ Hid (Wrt.Own w' w.heap.size v' bs) ∧ Hid (Kept [] w w')
theorem WS.told_cases (st : WS) : (st.err ≠ 0 ∧ st.toldB = [] ∧ st.toldE = st.err) ∨ (st.err = 0 ∧ 0 < st.os.length ∧ st.toldB = [] ∧ st.toldE = 1) ∨ (st.err = 0 ∧ st.os = [] ∧ st.toldB = st.bs ∧ st.toldE = 0) := by
  unfold WS.toldB WS.toldE
  by_cases he : st.err = 0
  · by_cases ho : st.os = []
    · right; right
      refine ⟨he, ho, ?_, ?_⟩
      · rw [if_pos ⟨he, ho⟩]
      · rw [if_neg (by omega), if_pos ho]
    · right; left
      refine ⟨he, List.length_pos_iff.2 ho, ?_, ?_⟩
      · rw [if_neg (fun h => ho h.2)]
      · rw [if_neg (by omega), if_neg ho]
  · left
    refine ⟨he, ?_, ?_⟩
    · rw [if_neg (fun h => he h.1)]
    · rw [if_pos he]
theorem Wrt.done_any (w : World) (p : Nat) (S : List Nat) (st : WS) (ok : Hid st.Ok) (h : Hid (Wr 77 w p S st)) : Calls Try.prog 28 #[.pointer (some ⟨p, 0, none⟩)] w (DoneOut w st.toldB st.toldE) := by
  have k1 := ok.out.lim
  have k2 := ok.out.bs
  rcases st.told_cases with ⟨h1, h2, h3⟩ | ⟨h1, h4, h2, h3⟩ | ⟨h1, h4, h2, h3⟩
  · refine (Wrt.done_wrong w p S st h1 h).mono ?_
    rintro e w' ⟨rfl, hk⟩
    exact ⟨_, by rw [h3], by rw [h2]; exact World.ownsRow_nil _ _ _ _, hk⟩
  · refine (Wrt.done_open w p S st h1 h4 h).mono ?_
    rintro e w' ⟨rfl, hk⟩
    exact ⟨_, by rw [h3]; rfl, by rw [h2]; exact World.ownsRow_nil _ _ _ _, hk⟩
  · refine (Wrt.done_good w p S st h1 h4 (by omega) h).mono ?_
    rintro e w' ⟨v, rfl, ho, hk⟩
    exact ⟨v, by rw [h3]; rfl, by rw [h2]; exact ho, hk⟩
theorem Vrt.done_any (w : World) (p : Nat) (S : List Nat) (st : WS) (ok : Hid st.Ok) (h : Hid (Wr 79 w p S st)) : Calls Try.prog 43 #[.pointer (some ⟨p, 0, none⟩)] w (DoneOut w st.toldB st.toldE) := by
  have k1 := ok.out.lim
  have k2 := ok.out.bs
  rcases st.told_cases with ⟨h1, h2, h3⟩ | ⟨h1, h4, h2, h3⟩ | ⟨h1, h4, h2, h3⟩
  · refine (Vrt.done_wrong w p S st h1 h).mono ?_
    rintro e w' ⟨rfl, hk⟩
    exact ⟨_, by rw [h3], by rw [h2]; exact World.ownsRow_nil _ _ _ _, hk⟩
  · refine (Vrt.done_open w p S st h1 h4 h).mono ?_
    rintro e w' ⟨rfl, hk⟩
    exact ⟨_, by rw [h3]; rfl, by rw [h2]; exact World.ownsRow_nil _ _ _ _, hk⟩
  · refine (Vrt.done_good w p S st h1 h4 (by omega) h).mono ?_
    rintro e w' ⟨v, rfl, ho, hk⟩
    exact ⟨v, by rw [h3]; rfl, by rw [h2]; exact ho, hk⟩

/-- Writers and book. -/
structure Play (w : World) (p q : Nat) (S R : List Nat) (st sv : WS) (k : Nat) (B : List Nat) (n : Nat) : Prop where
  two : Two w p q S R st sv
  book : Bkl w k B n
  apart : ∀ i ∈ B, i ∉ S ++ R
def PlayOut (w : World) (p q : Nat) (S R : List Nat) (k : Nat) (B : List Nat) (st sv : WS) (n : Nat) (w' : World) : Prop :=
  ∃ S' R' B', Hid (Play w' p q S' R' st sv k B' n) ∧ Hid (Kept ((S ++ R) ++ B) w w') ∧ Hid (∀ i ∈ (S' ++ R') ++ B', i ∈ (S ++ R) ++ B ∨ w.heap.size ≤ i)

theorem Play.lt {w : World} {p q : Nat} {S R : List Nat} {st sv : WS} {k : Nat} {B : List Nat} {n : Nat} (h : Play w p q S R st sv k B n) : ∀ i ∈ (S ++ R) ++ B, i < w.heap.size := by
  intro i hi
  rcases List.mem_append.1 hi with m | m
  · exact h.two.lt i m
  · exact h.book.lt i m
theorem Play.kept {w w' : World} {p q : Nat} {S R T : List Nat} {st sv : WS} {k : Nat} {B : List Nat} {n : Nat} (h : Play w p q S R st sv k B n) (hk : Kept T w w') (hd : ∀ i ∈ (S ++ R) ++ B, i ∉ T) : Play w' p q S R st sv k B n := by
  exact ⟨h.two.kept hk (fun i hi => hd i (List.mem_append_left _ hi)), h.book.kept hk (fun i hi => hd i (List.mem_append_right _ hi)), h.apart⟩
theorem Play.same {w w' : World} {p q : Nat} {S R : List Nat} {st sv : WS} {k : Nat} {B : List Nat} {n : Nat} (h : Play w p q S R st sv k B n) (hk : Kept [] w w') : PlayOut w p q S R k B st sv n w' :=
  ⟨S, R, B, h.kept hk (fun i _ hm => by simp at hm), hk.mono (fun i hi => by simp at hi), fun i hi => Or.inl hi⟩
theorem Play.of_two {w w' : World} {p q : Nat} {S R : List Nat} {st st' sv sv' : WS} {k : Nat} {B : List Nat} {n : Nat} (h : Play w p q S R st sv k B n) (ho : TwoOut w p q S R st' sv' w') : PlayOut w p q S R k B st' sv' n w' := by
  obtain ⟨S', R', h1, h2, h3⟩ := ho
  have hl := h.book.lt
  refine ⟨S', R', B, ⟨h1.out, h.book.kept h2 h.apart, fun i hi hm => ?_⟩, h2.mono (fun i hi => Or.inl (List.mem_append_left _ hi)), fun i hi => ?_⟩
  · rcases h3 i hm with n | n
    · exact h.apart i hi n
    · have := hl i hi; omega
  · rcases List.mem_append.1 hi with m | m
    · rcases h3 i m with n | n
      · exact Or.inl (List.mem_append_left _ n)
      · exact Or.inr n
    · exact Or.inl (List.mem_append_right _ m)
theorem PlayOut.trans {w w1 w2 : World} {p q : Nat} {S R S1 R1 : List Nat} {st sv : WS} {k : Nat} {B B1 : List Nat} {n : Nat} (hk : Kept ((S ++ R) ++ B) w w1) (hs : ∀ i ∈ (S1 ++ R1) ++ B1, i ∈ (S ++ R) ++ B ∨ w.heap.size ≤ i) (h : PlayOut w1 p q S1 R1 k B1 st sv n w2) : PlayOut w p q S R k B st sv n w2 := by
  obtain ⟨S2, R2, B2, h1, h2, h3⟩ := h
  exact ⟨S2, R2, B2, h1, hk.trans h2.out hs, fun i m => by rcases h3.out i m with n | n; exact hs i n; right; have := hk.size; omega⟩

/-- What done answers of both: yes, where they are the same. -/
def DoneBoth (w : World) (p q : Nat) (S R : List Nat) (k : Nat) (B : List Nat) (st sv : WS) (n : Nat) (e : Ending) (w' : World) : Prop :=
  ∃ x : Bool, e = .returned (.bool x) ∧ (st = sv → x = true) ∧ PlayOut w p q S R k B st sv n w'

namespace Two
open Go.Proofs.Ytfdbpbhihccgbaa.Txt

set_option maxHeartbeats 1000000 in
theorem done_any (w : World) (p q : Nat) (S R : List Nat) (st sv : WS) (k : Nat) (B : List Nat) (n : Nat) (hn : n ≤ 150001000) (ok : Hid st.Ok) (okv : Hid sv.Ok) (h : Hid (Play w p q S R st sv k B n)) :
    Calls Try.prog 12 #[.pointer (some ⟨p, 0, none⟩), .pointer (some ⟨q, 0, none⟩), .pointer (some ⟨k, 0, none⟩)] w fun e w' => DoneBoth w p q S R k B st sv (n + 2) e w' := by
  have ha : Hid (Wr 77 w p S st) := h.out.two.a
  have hlt := Lib.hid h.out.lt
  obtain ⟨bs, hbs⟩ : ∃ bs, bs = st.toldB := ⟨_, rfl⟩
  obtain ⟨c, hc⟩ : ∃ c, c = st.toldE := ⟨_, rfl⟩
  have hbl : bs.length ≤ 16777216 := by
    rw [hbs]; unfold WS.toldB
    have := ok.out.lim
    have := ok.out.bs
    split
    · omega
    · simp
  obtain ⟨bs2, hbs2⟩ : ∃ bs, bs = sv.toldB := ⟨_, rfl⟩
  obtain ⟨c2, hc2⟩ : ∃ c, c = sv.toldE := ⟨_, rfl⟩
  have HEQ : Hid (st = sv → bs = bs2 ∧ c = c2) := fun e => by rw [hbs, hc, hbs2, hc2, e]; exact ⟨rfl, rfl⟩
  have WA := fun (w : World) (h : Hid (Wr 77 w p S st)) => Wrt.done_any w p S st ok h
  have VA := fun (w : World) (h : Hid (Wr 79 w q R sv)) => Vrt.done_any w q R sv okv h
  rw [← hbs, ← hc] at WA
  rw [← hbs2, ← hc2] at VA
  have WA' := Lib.hid WA
  have VA' := Lib.hid VA
  clear WA VA hbs hc hbs2 hc2
  have HB : Hid (Bkl w k B n) := h.out.book
  go_enter Try.func12, Try.ntmps12
  go_wp2_with fail
  refine (WA'.out _ ha).mono ?_
  rintro e w1 ⟨v1, rfl, o1, k1⟩
  have hb1 : Hid (Wr 79 w1 q R sv) := h.out.two.b.kept k1.out (fun i _ hm => by simp at hm)
  go_wp2_with fail
  refine (VA'.out _ hb1).mono ?_
  rintro e w2 ⟨v2, rfl, o2, k2⟩
  have o12 := Lib.hid (Zb.ownsRow_kept o1.out k2.out (fun i _ hm => by simp at hm))
  have s1 : Hid (Seg w2 v1 bs v1.ownBlock.toList) := Seg.of_own o12.out
  have s2 : Hid (Seg w2 v2 bs2 v2.ownBlock.toList) := Seg.of_own o2.out
  go_wp2_with fail
  refine (Lst.same_any _ v1 v2 bs bs2 _ _ (by omega) s1 s2).mono ?_
  rintro e w3 ⟨rfl, k3⟩
  have K23 : Hid (Kept [] w2 w3) := k3
  have K3 : Hid (Kept [] w w3) := (k1.out.trans k2.out (fun i hi => by simp at hi)).trans k3 (fun i hi => by simp at hi)
  have o13 := Lib.hid (Zb.ownsRow_kept o12.out k3 (fun i _ hm => by simp at hm))
  have o23 := Lib.hid (Zb.ownsRow_kept o2.out k3 (fun i _ hm => by simp at hm))
  have ha3 : Hid (Wr 77 w3 p S st) := ha.out.kept K3.out (fun i _ hm => by simp at hm)
  obtain ⟨x, hx⟩ : ∃ x : Bool, x = decide (bs = bs2) := ⟨_, rfl⟩
  rw [← hx]
  have HX : Hid (st = sv → x = true) := fun e => by rw [hx]; exact decide_eq_true (HEQ.out e).1
  have hx' := Lib.hid hx
  clear hx
  clear k3
  go_wp2_with fail
  refine (WA'.out _ ha3).mono ?_
  rintro e w4 ⟨v4, rfl, o4, k4⟩
  have o24 := Lib.hid (Zb.ownsRow_kept o23.out k4.out (fun i _ hm => by simp at hm))
  have o14 := Lib.hid (Zb.ownsRow_kept o13.out k4.out (fun i _ hm => by simp at hm))
  have s4 : Hid (Seg w4 v4 bs v4.ownBlock.toList) := Seg.of_own o4.out
  have s24 : Hid (Seg w4 v2 bs2 v2.ownBlock.toList) := Seg.of_own o24.out
  go_wp2_with fail
  refine (Lst.same_any _ v4 v2 bs bs2 _ _ (by omega) s4 s24).mono ?_
  rintro e w5 ⟨rfl, k5⟩
  have K5 : Hid (Kept [] w w5) := (K3.out.trans k4.out (fun i hi => by simp at hi)).trans k5 (fun i hi => by simp at hi)
  have o15 : Hid (Wrt.Own w5 0 v1 bs) := World.ownsRow.mono (Zb.ownsRow_kept o14.out k5 (fun i _ hm => by simp at hm)) (Nat.zero_le _)
  have o45 := Lib.hid (Zb.ownsRow_kept o4.out k5 (fun i _ hm => by simp at hm))
  have HB5 : Hid (Bkl w5 k B n) := HB.out.kept K5.out (fun i _ hm => by simp at hm)
  have V1B : Hid (∀ i, v1.ownBlock = some i → i ∉ B) := fun i hi hm => by
    have h1 := (o1.out.lt i hi).1
    have h2 := hlt.out i (List.mem_append_right _ hm)
    omega
  have V1L : Hid (∀ i, v1.ownBlock = some i → w.heap.size ≤ i ∧ i < w1.heap.size) := fun i hi => o1.out.lt i hi
  rw [← hx'.out]
  clear k5
  go_wp2_with fail
  refine (Bkl.owns_any _ k B n v1 bs (by omega) (by omega) o15 V1B HB5).mono ?_
  rintro e w6 ⟨rfl, B6, b6, k6', t6⟩
  have k6 := k6'.out
  have T6 := Lib.hid t6.out
  have K6 := Lib.hid k6
  have hz3 := K3.out.size
  have hz12 : w1.heap.size ≤ w3.heap.size := by
    have h1 := k2.out.size
    have h3 := K23.out.size
    omega
  have N4 : Hid (∀ i, v4.ownBlock = some i → i ∉ B6) := fun i hi hm => by
    have h1 := o45.out.lt i hi
    rcases T6.out i hm with x | x | x
    · have h2 := hlt.out i (List.mem_append_right _ x)
      omega
    · have h2 := (V1L.out i x).2
      omega
    · omega
  have o46 : Hid (Wrt.Own w6 0 v4 bs) := World.ownsRow.mono (Zb.ownsRow_kept o45.out k6 (fun i hi hm => by
    have h1 := (o45.out.lt i hi).1
    have h2 := hlt.out i (List.mem_append_right _ hm)
    omega)) (Nat.zero_le _)
  clear t6 k6 k6'
  go_wp2_with fail
  refine (Bkl.owns_any _ k B6 (n + 1) v4 bs (by omega) (by omega) o46 N4 b6).mono ?_
  rintro e w7 ⟨rfl, B7, b7, k7, t7⟩
  have T7 := Lib.hid t7.out
  have K7 := Lib.hid k7.out
  clear t7 k7
  have hz5 := K5.out.size
  have hz6 := K6.out.size
  have hsr : ∀ i ∈ S ++ R, i < w.heap.size := fun i hi => hlt.out i (List.mem_append_left _ hi)
  have htwo : Two w7 p q S R st sv := ((h.out.two.kept K5.out (fun i _ hm => by simp at hm)).kept K6.out (fun i hi hm => h.out.apart i hm hi)).kept K7.out (fun i hi hm => by
    rcases T6.out i hm with x | x | x
    · exact h.out.apart i x hi
    · have := hsr i hi; have := (V1L.out i x).1; omega
    · have := hsr i hi; omega)
  have hB7 : ∀ i ∈ B7, i ∈ B ∨ w.heap.size ≤ i := fun i hi => by
    rcases T7.out i hi with x | x | x
    · rcases T6.out i x with y | y | y
      · exact Or.inl y
      · right; exact (V1L.out i y).1
      · right; omega
    · right
      have := (o45.out.lt i x).1
      omega
    · right; omega
  have O : Hid (PlayOut w p q S R k B st sv (n + 2) w7) := by
   refine ⟨S, R, B7, ⟨htwo, b7.out, fun i hi hm => ?_⟩, ?_, fun i hi => ?_⟩
   · rcases hB7 i hi with x | x
     · exact h.out.apart i x hm
     · have := hsr i hm; omega
   · refine ((K5.out.mono (fun i hi => by simp at hi)).trans K6.out (fun i hi => Or.inl (List.mem_append_right _ hi))).trans K7.out (fun i hi => ?_)
     rcases T6.out i hi with x | x | x
     · exact Or.inl (List.mem_append_right _ x)
     · right; exact (V1L.out i x).1
     · right; omega
   · rcases List.mem_append.1 hi with x | x
     · exact Or.inl (List.mem_append_left _ x)
     · rcases hB7 i x with y | y
       · exact Or.inl (List.mem_append_right _ y)
       · exact Or.inr y
  clear htwo hB7 hsr hz5 hz6
  have HC : Hid (st = sv → c = c2) := fun e => (HEQ.out e).2
  clear hx'
  cases x with
  | false =>
    go_wp2_with fail
    go_ret
    exact ⟨_, rfl, (fun e => by have := HX.out e; cases this), O.out⟩
  | true =>
    by_cases hc : c = c2
    · subst hc
      go_wp2_with fail
      go_ret
      exact ⟨_, rfl, fun e => by simp, O.out⟩
    · have hcc : ((c : Int) == (c2 : Int)) = false := by rw [beq_eq_false_iff_ne]; omega
      go_wp2_with fail
      go_ret
      exact ⟨_, rfl, fun e => absurd (HC.out e) hc, O.out⟩
end Two
end Go.Proofs.Ytfdbpbhihccgbaa
