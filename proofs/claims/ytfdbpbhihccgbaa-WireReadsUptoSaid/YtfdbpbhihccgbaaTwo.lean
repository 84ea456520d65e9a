/- Two writers side by side, the code's and the reference's, each at a state of its own; what the law's opens and numbers do to both. -/
import Derived.Test.YtfdbpbhihccgbaaVsh
import Derived.Test.YtfdbpbhihccgbaaWos
namespace Go.Proofs.Ytfdbpbhihccgbaa
set_option linter.unusedVariables false
open Go.RowKit

/-- Both lie there, apart: the code's at one state, the reference's at its own. -/
structure Two (w : World) (p q : Nat) (S R : List Nat) (st sv : WS) : Prop where
  a : Wr 77 w p S st
  b : Wr 79 w q R sv
  apart : ∀ k ∈ S, k ∉ R
/-- What a step of both leaves. -/
def TwoOut (w : World) (p q : Nat) (S R : List Nat) (st sv : WS) (w' : World) : Prop :=
  ∃ S' R', Hid (Two w' p q S' R' st sv) ∧ Kept (S ++ R) w w' ∧ (∀ k ∈ S' ++ R', k ∈ S ++ R ∨ w.heap.size ≤ k)

theorem Two.lt {w : World} {p q : Nat} {S R : List Nat} {st sv : WS} (h : Two w p q S R st sv) : ∀ k ∈ S ++ R, k < w.heap.size := by
  intro k hk
  rcases List.mem_append.1 hk with m | m
  · exact h.a.lt k m
  · exact h.b.lt k m
theorem Two.kept {w w' : World} {p q : Nat} {S R T : List Nat} {st sv : WS} (h : Two w p q S R st sv) (hk : Kept T w w') (hd : ∀ k ∈ S ++ R, k ∉ T) : Two w' p q S R st sv :=
  ⟨h.a.kept hk (fun k m => hd k (List.mem_append_left _ m)), h.b.kept hk (fun k m => hd k (List.mem_append_right _ m)), h.apart⟩
/-- The code's writer has gone on; the reference's is where it was. -/
structure Half (w : World) (p q : Nat) (S R S' : List Nat) (st' sv : WS) (w1 : World) : Prop where
  a : Wr 77 w1 p S' st'
  b : Wr 79 w1 q R sv
  apart : ∀ k ∈ S', k ∉ R
  kept : Kept S w w1
  sub : ∀ k ∈ S', k ∈ S ∨ w.heap.size ≤ k
theorem Two.half {w w1 : World} {p q : Nat} {S R : List Nat} {st st' sv : WS} (h : Two w p q S R st sv) (h1 : Out 77 w p S st' w1) : ∃ S', Hid (Half w p q S R S' st' sv w1) := by
  obtain ⟨S', a, k, s⟩ := h1
  have hl := h.b.lt
  refine ⟨S', a.out, h.b.kept k (fun i hi hm => h.apart i hm hi), fun i hi hm => ?_, k, s⟩
  rcases s i hi with m | m
  · exact h.apart i m hm
  · have := hl i hm; omega
theorem Half.whole {w w1 w2 : World} {p q : Nat} {S R S' : List Nat} {st' sv sv' : WS} (h : Half w p q S R S' st' sv w1) (h2 : Out 79 w1 q R sv' w2) : TwoOut w p q S R st' sv' w2 := by
  obtain ⟨R', b, k, s⟩ := h2
  have hl := h.a.lt
  have hz := h.kept.size
  refine ⟨S', R', ⟨h.a.kept k (fun i hi hm => h.apart i hi hm), b.out, fun i hi hm => ?_⟩, (h.kept.mono (fun i hi => Or.inl (List.mem_append_left _ hi))).trans k (fun i hi => Or.inl (List.mem_append_right _ hi)), fun i hi => ?_⟩
  · rcases s i hm with m | m
    · exact h.apart i hi m
    · have := hl i hi; omega
  · rcases List.mem_append.1 hi with m | m
    · rcases h.sub i m with n | n
      · exact Or.inl (List.mem_append_left _ n)
      · exact Or.inr n
    · rcases s i m with n | n
      · exact Or.inl (List.mem_append_right _ n)
      · right; omega
theorem TwoOut.trans {w w1 w2 : World} {p q : Nat} {S R S1 R1 : List Nat} {st sv : WS} (hk : Kept (S ++ R) w w1) (hs : ∀ k ∈ S1 ++ R1, k ∈ S ++ R ∨ w.heap.size ≤ k) (h : TwoOut w1 p q S1 R1 st sv w2) : TwoOut w p q S R st sv w2 := by
  obtain ⟨S2, R2, h1, h2, h3⟩ := h
  exact ⟨S2, R2, h1, hk.trans h2 hs, fun k m => by rcases h3 k m with n | n; exact hs k n; right; have := hk.size; omega⟩
theorem TwoOut.of_kept {w w1 w2 : World} {p q : Nat} {S R : List Nat} {st sv : WS} (hk : Kept [] w w1) (h : TwoOut w1 p q S R st sv w2) : TwoOut w p q S R st sv w2 :=
  TwoOut.trans (hk.mono (fun i hi => by simp at hi)) (fun k m => Or.inl m) h

namespace Two
open Go.Proofs.Ytfdbpbhihccgbaa.Txt

theorem opens_any (w : World) (p q : Nat) (S R : List Nat) (st sv : WS) (ok : Hid st.Ok) (okv : Hid sv.Ok) (h : Hid (Two w p q S R st sv)) :
    Calls Try.prog 41 #[.pointer (some ⟨p, 0, none⟩), .pointer (some ⟨q, 0, none⟩)] w fun e w' => e = .returned (.bool ((st.place : Int) == sv.place)) ∧ TwoOut w p q S R st.opened sv.opened w' := by
  have ha : Hid (Wr 77 w p S st) := h.out.a
  go_enter Try.func41, Try.ntmps41
  go_wp2_with fail
  refine (Wrt.open_any _ p S st ok ha).mono ?_
  rintro e w1 ⟨rfl, hw⟩
  obtain ⟨S1, H1⟩ := h.out.half hw
  have hb : Hid (Wr 79 w1 q R sv) := H1.out.b
  go_wp2_with fail
  refine (Vrt.open_any _ q R sv okv hb).mono ?_
  rintro e w2 ⟨rfl, hw2⟩
  have H2 := Lib.hid (H1.out.whole hw2)
  clear hw2 hw
  go_wp2_with fail
  go_ret
  exact ⟨rfl, H2.out⟩
end Two
end Go.Proofs.Ytfdbpbhihccgbaa
