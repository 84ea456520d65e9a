/- locks: the example's states; the law's known; LocksNames walked. -/
import Derived.Test.YtpiiccomkfcifaaLkx
namespace Go.Proofs.Ytpiiccomkfcifaa
set_option linter.unusedVariables false
open Go.RowKit
namespace Lk
open Go.Proofs.Ytpiiccomkfcifaa.Mpf Go.PlainAid
abbrev F0 : Nat → Option Value := fun _ => none
abbrev s1 : St := stN (false, F0, 0) (1, false)
abbrev s2 : St := stN s1 (2, false)
abbrev H1 : Nat → Option Value := upd (upd F0 1 (some (needV false))) 1 none
abbrev H2 : Nat → Option Value := upd (upd H1 2 (some (needV false))) 2 none
abbrev H3 : Nat → Option Value := upd H2 3 (some (needV true))
abbrev H4 : Nat → Option Value := upd H3 4 (some (needV false))
abbrev G1 (a : Nat) : Nat → Option Value := upd F0 1 (some (.map (some a)))
abbrev G2 (a b : Nat) : Nat → Option Value := upd (G1 a) 2 (some (.map (some b)))
abbrev s5 : St := (s2.1, upd s2.2.1 1 none, s2.2.2 - 1)
abbrev s6 : St := stN (s5.1, upd s5.2.1 2 none, s5.2.2 - 1) (3, true)
abbrev s7 : St := stN (s6.1, upd s6.2.1 3 none, s6.2.2 - 1) (4, false)
abbrev G5 (a b : Nat) : Nat → Option Value := upd (G2 a b) 1 none
abbrev G6 (a b c : Nat) : Nat → Option Value := upd (upd (G5 a b) 2 none) 3 (some (.map (some c)))
abbrev G7 (a b c d : Nat) : Nat → Option Value := upd (upd (G6 a b c) 3 none) 4 (some (.map (some d)))
def S0 (Ba : Nat) (w : World) (p : Nat) : Prop := ∃ b1 b2 b3, LE Ba w p b1 b2 b3
def S1 (Ba : Nat) (w : World) (p : Nat) : Prop := ∃ b1 b2 b3 k bm s a, LT Ba w p b1 b2 b3 k bm s1 s [] (G1 a) 1 H1 0
def S2 (Ba : Nat) (w : World) (p : Nat) : Prop := ∃ b1 b2 b3 k bm s a b, LT Ba w p b1 b2 b3 k bm s2 s [] (G2 a b) 2 H2 0
def S3 (Ba : Nat) (w : World) (p : Nat) : Prop := ∃ b1 b2 b3 k bm s a b, LT Ba w p b1 b2 b3 k bm s2 s [(3, true)] (G2 a b) 2 H3 1
def S4 (Ba : Nat) (w : World) (p : Nat) : Prop := ∃ b1 b2 b3 k bm s a b, LT Ba w p b1 b2 b3 k bm s2 s [(3, true), (4, false)] (G2 a b) 2 H4 2
def S5 (Ba : Nat) (w : World) (p : Nat) : Prop := ∃ b1 b2 b3 k bm s a b, LT Ba w p b1 b2 b3 k bm s5 s [(3, true), (4, false)] (G5 a b) 1 H4 2
def S6 (Ba : Nat) (w : World) (p : Nat) : Prop := ∃ b1 b2 b3 k bm s a b c, LT Ba w p b1 b2 b3 k bm s6 s [(4, false)] (G6 a b c) 1 (upd H4 3 none) 1
def S7 (Ba : Nat) (w : World) (p : Nat) : Prop := ∃ b1 b2 b3 k bm s a b c d, LT Ba w p b1 b2 b3 k bm s7 s [] (G7 a b c d) 1 (upd (upd H4 3 none) 4 none) 0
theorem S0.kept {Ba : Nat} {w w' : World} {p : Nat} (h : S0 Ba w p) (k : Kept [] w w') : S0 Ba w' p := by obtain ⟨b1, b2, b3, h⟩ := h; exact ⟨b1, b2, b3, h.kept0 k⟩
theorem S4.kept {Ba : Nat} {w w' : World} {p : Nat} (h : S4 Ba w p) (k : Kept [] w w') : S4 Ba w' p := by obtain ⟨b1, b2, b3, kk, bm, s, a, b, h⟩ := h; exact ⟨b1, b2, b3, kk, bm, s, a, b, h.kept0 k⟩
theorem S7.kept {Ba : Nat} {w w' : World} {p : Nat} (h : S7 Ba w p) (k : Kept [] w w') : S7 Ba w' p := by obtain ⟨b1, b2, b3, kk, bm, s, a, b, c, d, h⟩ := h; exact ⟨b1, b2, b3, kk, bm, s, a, b, c, d, h.kept0 k⟩
section
variable {Ba : Nat} {w : World} {p : Nat}
theorem ask1 (h : S0 Ba w p) : Calls Try.prog 27 #[.pointer (some ⟨p, 0, none⟩), .int .i64 1, .agg #[.int .u8 3, .int .i64 0, .int .u64 5, .bool false]] w fun e w' => e = .returned (.tuple #[.bool true, .int .i64 0]) ∧ S1 Ba w' p ∧ KL Ba w w' := by
  obtain ⟨b1, b2, b3, h⟩ := h
  refine (Ask_first (x := 1) (b := false) h (by decide)).mono ?_
  rintro e w2 ⟨k, bm, s, G, he, ⟨a, rfl⟩, h2, k2⟩
  exact ⟨he, ⟨b1, b2, b3, k, bm, s, a, h2⟩, k2⟩
theorem ask2 (h : S1 Ba w p) : Calls Try.prog 27 #[.pointer (some ⟨p, 0, none⟩), .int .i64 2, .agg #[.int .u8 3, .int .i64 0, .int .u64 5, .bool false]] w fun e w' => e = .returned (.tuple #[.bool true, .int .i64 0]) ∧ S2 Ba w' p ∧ KL Ba w w' := by
  obtain ⟨b1, b2, b3, k, bm, s, a, h⟩ := h
  refine (Ask_in (x := 2) (b := false) h (by decide) rfl rfl rfl).mono ?_
  rintro e w2 ⟨k, bm, s, G, he, ⟨b, rfl⟩, h2, k2⟩
  exact ⟨he, ⟨b1, b2, b3, k, bm, s, a, b, h2⟩, k2⟩
theorem ask3 (h : S2 Ba w p) : Calls Try.prog 27 #[.pointer (some ⟨p, 0, none⟩), .int .i64 3, .agg #[.int .u8 3, .int .i64 0, .int .u64 5, .bool true]] w fun e w' => e = .returned (.tuple #[.bool false, .int .i64 0]) ∧ S3 Ba w' p ∧ KL Ba w w' := by
  obtain ⟨b1, b2, b3, k, bm, s, a, b, h⟩ := h
  refine (Ask_wait (x := 3) (b := true) h (by decide) (by decide) (fun y hy => by cases hy) rfl rfl rfl).mono ?_
  rintro e w2 ⟨k, bm, s, G, he, rfl, h2, k2⟩
  exact ⟨he, ⟨b1, b2, b3, k, bm, s, a, b, h2⟩, k2⟩
theorem small4 : ∀ y ∈ ([(3, true), (4, false)] : List (Nat × Bool)), y.1 < 9223372036854775808 := by decide
theorem ask4 (h : S3 Ba w p) : Calls Try.prog 27 #[.pointer (some ⟨p, 0, none⟩), .int .i64 4, .agg #[.int .u8 3, .int .i64 0, .int .u64 5, .bool false]] w fun e w' => e = .returned (.tuple #[.bool false, .int .i64 0]) ∧ S4 Ba w' p ∧ KL Ba w w' := by
  obtain ⟨b1, b2, b3, k, bm, s, a, b, h⟩ := h
  refine (Ask_wait (x := 4) (b := false) h (by decide) (by decide) (fun y hy => small4 y (by simp at hy; simp [hy])) rfl rfl rfl).mono ?_
  rintro e w2 ⟨k, bm, s, G, he, rfl, h2, k2⟩
  exact ⟨he, ⟨b1, b2, b3, k, bm, s, a, b, h2⟩, k2⟩
theorem queue4 (h : S4 Ba w p) : Calls Try.prog 17 #[.pointer (some ⟨p, 0, none⟩), aV] w fun e w' => ∃ g c, e = .returned (.slice (some ⟨g, 0, none⟩) 2 c) ∧ Nu w' (.slice (some ⟨g, 0, none⟩) 2 c) [3, 4] ∧ Kept [] w w' := by
  obtain ⟨b1, b2, b3, k, bm, s, a, b, h⟩ := h
  refine (Queue_any h (by decide)).mono ?_
  rintro e w2 ⟨v, rfl, hv, k2⟩
  obtain ⟨g, c, rfl, -, -⟩ := hv.slice
  exact ⟨g, c, rfl, hv, k2⟩
theorem free1 (h : S4 Ba w p) : Calls Try.prog 28 #[.pointer (some ⟨p, 0, none⟩), .int .i64 1, aV] w fun e w' => ∃ g c, e = .returned (.tuple #[.slice (some ⟨g, 0, none⟩) 0 c, .int .i64 0]) ∧ S5 Ba w' p ∧ KL Ba w w' := by
  obtain ⟨b1, b2, b3, k, bm, s, a, b, h⟩ := h
  refine (Free_0 (x := 1) (hb := a) h (by decide) small4 (by decide) rfl rfl rfl (by decide)).mono ?_
  rintro e w2 ⟨v, s', G, rfl, rfl, hv, h2, k2⟩
  obtain ⟨g, c, rfl, -, -⟩ := hv.slice
  exact ⟨g, c, rfl, ⟨b1, b2, b3, k, bm, s', a, b, h2⟩, k2⟩
theorem free2 (h : S5 Ba w p) : Calls Try.prog 28 #[.pointer (some ⟨p, 0, none⟩), .int .i64 2, aV] w fun e w' => ∃ g c, e = .returned (.tuple #[.slice (some ⟨g, 0, none⟩) 1 c, .int .i64 0]) ∧ Nu w' (.slice (some ⟨g, 0, none⟩) 1 c) [3] ∧ S6 Ba w' p ∧ KL Ba w w' := by
  obtain ⟨b1, b2, b3, k, bm, s, a, b, h⟩ := h
  refine (Free_1 (x := 2) (hb := b) h (by decide) small4 (by decide) rfl rfl rfl rfl rfl (by decide)).mono ?_
  rintro e w2 ⟨v, s', G, rfl, ⟨c', rfl⟩, hv, h2, k2⟩
  obtain ⟨g, c, rfl, -, -⟩ := hv.slice
  exact ⟨g, c, rfl, hv, ⟨b1, b2, b3, k, bm, s', a, b, c', h2⟩, k2⟩
theorem free3 (h : S6 Ba w p) : Calls Try.prog 28 #[.pointer (some ⟨p, 0, none⟩), .int .i64 3, aV] w fun e w' => ∃ g c, e = .returned (.tuple #[.slice (some ⟨g, 0, none⟩) 1 c, .int .i64 0]) ∧ Nu w' (.slice (some ⟨g, 0, none⟩) 1 c) [4] ∧ S7 Ba w' p ∧ KL Ba w w' := by
  obtain ⟨b1, b2, b3, k, bm, s, a, b, c0, h⟩ := h
  refine (Free_1 (x := 3) (hb := c0) h (by decide) (by decide) (by decide) rfl rfl rfl rfl rfl (by decide)).mono ?_
  rintro e w2 ⟨v, s', G, rfl, ⟨c', rfl⟩, hv, h2, k2⟩
  obtain ⟨g, c, rfl, -, -⟩ := hv.slice
  exact ⟨g, c, rfl, hv, ⟨b1, b2, b3, k, bm, s', a, b, c0, c', h2⟩, k2⟩
theorem idle7 (h : S7 Ba w p) : Calls Try.prog 25 #[.pointer (some ⟨p, 0, none⟩)] w fun e w' => e = .returned (.bool false) ∧ Kept [] w w' := by
  obtain ⟨b1, b2, b3, k, bm, s, a, b, c, d, h⟩ := h
  exact Idle_any h
end
/-- Numbers that the law lays. -/
theorem nu_two (w : World) : Nu (w.alloc (.cells #[.int .i64 3, .int .i64 4] 3)) (.slice (some ⟨w.heap.size, 0, none⟩) 2 2) [3, 4] :=
  ⟨w.heap.size, 2, _, rfl, (MapKept.heap_alloc w _).1, Nat.le_refl _, by decide, fun j x hx => by
    match j, hx with
    | 0, hx => simp at hx; subst hx; rfl
    | 1, hx => simp at hx; subst hx; rfl⟩
theorem nu_one (w : World) (n : Nat) : Nu (w.alloc (.cells #[.int .i64 n] 3)) (.slice (some ⟨w.heap.size, 0, none⟩) 1 1) [n] :=
  ⟨w.heap.size, 1, _, rfl, (MapKept.heap_alloc w _).1, Nat.le_refl _, by decide, fun j x hx => by
    match j, hx with
    | 0, hx => simp at hx; subst hx; rfl⟩
end Lk
end Go.Proofs.Ytpiiccomkfcifaa
