/- What the law's numbers does to both writers. -/
import Derived.Test.YtfdbpbhihccgbaaTwo
import Derived.Test.YtfdbpbhihccgbaaWnu
namespace Go.Proofs.Ytfdbpbhihccgbaa
set_option linter.unusedVariables false
open Go.RowKit

/-- A step of a script. -/
structure Stp where
  who : Int
  kind : Int
  n : Nat
  k : Int
  b : Value
  s : ByteArray
def Stp.val (o : Stp) : Value := .agg #[.int .i64 o.who, .int .i64 o.kind, .int .u64 o.n, .int .i64 o.k, o.b, .string o.s]

def WS.numbered (st : WS) (kind : Int) (n : Nat) : WS :=
  if kind = 1 then st.raw (le 1 (n % 256)) else if kind = 2 then st.raw (le 2 (n % 65536)) else if kind = 3 then st.raw (le 4 (n % 4294967296)) else if kind = 4 then st.raw (le 8 n) else st

/-- What was boxed is still there, when other blocks have turned. -/
theorem boxed {w w1 : World} {S : List Nat} {cs : Array Value} {t : TypeId} (hS : ∀ k ∈ S, k < w.heap.size) (hk : Kept S (w.alloc (.cells cs t (0, 0))) w1) (i : Nat) {v : Value} (hv : cs[i]? = some v) : w1.cell? ⟨w.heap.size, i, none⟩ = some v := by
  have h1 : w1.heap[w.heap.size]? = some (.cells cs t (0, 0)) := by
    rw [hk.block w.heap.size (by simp) (fun m => by have := hS _ m; omega)]
    exact heap_alloc_new w _
  rw [cell_of_row w1 w.heap.size i _ t (0, 0) h1]
  exact hv

namespace Two
open Go.Proofs.Ytfdbpbhihccgbaa.Txt

theorem numbers_1 (w : World) (p q : Nat) (S R : List Nat) (st sv : WS) (o : Stp) (hk : o.kind = 1) (hn : o.n ≤ 18446744073709551615) (ok : Hid st.Ok) (okv : Hid sv.Ok) (h : Hid (Two w p q S R st sv)) :
    Calls Try.prog 37 #[.pointer (some ⟨p, 0, none⟩), .pointer (some ⟨q, 0, none⟩), o.val] w fun e w' => e = .returned (.tuple #[]) ∧ TwoOut w p q S R (st.raw (le 1 (o.n % 256))) (sv.raw (le 1 (o.n % 256))) w' := by
  obtain ⟨who, kind, n, k, b, s⟩ := o
  simp only [] at hk hn ⊢
  subst hk
  unfold Stp.val
  simp only []
  have hl := h.out.a.lt
  have hk0 : Kept [] w (w.alloc (.cells #[.int .i64 who, .int .i64 1, .int .u64 n, .int .i64 k, b, .string s] 43 (0, 0))) := (Kept.refl _ _).alloc _
  have h0 : Hid (Two (w.alloc (.cells #[.int .i64 who, .int .i64 1, .int .u64 n, .int .i64 k, b, .string s] 43 (0, 0))) p q S R st sv) := h.out.kept hk0 (fun k _ hm => by simp at hm)
  have ha : Hid (Wr 77 (w.alloc (.cells #[.int .i64 who, .int .i64 1, .int .u64 n, .int .i64 k, b, .string s] 43 (0, 0))) p S st) := h0.out.a
  go_enter Try.func37, Try.ntmps37
  go_wp2_with fail
  refine (Wrt.u8_any _ p S st _ (n % 256) (by omega) (by omega) ok ha).mono ?_
  rintro e w1 ⟨rfl, hw⟩
  obtain ⟨S1, H1⟩ := h0.out.half hw
  have hb : Hid (Wr 79 w1 q R sv) := H1.out.b
  have d2 := boxed hl H1.out.kept 2 (v := .int .u64 n) rfl
  go_wp2_with fail
  refine (Vrt.u8_any _ q R sv _ (n % 256) (by omega) (by omega) okv hb).mono ?_
  rintro e w2 ⟨rfl, hw2⟩
  have H2 := Lib.hid (TwoOut.of_kept hk0 (H1.out.whole hw2))
  clear hw2 hw
  go_wp2_with fail
  go_end0
  exact ⟨rfl, H2.out⟩

theorem numbers_2 (w : World) (p q : Nat) (S R : List Nat) (st sv : WS) (o : Stp) (hk : o.kind = 2) (hn : o.n ≤ 18446744073709551615) (ok : Hid st.Ok) (okv : Hid sv.Ok) (h : Hid (Two w p q S R st sv)) :
    Calls Try.prog 37 #[.pointer (some ⟨p, 0, none⟩), .pointer (some ⟨q, 0, none⟩), o.val] w fun e w' => e = .returned (.tuple #[]) ∧ TwoOut w p q S R (st.raw (le 2 (o.n % 65536))) (sv.raw (le 2 (o.n % 65536))) w' := by
  obtain ⟨who, kind, n, k, b, s⟩ := o
  simp only [] at hk hn ⊢
  subst hk
  unfold Stp.val
  simp only []
  have hl := h.out.a.lt
  have hk0 : Kept [] w (w.alloc (.cells #[.int .i64 who, .int .i64 2, .int .u64 n, .int .i64 k, b, .string s] 43 (0, 0))) := (Kept.refl _ _).alloc _
  have h0 : Hid (Two (w.alloc (.cells #[.int .i64 who, .int .i64 2, .int .u64 n, .int .i64 k, b, .string s] 43 (0, 0))) p q S R st sv) := h.out.kept hk0 (fun k _ hm => by simp at hm)
  have ha : Hid (Wr 77 (w.alloc (.cells #[.int .i64 who, .int .i64 2, .int .u64 n, .int .i64 k, b, .string s] 43 (0, 0))) p S st) := h0.out.a
  go_enter Try.func37, Try.ntmps37
  go_wp2_with fail
  refine (Wrt.u16_any _ p S st _ (n % 65536) (by rw [IntKind.wrap_u16]; omega) (by omega) ok ha).mono ?_
  rintro e w1 ⟨rfl, hw⟩
  obtain ⟨S1, H1⟩ := h0.out.half hw
  have hb : Hid (Wr 79 w1 q R sv) := H1.out.b
  have d2 := boxed hl H1.out.kept 2 (v := .int .u64 n) rfl
  go_wp2_with fail
  refine (Vrt.u16_any _ q R sv _ (n % 65536) (by rw [IntKind.wrap_u16]; omega) (by omega) okv hb).mono ?_
  rintro e w2 ⟨rfl, hw2⟩
  have H2 := Lib.hid (TwoOut.of_kept hk0 (H1.out.whole hw2))
  clear hw2 hw
  go_wp2_with fail
  go_end0
  exact ⟨rfl, H2.out⟩

theorem numbers_3 (w : World) (p q : Nat) (S R : List Nat) (st sv : WS) (o : Stp) (hk : o.kind = 3) (hn : o.n ≤ 18446744073709551615) (ok : Hid st.Ok) (okv : Hid sv.Ok) (h : Hid (Two w p q S R st sv)) :
    Calls Try.prog 37 #[.pointer (some ⟨p, 0, none⟩), .pointer (some ⟨q, 0, none⟩), o.val] w fun e w' => e = .returned (.tuple #[]) ∧ TwoOut w p q S R (st.raw (le 4 (o.n % 4294967296))) (sv.raw (le 4 (o.n % 4294967296))) w' := by
  obtain ⟨who, kind, n, k, b, s⟩ := o
  simp only [] at hk hn ⊢
  subst hk
  unfold Stp.val
  simp only []
  have hl := h.out.a.lt
  have hk0 : Kept [] w (w.alloc (.cells #[.int .i64 who, .int .i64 3, .int .u64 n, .int .i64 k, b, .string s] 43 (0, 0))) := (Kept.refl _ _).alloc _
  have h0 : Hid (Two (w.alloc (.cells #[.int .i64 who, .int .i64 3, .int .u64 n, .int .i64 k, b, .string s] 43 (0, 0))) p q S R st sv) := h.out.kept hk0 (fun k _ hm => by simp at hm)
  have ha : Hid (Wr 77 (w.alloc (.cells #[.int .i64 who, .int .i64 3, .int .u64 n, .int .i64 k, b, .string s] 43 (0, 0))) p S st) := h0.out.a
  go_enter Try.func37, Try.ntmps37
  go_wp2_with fail
  refine (Wrt.u32_any _ p S st _ (n % 4294967296) (by omega) (by omega) ok ha).mono ?_
  rintro e w1 ⟨rfl, hw⟩
  obtain ⟨S1, H1⟩ := h0.out.half hw
  have hb : Hid (Wr 79 w1 q R sv) := H1.out.b
  have d2 := boxed hl H1.out.kept 2 (v := .int .u64 n) rfl
  go_wp2_with fail
  refine (Vrt.u32_any _ q R sv _ (n % 4294967296) (by omega) (by omega) okv hb).mono ?_
  rintro e w2 ⟨rfl, hw2⟩
  have H2 := Lib.hid (TwoOut.of_kept hk0 (H1.out.whole hw2))
  clear hw2 hw
  go_wp2_with fail
  go_end0
  exact ⟨rfl, H2.out⟩

theorem numbers_4 (w : World) (p q : Nat) (S R : List Nat) (st sv : WS) (o : Stp) (hk : o.kind = 4) (hn : o.n ≤ 18446744073709551615) (ok : Hid st.Ok) (okv : Hid sv.Ok) (h : Hid (Two w p q S R st sv)) :
    Calls Try.prog 37 #[.pointer (some ⟨p, 0, none⟩), .pointer (some ⟨q, 0, none⟩), o.val] w fun e w' => e = .returned (.tuple #[]) ∧ TwoOut w p q S R (st.raw (le 8 (o.n))) (sv.raw (le 8 (o.n))) w' := by
  obtain ⟨who, kind, n, k, b, s⟩ := o
  simp only [] at hk hn ⊢
  subst hk
  unfold Stp.val
  simp only []
  have hl := h.out.a.lt
  have hk0 : Kept [] w (w.alloc (.cells #[.int .i64 who, .int .i64 4, .int .u64 n, .int .i64 k, b, .string s] 43 (0, 0))) := (Kept.refl _ _).alloc _
  have h0 : Hid (Two (w.alloc (.cells #[.int .i64 who, .int .i64 4, .int .u64 n, .int .i64 k, b, .string s] 43 (0, 0))) p q S R st sv) := h.out.kept hk0 (fun k _ hm => by simp at hm)
  have ha : Hid (Wr 77 (w.alloc (.cells #[.int .i64 who, .int .i64 4, .int .u64 n, .int .i64 k, b, .string s] 43 (0, 0))) p S st) := h0.out.a
  go_enter Try.func37, Try.ntmps37
  go_wp2_with fail
  refine (Wrt.u64_any _ p S st _ (n) (by omega) (by omega) ok ha).mono ?_
  rintro e w1 ⟨rfl, hw⟩
  obtain ⟨S1, H1⟩ := h0.out.half hw
  have hb : Hid (Wr 79 w1 q R sv) := H1.out.b
  have d2 := boxed hl H1.out.kept 2 (v := .int .u64 n) rfl
  go_wp2_with fail
  refine (Vrt.u64_any _ q R sv _ (n) (by omega) (by omega) okv hb).mono ?_
  rintro e w2 ⟨rfl, hw2⟩
  have H2 := Lib.hid (TwoOut.of_kept hk0 (H1.out.whole hw2))
  clear hw2 hw
  go_wp2_with fail
  go_end0
  exact ⟨rfl, H2.out⟩

theorem numbers_none (w : World) (p q : Nat) (S R : List Nat) (st sv : WS) (o : Stp) (h1 : (o.kind == 1) = false) (h2 : (o.kind == 2) = false) (h3 : (o.kind == 3) = false) (h4 : (o.kind == 4) = false) (h : Hid (Two w p q S R st sv)) :
    Calls Try.prog 37 #[.pointer (some ⟨p, 0, none⟩), .pointer (some ⟨q, 0, none⟩), o.val] w fun e w' => e = .returned (.tuple #[]) ∧ TwoOut w p q S R st sv w' := by
  obtain ⟨who, kind, n, k, b, s⟩ := o
  simp only [] at h1 h2 h3 h4
  unfold Stp.val
  simp only []
  have hk0 : Kept [] w (w.alloc (.cells #[.int .i64 who, .int .i64 kind, .int .u64 n, .int .i64 k, b, .string s] 43 (0, 0))) := (Kept.refl _ _).alloc _
  have h0 : Hid (Two (w.alloc (.cells #[.int .i64 who, .int .i64 kind, .int .u64 n, .int .i64 k, b, .string s] 43 (0, 0))) p q S R st sv) := h.out.kept hk0 (fun k _ hm => by simp at hm)
  go_enter Try.func37, Try.ntmps37
  go_wp2_with fail
  go_end0
  exact ⟨rfl, S, R, h0, hk0.mono (fun i hi => by simp at hi), fun k m => Or.inl m⟩

theorem numbers_any (w : World) (p q : Nat) (S R : List Nat) (st sv : WS) (o : Stp) (hn : o.n ≤ 18446744073709551615) (ok : Hid st.Ok) (okv : Hid sv.Ok) (h : Hid (Two w p q S R st sv)) :
    Calls Try.prog 37 #[.pointer (some ⟨p, 0, none⟩), .pointer (some ⟨q, 0, none⟩), o.val] w fun e w' => e = .returned (.tuple #[]) ∧ TwoOut w p q S R (st.numbered o.kind o.n) (sv.numbered o.kind o.n) w' := by
  unfold WS.numbered
  by_cases h1 : o.kind = 1
  · rw [if_pos h1, if_pos h1]; exact numbers_1 w p q S R st sv o h1 hn ok okv h
  rw [if_neg h1, if_neg h1]
  by_cases h2 : o.kind = 2
  · rw [if_pos h2, if_pos h2]; exact numbers_2 w p q S R st sv o h2 hn ok okv h
  rw [if_neg h2, if_neg h2]
  by_cases h3 : o.kind = 3
  · rw [if_pos h3, if_pos h3]; exact numbers_3 w p q S R st sv o h3 hn ok okv h
  rw [if_neg h3, if_neg h3]
  by_cases h4 : o.kind = 4
  · rw [if_pos h4, if_pos h4]; exact numbers_4 w p q S R st sv o h4 hn ok okv h
  rw [if_neg h4, if_neg h4]
  exact numbers_none w p q S R st sv o (beq_eq_false_iff_ne.2 h1) (beq_eq_false_iff_ne.2 h2) (beq_eq_false_iff_ne.2 h3) (beq_eq_false_iff_ne.2 h4) h
end Two
end Go.Proofs.Ytfdbpbhihccgbaa
