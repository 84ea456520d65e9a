/- WireBack's lays: a step is written. -/
import Derived.Test.YtdbhdajedgkpbaaGdl
namespace Go.Proofs.Ytdbhdajedgkpbaa
set_option linter.unusedVariables false
open Go.RowKit
namespace Bkw
open Go.Proofs.Ytdbhdajedgkpbaa.Txt
set_option maxHeartbeats 1000000 in
set_option maxRecDepth 100000 in
theorem lays_1 (w : World) (p : Nat) (S T : List Nat) (st : WS) (who k : Int) (n : Nat) (b : Value) (bs : List UInt8) (s : ByteArray) (hn : n ≤ 18446744073709551615) (hs : s.size ≤ 140737488355328) (hsz : bs.length ≤ 1152921504606846976) (hb : Hid (Src w b bs T)) (hd : Hid (∀ k ∈ T, k ∉ S)) (ok : Hid st.Ok) (h : Hid (Wr 81 w p S st)) :
    Calls Try.prog 25 #[.pointer (some ⟨p, 0, none⟩), .agg #[.int .i64 who, .int .i64 1, .int .u64 n, .int .i64 k, b, .string s]] w fun e w' => e = .returned (.tuple #[]) ∧ Out 81 w p S (st.raw (le 1 (n % 256))) w' := by
  have K0 : Hid (Kept S w (w.alloc (.cells #[.int .i64 who, .int .i64 1, .int .u64 n, .int .i64 k, b, .string s] 43 (0, 0)))) := (Kept.refl _ _).alloc _
  have H0 : Hid (Wr 81 (w.alloc (.cells #[.int .i64 who, .int .i64 1, .int .u64 n, .int .i64 k, b, .string s] 43 (0, 0))) p S st) := h.out.kept ((Kept.refl [] _).alloc _) (fun _ _ hm => by simp at hm)
  have B0 : Hid (Src (w.alloc (.cells #[.int .i64 who, .int .i64 1, .int .u64 n, .int .i64 k, b, .string s] 43 (0, 0))) b bs T) := hb.out.kept ((Kept.refl [] _).alloc _) (fun _ _ hm => by simp at hm)
  obtain ⟨ab, qb, rfl, -⟩ := id hb.out
  go_enter Try.func25, Try.ntmps25
  go_wp2_with fail
  refine (Wrt.u8_any _ p S st _ (n % 256) (by omega) (by omega) ok H0).mono ?_
  rintro e w1 ⟨rfl, hw⟩
  have H1 := Lib.hid (Out.trans K0.out (fun k hk => Or.inl hk) hw)
  clear hw
  go_wp2_with fail
  go_end0
  exact ⟨rfl, H1.out⟩
set_option maxHeartbeats 1000000 in
set_option maxRecDepth 100000 in
theorem lays_2 (w : World) (p : Nat) (S T : List Nat) (st : WS) (who k : Int) (n : Nat) (b : Value) (bs : List UInt8) (s : ByteArray) (hn : n ≤ 18446744073709551615) (hs : s.size ≤ 140737488355328) (hsz : bs.length ≤ 1152921504606846976) (hb : Hid (Src w b bs T)) (hd : Hid (∀ k ∈ T, k ∉ S)) (ok : Hid st.Ok) (h : Hid (Wr 81 w p S st)) :
    Calls Try.prog 25 #[.pointer (some ⟨p, 0, none⟩), .agg #[.int .i64 who, .int .i64 2, .int .u64 n, .int .i64 k, b, .string s]] w fun e w' => e = .returned (.tuple #[]) ∧ Out 81 w p S (st.raw (le 2 (n % 65536))) w' := by
  have K0 : Hid (Kept S w (w.alloc (.cells #[.int .i64 who, .int .i64 2, .int .u64 n, .int .i64 k, b, .string s] 43 (0, 0)))) := (Kept.refl _ _).alloc _
  have H0 : Hid (Wr 81 (w.alloc (.cells #[.int .i64 who, .int .i64 2, .int .u64 n, .int .i64 k, b, .string s] 43 (0, 0))) p S st) := h.out.kept ((Kept.refl [] _).alloc _) (fun _ _ hm => by simp at hm)
  have B0 : Hid (Src (w.alloc (.cells #[.int .i64 who, .int .i64 2, .int .u64 n, .int .i64 k, b, .string s] 43 (0, 0))) b bs T) := hb.out.kept ((Kept.refl [] _).alloc _) (fun _ _ hm => by simp at hm)
  obtain ⟨ab, qb, rfl, -⟩ := id hb.out
  go_enter Try.func25, Try.ntmps25
  go_wp2_with fail
  refine (Wrt.u16_any _ p S st _ (n % 65536) (by first | omega | (simp [IntKind.wrap, IntKind.bits, IntKind.signed]; try omega)) (by omega) ok H0).mono ?_
  rintro e w1 ⟨rfl, hw⟩
  have H1 := Lib.hid (Out.trans K0.out (fun k hk => Or.inl hk) hw)
  clear hw
  go_wp2_with fail
  go_end0
  exact ⟨rfl, H1.out⟩
set_option maxHeartbeats 1000000 in
set_option maxRecDepth 100000 in
theorem lays_3 (w : World) (p : Nat) (S T : List Nat) (st : WS) (who k : Int) (n : Nat) (b : Value) (bs : List UInt8) (s : ByteArray) (hn : n ≤ 18446744073709551615) (hs : s.size ≤ 140737488355328) (hsz : bs.length ≤ 1152921504606846976) (hb : Hid (Src w b bs T)) (hd : Hid (∀ k ∈ T, k ∉ S)) (ok : Hid st.Ok) (h : Hid (Wr 81 w p S st)) :
    Calls Try.prog 25 #[.pointer (some ⟨p, 0, none⟩), .agg #[.int .i64 who, .int .i64 3, .int .u64 n, .int .i64 k, b, .string s]] w fun e w' => e = .returned (.tuple #[]) ∧ Out 81 w p S (st.raw (le 4 (n % 4294967296))) w' := by
  have K0 : Hid (Kept S w (w.alloc (.cells #[.int .i64 who, .int .i64 3, .int .u64 n, .int .i64 k, b, .string s] 43 (0, 0)))) := (Kept.refl _ _).alloc _
  have H0 : Hid (Wr 81 (w.alloc (.cells #[.int .i64 who, .int .i64 3, .int .u64 n, .int .i64 k, b, .string s] 43 (0, 0))) p S st) := h.out.kept ((Kept.refl [] _).alloc _) (fun _ _ hm => by simp at hm)
  have B0 : Hid (Src (w.alloc (.cells #[.int .i64 who, .int .i64 3, .int .u64 n, .int .i64 k, b, .string s] 43 (0, 0))) b bs T) := hb.out.kept ((Kept.refl [] _).alloc _) (fun _ _ hm => by simp at hm)
  obtain ⟨ab, qb, rfl, -⟩ := id hb.out
  go_enter Try.func25, Try.ntmps25
  go_wp2_with fail
  refine (Wrt.u32_any _ p S st _ (n % 4294967296) (by omega) (by omega) ok H0).mono ?_
  rintro e w1 ⟨rfl, hw⟩
  have H1 := Lib.hid (Out.trans K0.out (fun k hk => Or.inl hk) hw)
  clear hw
  go_wp2_with fail
  go_end0
  exact ⟨rfl, H1.out⟩
set_option maxHeartbeats 1000000 in
set_option maxRecDepth 100000 in
theorem lays_4 (w : World) (p : Nat) (S T : List Nat) (st : WS) (who k : Int) (n : Nat) (b : Value) (bs : List UInt8) (s : ByteArray) (hn : n ≤ 18446744073709551615) (hs : s.size ≤ 140737488355328) (hsz : bs.length ≤ 1152921504606846976) (hb : Hid (Src w b bs T)) (hd : Hid (∀ k ∈ T, k ∉ S)) (ok : Hid st.Ok) (h : Hid (Wr 81 w p S st)) :
    Calls Try.prog 25 #[.pointer (some ⟨p, 0, none⟩), .agg #[.int .i64 who, .int .i64 4, .int .u64 n, .int .i64 k, b, .string s]] w fun e w' => e = .returned (.tuple #[]) ∧ Out 81 w p S (st.raw (le 8 n)) w' := by
  have K0 : Hid (Kept S w (w.alloc (.cells #[.int .i64 who, .int .i64 4, .int .u64 n, .int .i64 k, b, .string s] 43 (0, 0)))) := (Kept.refl _ _).alloc _
  have H0 : Hid (Wr 81 (w.alloc (.cells #[.int .i64 who, .int .i64 4, .int .u64 n, .int .i64 k, b, .string s] 43 (0, 0))) p S st) := h.out.kept ((Kept.refl [] _).alloc _) (fun _ _ hm => by simp at hm)
  have B0 : Hid (Src (w.alloc (.cells #[.int .i64 who, .int .i64 4, .int .u64 n, .int .i64 k, b, .string s] 43 (0, 0))) b bs T) := hb.out.kept ((Kept.refl [] _).alloc _) (fun _ _ hm => by simp at hm)
  obtain ⟨ab, qb, rfl, -⟩ := id hb.out
  go_enter Try.func25, Try.ntmps25
  go_wp2_with fail
  refine (Wrt.u64_any _ p S st _ n rfl hn ok H0).mono ?_
  rintro e w1 ⟨rfl, hw⟩
  have H1 := Lib.hid (Out.trans K0.out (fun k hk => Or.inl hk) hw)
  clear hw
  go_wp2_with fail
  go_end0
  exact ⟨rfl, H1.out⟩
set_option maxHeartbeats 1000000 in
set_option maxRecDepth 100000 in
theorem lays_5 (w : World) (p : Nat) (S T : List Nat) (st : WS) (who k : Int) (n : Nat) (b : Value) (bs : List UInt8) (s : ByteArray) (hn : n ≤ 18446744073709551615) (hs : s.size ≤ 140737488355328) (hsz : bs.length ≤ 1152921504606846976) (hb : Hid (Src w b bs T)) (hd : Hid (∀ k ∈ T, k ∉ S)) (ok : Hid st.Ok) (h : Hid (Wr 81 w p S st)) :
    Calls Try.prog 25 #[.pointer (some ⟨p, 0, none⟩), .agg #[.int .i64 who, .int .i64 5, .int .u64 n, .int .i64 k, b, .string s]] w fun e w' => e = .returned (.tuple #[]) ∧ Out 81 w p S (st.raw bs) w' := by
  have K0 : Hid (Kept S w (w.alloc (.cells #[.int .i64 who, .int .i64 5, .int .u64 n, .int .i64 k, b, .string s] 43 (0, 0)))) := (Kept.refl _ _).alloc _
  have H0 : Hid (Wr 81 (w.alloc (.cells #[.int .i64 who, .int .i64 5, .int .u64 n, .int .i64 k, b, .string s] 43 (0, 0))) p S st) := h.out.kept ((Kept.refl [] _).alloc _) (fun _ _ hm => by simp at hm)
  have B0 : Hid (Src (w.alloc (.cells #[.int .i64 who, .int .i64 5, .int .u64 n, .int .i64 k, b, .string s] 43 (0, 0))) b bs T) := hb.out.kept ((Kept.refl [] _).alloc _) (fun _ _ hm => by simp at hm)
  obtain ⟨ab, qb, rfl, -⟩ := id hb.out
  go_enter Try.func25, Try.ntmps25
  go_wp2_with fail
  refine (Wrt.raw_any _ p S T st _ bs hsz B0 hd ok H0).mono ?_
  rintro e w1 ⟨rfl, hw⟩
  have H1 := Lib.hid (Out.trans K0.out (fun k hk => Or.inl hk) hw)
  clear hw
  go_wp2_with fail
  go_end0
  exact ⟨rfl, H1.out⟩
set_option maxHeartbeats 1000000 in
set_option maxRecDepth 100000 in
theorem lays_6 (w : World) (p : Nat) (S T : List Nat) (st : WS) (who k : Int) (n : Nat) (b : Value) (bs : List UInt8) (s : ByteArray) (hn : n ≤ 18446744073709551615) (hs : s.size ≤ 140737488355328) (hsz : bs.length ≤ 1152921504606846976) (hb : Hid (Src w b bs T)) (hd : Hid (∀ k ∈ T, k ∉ S)) (ok : Hid st.Ok) (h : Hid (Wr 81 w p S st)) :
    Calls Try.prog 25 #[.pointer (some ⟨p, 0, none⟩), .agg #[.int .i64 who, .int .i64 6, .int .u64 n, .int .i64 k, b, .string s]] w fun e w' => e = .returned (.tuple #[]) ∧ Out 81 w p S (st.text (str (lett s))) w' := by
  have K0 : Hid (Kept S w (w.alloc (.cells #[.int .i64 who, .int .i64 6, .int .u64 n, .int .i64 k, b, .string s] 43 (0, 0)))) := (Kept.refl _ _).alloc _
  have H0 : Hid (Wr 81 (w.alloc (.cells #[.int .i64 who, .int .i64 6, .int .u64 n, .int .i64 k, b, .string s] 43 (0, 0))) p S st) := h.out.kept ((Kept.refl [] _).alloc _) (fun _ _ hm => by simp at hm)
  have B0 : Hid (Src (w.alloc (.cells #[.int .i64 who, .int .i64 6, .int .u64 n, .int .i64 k, b, .string s] 43 (0, 0))) b bs T) := hb.out.kept ((Kept.refl [] _).alloc _) (fun _ _ hm => by simp at hm)
  obtain ⟨ab, qb, rfl, -⟩ := id hb.out
  go_enter Try.func25, Try.ntmps25
  go_wp2_with fail
  refine (letters_any _ s hs).mono ?_
  rintro e w1 ⟨rfl, k1⟩
  have H1 : Hid (Wr 81 w1 p S st) := H0.out.kept k1 (fun _ _ hm => by simp at hm)
  have K1 : Hid (Kept S w w1) := K0.out.trans k1 (fun i hi => by simp at hi)
  clear k1
  go_wp2_with fail
  refine (Wrt.text_any _ p S st (str (lett s)) (by have := lett_length s; rw [Rdr.str_size]; omega) ok H1).mono ?_
  rintro e w2 ⟨rfl, hw⟩
  have H2 := Lib.hid (Out.trans K1.out (fun k hk => Or.inl hk) hw)
  clear hw
  go_wp2_with fail
  go_end0
  exact ⟨rfl, H2.out⟩
set_option maxHeartbeats 1000000 in
set_option maxRecDepth 100000 in
theorem lays_any (w : World) (p : Nat) (S T : List Nat) (st : WS) (who k : Int) (n : Nat) (b : Value) (bs : List UInt8) (s : ByteArray) (hn : n ≤ 18446744073709551615) (hs : s.size ≤ 140737488355328) (hsz : bs.length ≤ 1152921504606846976) (hb : Hid (Src w b bs T)) (hd : Hid (∀ k ∈ T, k ∉ S)) (ok : Hid st.Ok) (h : Hid (Wr 81 w p S st)) (kind : Int) :
    Calls Try.prog 25 #[.pointer (some ⟨p, 0, none⟩), .agg #[.int .i64 who, .int .i64 kind, .int .u64 n, .int .i64 k, b, .string s]] w fun e w' => e = .returned (.tuple #[]) ∧ Out 81 w p S (st.lays kind n bs s) w' := by
  unfold WS.lays
  by_cases h1 : kind = 1
  · rw [if_pos h1]; subst h1; exact lays_1 w p S T st who k n b bs s hn hs hsz hb hd ok h
  rw [if_neg h1]
  by_cases h2 : kind = 2
  · rw [if_pos h2]; subst h2; exact lays_2 w p S T st who k n b bs s hn hs hsz hb hd ok h
  rw [if_neg h2]
  by_cases h3 : kind = 3
  · rw [if_pos h3]; subst h3; exact lays_3 w p S T st who k n b bs s hn hs hsz hb hd ok h
  rw [if_neg h3]
  by_cases h4 : kind = 4
  · rw [if_pos h4]; subst h4; exact lays_4 w p S T st who k n b bs s hn hs hsz hb hd ok h
  rw [if_neg h4]
  by_cases h5 : kind = 5
  · rw [if_pos h5]; subst h5; exact lays_5 w p S T st who k n b bs s hn hs hsz hb hd ok h
  rw [if_neg h5]
  by_cases h6 : kind = 6
  · rw [if_pos h6]; subst h6; exact lays_6 w p S T st who k n b bs s hn hs hsz hb hd ok h
  rw [if_neg h6]
  have b1 : (kind == 1) = false := by rw [beq_eq_false_iff_ne]; exact h1
  have b2 : (kind == 2) = false := by rw [beq_eq_false_iff_ne]; exact h2
  have b3 : (kind == 3) = false := by rw [beq_eq_false_iff_ne]; exact h3
  have b4 : (kind == 4) = false := by rw [beq_eq_false_iff_ne]; exact h4
  have b5 : (kind == 5) = false := by rw [beq_eq_false_iff_ne]; exact h5
  have b6 : (kind == 6) = false := by rw [beq_eq_false_iff_ne]; exact h6
  have H0 : Hid (Out 81 w p S st (w.alloc (.cells #[.int .i64 who, .int .i64 kind, .int .u64 n, .int .i64 k, b, .string s] 43 (0, 0)))) := ⟨S, h.out.kept ((Kept.refl [] _).alloc _) (fun _ _ hm => by simp at hm), (Kept.refl _ _).alloc _, fun k hk => Or.inl hk⟩
  obtain ⟨ab, qb, rfl, -⟩ := id hb.out
  go_enter Try.func25, Try.ntmps25
  go_wp2_with fail
  go_end0
  exact ⟨rfl, H0.out⟩
end Bkw
end Go.Proofs.Ytdbhdajedgkpbaa
