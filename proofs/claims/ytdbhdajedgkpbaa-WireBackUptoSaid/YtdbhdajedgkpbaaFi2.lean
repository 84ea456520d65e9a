/- WireBack's finds: bytes, texts, and what reads nothing. -/
import Derived.Test.YtdbhdajedgkpbaaFin
import Derived.Test.YtdbhdajedgkpbaaRaw
import Derived.Test.YtdbhdajedgkpbaaSam
namespace Go.Proofs.Ytdbhdajedgkpbaa
set_option linter.unusedVariables false
open Go.RowKit
theorem terr_lett (s : ByteArray) : terr (str (lett s)) = 0 := by
  have h1 := lett_length s
  have h2 : (str (lett s)).size = (lett s).length := Rdr.str_size _
  unfold terr
  rw [if_neg (by omega), good_lett s, if_neg (by simp)]
namespace Bkw
open Go.Proofs.Ytdbhdajedgkpbaa.Txt
set_option maxHeartbeats 1000000 in
set_option maxRecDepth 100000 in
theorem finds_5 (w : World) (r : Nat) (T T2 : List Nat) (rest bs : List UInt8) (p bad : Nat) (who k : Int) (n : Nat) (b : Value) (s : ByteArray) (hp : p + (bs.length + rest.length) ≤ 1152921504606) (hb : Hid (Src w b bs T2)) (hr2 : r ∉ T2) (h : Hid (Rd w r T ⟨bs ++ rest, p, 0, bad⟩)) :
    Calls Try.prog 70 #[.pointer (some ⟨r, 0, none⟩), .agg #[.int .i64 who, .int .i64 5, .int .u64 n, .int .i64 k, b, .string s]] w fun e w' => e = .returned (.bool true) ∧ Hid (Rd w' r T ⟨rest, p + bs.length, 0, bad⟩) ∧ Kept [r] w w' := by
  obtain ⟨a1, a2⟩ := RS.next_add bs rest p bad bs.length rfl
  have ok : Hid (⟨bs ++ rest, p, 0, bad⟩ : RS).Ok := ⟨by simp; omega, by show (-9223372036854775808 : Int) ≤ 0; decide, by show (0 : Int) ≤ 9223372036854775807; decide⟩
  have RAW := fun (w1 : World) (h1 : Hid (Rd w1 r T ⟨bs ++ rest, p, 0, bad⟩)) => Rdr.raw_any w1 r T _ (bs.length : Int) (by simp; omega) ok h1
  have hn0 : ¬ ((bs.length : Int) < 0) := by omega
  have RAW2 : Hid (∀ (w1 : World), Hid (Rd w1 r T ⟨bs ++ rest, p, 0, bad⟩) → Calls Try.prog 50 #[.pointer (some ⟨r, 0, none⟩), .int .i64 bs.length] w1 fun e w' => ∃ v, e = .returned v ∧ Hid (Wrt.Own w' w1.heap.size v bs) ∧ Hid (Rd w' r T ⟨rest, p + bs.length, 0, bad⟩) ∧ Kept [r] w1 w') := by
    intro w1 h1
    refine (RAW w1 h1).mono ?_
    rintro e w' ⟨v, he, h2, h3, h4⟩
    unfold RS.raws at h2
    unfold RS.rawed at h3
    rw [if_neg hn0, Int.toNat_natCast, a2] at h2
    rw [if_neg hn0, Int.toNat_natCast, a1] at h3
    exact ⟨v, he, h2, h3, h4⟩
  clear RAW a1 a2 ok
  have K0 : Hid (Kept [r] w (w.alloc (.cells #[.int .i64 who, .int .i64 5, .int .u64 n, .int .i64 k, b, .string s] 43 (0, 0)))) := (Kept.refl _ _).alloc _
  have H0 : Hid (Rd (w.alloc (.cells #[.int .i64 who, .int .i64 5, .int .u64 n, .int .i64 k, b, .string s] 43 (0, 0))) r T ⟨bs ++ rest, p, 0, bad⟩) := h.out.kept ((Kept.refl [] _).alloc _) (by simp) (fun _ _ hm => by simp at hm)
  have L0 : Hid ((w.alloc (.cells #[.int .i64 who, .int .i64 5, .int .u64 n, .int .i64 k, b, .string s] 43 (0, 0))).heap[w.heap.size]? = some (.cells #[.int .i64 who, .int .i64 5, .int .u64 n, .int .i64 k, b, .string s] 43 (0, 0))) := heap_alloc_new w _
  have hrn : w.heap.size ≠ r := by have := h.out.lt; omega
  obtain ⟨ab, qb, rfl, -⟩ := id hb.out
  go_enter Try.func70, Try.ntmps70
  go_wp2_with fail
  refine (RAW2.out _ H0).mono ?_
  rintro e w1 ⟨v1, rfl, hv1, hr1, k1⟩
  obtain ⟨a1, q1, hs1⟩ := own_slice_b hv1.out
  subst hs1
  have K1 : Hid (Kept [r] w w1) := K0.out.trans k1 (fun i hi => Or.inl hi)
  have L1 := (k1.block _ (block_lt L0.out) (fun hm => hrn (by simpa using hm))).trans L0.out
  have d4 : w1.cell? ⟨w.heap.size, 4, none⟩ = some (.slice ab bs.length qb) := by rw [cell_of_row w1 w.heap.size 4 _ _ (0, 0) L1]; rfl
  have B1 : Src w1 (.slice ab bs.length qb) bs T2 := hb.out.kept K1.out (fun k hk hm => hr2 (by simp at hm; exact hm ▸ hk))
  have SG := Lib.hid (Seg.of_own hv1.out)
  have SAME := Lst.same_src w1 _ _ bs bs _ T2 (by omega) SG B1
  have e1 : decide (bs = bs) = true := by simp
  rw [e1] at SAME
  have SAMEh := Lib.hid SAME
  clear k1 L1 SAME hv1 e1
  go_wp2_with fail
  refine SAMEh.out.mono ?_
  rintro e w2 ⟨rfl, k2⟩
  have R2 : Hid (Rd w2 r T ⟨rest, p + bs.length, 0, bad⟩) := hr1.out.kept k2 (by simp) (fun _ _ hm => by simp at hm)
  have K2 : Hid (Kept [r] w w2) := K1.out.trans k2 (fun i hi => by simp at hi)
  clear k2 d4
  go_wp2_with fail
  go_ret
  exact ⟨rfl, R2, K2.out⟩

set_option maxHeartbeats 1000000 in
set_option maxRecDepth 100000 in
theorem finds_6 (w : World) (r : Nat) (T : List Nat) (rest : List UInt8) (p bad : Nat) (who k : Int) (n : Nat) (b : Value) (s : ByteArray) (hs : s.size ≤ 140737488355328) (hp : p + (2 + (lett s).length + rest.length) ≤ 1152921504606) (hT : Hid (∀ k ∈ T, k < w.heap.size)) (h : Hid (Rd w r T ⟨tbs (str (lett s)) ++ rest, p, 0, bad⟩)) :
    Calls Try.prog 70 #[.pointer (some ⟨r, 0, none⟩), .agg #[.int .i64 who, .int .i64 6, .int .u64 n, .int .i64 k, b, .string s]] w fun e w' => e = .returned (.bool true) ∧ Hid (Rd w' r T ⟨rest, p + (2 + (str (lett s)).size), 0, bad⟩) ∧ Kept [r] w w' := by
  obtain ⟨a1, a2⟩ := RS.text_add (str (lett s)) rest p bad (terr_lett s)
  have hsz : (str (lett s)).size = (lett s).length := Rdr.str_size _
  have ok : Hid (⟨tbs (str (lett s)) ++ rest, p, 0, bad⟩ : RS).Ok := ⟨by simp only [List.length_append, tbs_length]; omega, by show (-9223372036854775808 : Int) ≤ 0; decide, by show (0 : Int) ≤ 9223372036854775807; decide⟩
  have TEXT : Hid (∀ (w1 : World), Hid (∀ k ∈ T, k < w1.heap.size) → Hid (Rd w1 r T ⟨tbs (str (lett s)) ++ rest, p, 0, bad⟩) → Calls Try.prog 37 #[.pointer (some ⟨r, 0, none⟩)] w1 fun e w' => e = .returned (.string (str (lett s))) ∧ Hid (Rd w' r T ⟨rest, p + (2 + (str (lett s)).size), 0, bad⟩) ∧ Kept [r] w1 w') := by
    intro w1 h0 h1
    refine (Rdr.text_any w1 r T _ h0 ok h1).mono ?_
    rintro e w' ⟨he, h2, h3⟩
    rw [a1] at h2
    rw [a2] at he
    exact ⟨he, h2, h3⟩
  have LET := Lib.hid fun (w1 : World) => letters_any w1 s hs
  obtain ⟨t, ht⟩ : ∃ x, x = str (lett s) := ⟨_, rfl⟩
  rw [← ht] at TEXT LET h ⊢
  clear a1 a2 ok ht hsz
  have K0 : Hid (Kept [r] w (w.alloc (.cells #[.int .i64 who, .int .i64 6, .int .u64 n, .int .i64 k, b, .string s] 43 (0, 0))).drew) := ((Kept.refl _ _).alloc _).drew
  have H0 : Hid (Rd (w.alloc (.cells #[.int .i64 who, .int .i64 6, .int .u64 n, .int .i64 k, b, .string s] 43 (0, 0))).drew r T ⟨tbs t ++ rest, p, 0, bad⟩) := h.out.kept (((Kept.refl [] _).alloc _).drew) (by simp) (fun _ _ hm => by simp at hm)
  have L0 : Hid ((w.alloc (.cells #[.int .i64 who, .int .i64 6, .int .u64 n, .int .i64 k, b, .string s] 43 (0, 0))).drew.heap[w.heap.size]? = some (.cells #[.int .i64 who, .int .i64 6, .int .u64 n, .int .i64 k, b, .string s] 43 (0, 0))) := heap_alloc_new w _
  have hrn : w.heap.size ≠ r := by have := h.out.lt; omega
  have T0 : Hid (∀ j ∈ T, j < (w.alloc (.cells #[.int .i64 who, .int .i64 6, .int .u64 n, .int .i64 k, b, .string s] 43 (0, 0))).drew.heap.size) := fun j hj => Nat.lt_of_lt_of_le (hT.out j hj) K0.out.size
  go_enter Try.func70, Try.ntmps70
  go_wp2_with fail
  go_region_with (first | (go_at_call 37; first | ((with_reducible refine (TEXT.out _ T0 H0).mono ?_); rintro e w1 ⟨rfl, h1, k1⟩; have K1 : Hid (Kept [r] w w1) := K0.out.trans k1 (fun i hi => Or.inl hi); have L1 := (k1.block _ (block_lt L0.out) (fun hm => hrn (by simpa using hm))).trans L0.out; have d5 : w1.cell? ⟨w.heap.size, 5, none⟩ = some (.string s) := (by rw [cell_of_row w1 w.heap.size 5 _ _ (0, 0) L1]; rfl); clear k1 L1) | ((with_reducible refine (TEXT.out _ T9 H9).mono ?_); rintro e w1 ⟨rfl, h1, k1⟩; have K1 : Hid (Kept [r] w w1) := K9.out.trans k1 (fun i hi => Or.inl hi); clear k1)) | (go_at_call 62; refine (LET.out _).mono ?_; first | (rintro e w9 ⟨rfl, k9⟩; have R9 : Hid (Rd w9 r T ⟨rest, p + (2 + t.size), 0, bad⟩) := h1.out.kept k9 (by simp) (fun _ _ hm => by simp at hm); have Q9 : Hid (Kept [r] w w9) := K1.out.trans k9 (fun i hi => by simp at hi); clear k9) | (rintro e w9 ⟨rfl, k9⟩; have K9 : Hid (Kept [r] w w9) := K0.out.trans k9 (fun i hi => by simp at hi); have H9 : Hid (Rd w9 r T ⟨tbs t ++ rest, p, 0, bad⟩) := H0.out.kept k9 (by simp) (fun _ _ hm => by simp at hm); have T9 : Hid (∀ k ∈ T, k < w9.heap.size) := (fun j hj => Nat.lt_of_lt_of_le (T0.out j hj) k9.size); clear k9)))
  all_goals go_wp2_with fail
  all_goals go_ret
  all_goals first | exact ⟨by simp [Act.put], R9, Q9.out⟩ | exact ⟨by simp [Act.put], h1, K1.out⟩ | exact ⟨rfl, R9, Q9.out⟩ | exact ⟨rfl, h1, K1.out⟩

set_option maxHeartbeats 1000000 in
set_option maxRecDepth 100000 in
theorem finds_else (w : World) (r : Nat) (T : List Nat) (st : RS) (who kind k : Int) (n : Nat) (b : Value) (s : ByteArray) (h1 : kind ≠ 1) (h2 : kind ≠ 2) (h3 : kind ≠ 3) (h4 : kind ≠ 4) (h5 : kind ≠ 5) (h6 : kind ≠ 6) (h : Hid (Rd w r T st)) :
    Calls Try.prog 70 #[.pointer (some ⟨r, 0, none⟩), .agg #[.int .i64 who, .int .i64 kind, .int .u64 n, .int .i64 k, b, .string s]] w fun e w' => e = .returned (.bool true) ∧ Hid (Rd w' r T st) ∧ Kept [r] w w' := by
  have b1 : (kind == 1) = false := by rw [beq_eq_false_iff_ne]; exact h1
  have b2 : (kind == 2) = false := by rw [beq_eq_false_iff_ne]; exact h2
  have b3 : (kind == 3) = false := by rw [beq_eq_false_iff_ne]; exact h3
  have b4 : (kind == 4) = false := by rw [beq_eq_false_iff_ne]; exact h4
  have b5 : (kind == 5) = false := by rw [beq_eq_false_iff_ne]; exact h5
  have b6 : (kind == 6) = false := by rw [beq_eq_false_iff_ne]; exact h6
  have K0 : Hid (Kept [r] w (w.alloc (.cells #[.int .i64 who, .int .i64 kind, .int .u64 n, .int .i64 k, b, .string s] 43 (0, 0)))) := (Kept.refl _ _).alloc _
  have H0 : Hid (Rd (w.alloc (.cells #[.int .i64 who, .int .i64 kind, .int .u64 n, .int .i64 k, b, .string s] 43 (0, 0))) r T st) := h.out.kept ((Kept.refl [] _).alloc _) (by simp) (fun _ _ hm => by simp at hm)
  go_enter Try.func70, Try.ntmps70
  go_wp2_with fail
  go_ret
  exact ⟨rfl, H0, K0.out⟩
end Bkw
end Go.Proofs.Ytdbhdajedgkpbaa
