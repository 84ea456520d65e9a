/- WireBack's finds: what a step wrote is read again: numbers. -/
import Derived.Test.YtdbhdajedgkpbaaLay
import Derived.Test.YtdbhdajedgkpbaaRec
import Derived.RegionTactic
namespace Go.Proofs.Ytdbhdajedgkpbaa
set_option linter.unusedVariables false
open Go.RowKit
namespace Bkw
open Go.Proofs.Ytdbhdajedgkpbaa.Txt
set_option maxHeartbeats 1000000 in
set_option maxRecDepth 100000 in
theorem finds_1 (w : World) (r : Nat) (T : List Nat) (rest : List UInt8) (p bad : Nat) (who k : Int) (n : Nat) (b : Value) (s : ByteArray) (hn : n ≤ 18446744073709551615) (hp : p + (1 + rest.length) ≤ 1152921504606846976) (h : Hid (Rd w r T ⟨le 1 (n % 256) ++ rest, p, 0, bad⟩)) :
    Calls Try.prog 70 #[.pointer (some ⟨r, 0, none⟩), .agg #[.int .i64 who, .int .i64 1, .int .u64 n, .int .i64 k, b, .string s]] w fun e w' => e = .returned (.bool true) ∧ Hid (Rd w' r T ⟨rest, p + 1, 0, bad⟩) ∧ Kept [r] w w' := by
  obtain ⟨x, hx⟩ : ∃ x : Nat, x = n % 256 := ⟨_, rfl⟩
  have hxm : x < 256 := by omega
  rw [← hx] at h
  obtain ⟨a1, a2⟩ := RS.next_add (le 1 x) rest p bad 1 (le_length _ _)
  have ok : Hid (⟨le 1 x ++ rest, p, 0, bad⟩ : RS).Ok := ⟨by simp [le_length]; omega, by show (-9223372036854775808 : Int) ≤ 0; decide, by show (0 : Int) ≤ 9223372036854775807; decide⟩
  have hv : leval (le 1 x) = x := leval_le 1 x (by omega)
  have CON := fun (w1 : World) (h1 : Hid (Rd w1 r T ⟨le 1 x ++ rest, p, 0, bad⟩)) => Rdr.u8_any w1 r T _ ok h1
  rw [a1, a2, hv] at CON
  have CONh := Lib.hid CON
  have K0 : Hid (Kept [r] w (w.alloc (.cells #[.int .i64 who, .int .i64 1, .int .u64 n, .int .i64 k, b, .string s] 43 (0, 0)))) := (Kept.refl _ _).alloc _
  have H0 : Hid (Rd (w.alloc (.cells #[.int .i64 who, .int .i64 1, .int .u64 n, .int .i64 k, b, .string s] 43 (0, 0))) r T ⟨le 1 x ++ rest, p, 0, bad⟩) := h.out.kept ((Kept.refl [] _).alloc _) (by simp) (fun _ _ hm => by simp at hm)
  have H0d : Hid (Rd (w.alloc (.cells #[.int .i64 who, .int .i64 1, .int .u64 n, .int .i64 k, b, .string s] 43 (0, 0))).drew r T ⟨le 1 x ++ rest, p, 0, bad⟩) := H0.out.kept ((Kept.refl [] _).drew) (by simp) (fun _ _ hm => by simp at hm)
  have hlt : w.heap.size < (w.alloc (.cells #[.int .i64 who, .int .i64 1, .int .u64 n, .int .i64 k, b, .string s] 43 (0, 0))).drew.heap.size := by simp
  have hrn : w.heap.size ≠ r := by have := h.out.lt; omega
  have c2 : (w.alloc (.cells #[.int .i64 who, .int .i64 1, .int .u64 n, .int .i64 k, b, .string s] 43 (0, 0))).drew.cell? ⟨w.heap.size, 2, none⟩ = some (.int .u64 n) := by
    have hb := heap_alloc_new w (.cells #[.int .i64 who, .int .i64 1, .int .u64 n, .int .i64 k, b, .string s] 43 (0, 0))
    have := cell_of_row (w.alloc (.cells #[.int .i64 who, .int .i64 1, .int .u64 n, .int .i64 k, b, .string s] 43 (0, 0))) w.heap.size 2 _ _ (0, 0) hb
    exact this.trans rfl
  have hwr : ((n : Int) % 256 == IntKind.u8.wrap (n : Int)) = true := by rw [IntKind.wrap_u8]; simp
  clear CON a1 a2 hv ok
  go_enter Try.func70, Try.ntmps70
  go_wp2_with fail
  go_region_with (go_at_call 36; refine (CONh.out _ H0d).mono ?_; rintro e w1 ⟨rfl, h1, k1⟩; have K1 : Hid (Kept [r] w w1) := K0.out.drew.trans k1 (fun i hi => Or.inl hi); have d2 : w1.cell? ⟨w.heap.size, 2, none⟩ = some (.int .u64 n) := (World.cell?_of_block (k1.block _ hlt (fun hm => hrn (by simpa using hm)))).trans c2; clear k1)
  all_goals go_wp2_with fail
  all_goals go_ret
  all_goals exact ⟨by simp [Act.put], h1, K1.out⟩
set_option maxHeartbeats 1000000 in
set_option maxRecDepth 100000 in
theorem finds_2 (w : World) (r : Nat) (T : List Nat) (rest : List UInt8) (p bad : Nat) (who k : Int) (n : Nat) (b : Value) (s : ByteArray) (hn : n ≤ 18446744073709551615) (hp : p + (2 + rest.length) ≤ 1152921504606846976) (h : Hid (Rd w r T ⟨le 2 (n % 65536) ++ rest, p, 0, bad⟩)) :
    Calls Try.prog 70 #[.pointer (some ⟨r, 0, none⟩), .agg #[.int .i64 who, .int .i64 2, .int .u64 n, .int .i64 k, b, .string s]] w fun e w' => e = .returned (.bool true) ∧ Hid (Rd w' r T ⟨rest, p + 2, 0, bad⟩) ∧ Kept [r] w w' := by
  obtain ⟨x, hx⟩ : ∃ x : Nat, x = n % 65536 := ⟨_, rfl⟩
  have hxm : x < 65536 := by omega
  rw [← hx] at h
  obtain ⟨a1, a2⟩ := RS.next_add (le 2 x) rest p bad 2 (le_length _ _)
  have ok : Hid (⟨le 2 x ++ rest, p, 0, bad⟩ : RS).Ok := ⟨by simp [le_length]; omega, by show (-9223372036854775808 : Int) ≤ 0; decide, by show (0 : Int) ≤ 9223372036854775807; decide⟩
  have hv : leval (le 2 x) = x := leval_le 2 x (by omega)
  have CON := fun (w1 : World) (h1 : Hid (Rd w1 r T ⟨le 2 x ++ rest, p, 0, bad⟩)) => Rdr.u16_any w1 r T _ ok h1
  unfold RS.cnt at CON
  rw [a1, a2, hv] at CON
  have CONh := Lib.hid CON
  have K0 : Hid (Kept [r] w (w.alloc (.cells #[.int .i64 who, .int .i64 2, .int .u64 n, .int .i64 k, b, .string s] 43 (0, 0)))) := (Kept.refl _ _).alloc _
  have H0 : Hid (Rd (w.alloc (.cells #[.int .i64 who, .int .i64 2, .int .u64 n, .int .i64 k, b, .string s] 43 (0, 0))) r T ⟨le 2 x ++ rest, p, 0, bad⟩) := h.out.kept ((Kept.refl [] _).alloc _) (by simp) (fun _ _ hm => by simp at hm)
  have H0d : Hid (Rd (w.alloc (.cells #[.int .i64 who, .int .i64 2, .int .u64 n, .int .i64 k, b, .string s] 43 (0, 0))).drew r T ⟨le 2 x ++ rest, p, 0, bad⟩) := H0.out.kept ((Kept.refl [] _).drew) (by simp) (fun _ _ hm => by simp at hm)
  have hlt : w.heap.size < (w.alloc (.cells #[.int .i64 who, .int .i64 2, .int .u64 n, .int .i64 k, b, .string s] 43 (0, 0))).drew.heap.size := by simp
  have hrn : w.heap.size ≠ r := by have := h.out.lt; omega
  have c2 : (w.alloc (.cells #[.int .i64 who, .int .i64 2, .int .u64 n, .int .i64 k, b, .string s] 43 (0, 0))).drew.cell? ⟨w.heap.size, 2, none⟩ = some (.int .u64 n) := by
    have hb := heap_alloc_new w (.cells #[.int .i64 who, .int .i64 2, .int .u64 n, .int .i64 k, b, .string s] 43 (0, 0))
    have := cell_of_row (w.alloc (.cells #[.int .i64 who, .int .i64 2, .int .u64 n, .int .i64 k, b, .string s] 43 (0, 0))) w.heap.size 2 _ _ (0, 0) hb
    exact this.trans rfl
  have hwr : ((n : Int) % 65536 == IntKind.u16.wrap (n : Int)) = true := by rw [IntKind.wrap_u16]; simp
  clear CON a1 a2 hv ok
  go_enter Try.func70, Try.ntmps70
  go_wp2_with fail
  go_region_with (go_at_call 34; refine (CONh.out _ H0d).mono ?_; rintro e w1 ⟨rfl, h1, k1⟩; have K1 : Hid (Kept [r] w w1) := K0.out.drew.trans k1 (fun i hi => Or.inl hi); have d2 : w1.cell? ⟨w.heap.size, 2, none⟩ = some (.int .u64 n) := (World.cell?_of_block (k1.block _ hlt (fun hm => hrn (by simpa using hm)))).trans c2; clear k1)
  all_goals go_wp2_with fail
  all_goals go_ret
  all_goals exact ⟨by simp [Act.put], h1, K1.out⟩
set_option maxHeartbeats 1000000 in
set_option maxRecDepth 100000 in
theorem finds_3 (w : World) (r : Nat) (T : List Nat) (rest : List UInt8) (p bad : Nat) (who k : Int) (n : Nat) (b : Value) (s : ByteArray) (hn : n ≤ 18446744073709551615) (hp : p + (4 + rest.length) ≤ 1152921504606846976) (h : Hid (Rd w r T ⟨le 4 (n % 4294967296) ++ rest, p, 0, bad⟩)) :
    Calls Try.prog 70 #[.pointer (some ⟨r, 0, none⟩), .agg #[.int .i64 who, .int .i64 3, .int .u64 n, .int .i64 k, b, .string s]] w fun e w' => e = .returned (.bool true) ∧ Hid (Rd w' r T ⟨rest, p + 4, 0, bad⟩) ∧ Kept [r] w w' := by
  obtain ⟨x, hx⟩ : ∃ x : Nat, x = n % 4294967296 := ⟨_, rfl⟩
  have hxm : x < 4294967296 := by omega
  rw [← hx] at h
  obtain ⟨a1, a2⟩ := RS.next_add (le 4 x) rest p bad 4 (le_length _ _)
  have ok : Hid (⟨le 4 x ++ rest, p, 0, bad⟩ : RS).Ok := ⟨by simp [le_length]; omega, by show (-9223372036854775808 : Int) ≤ 0; decide, by show (0 : Int) ≤ 9223372036854775807; decide⟩
  have hv : leval (le 4 x) = x := leval_le 4 x (by omega)
  have CON := fun (w1 : World) (h1 : Hid (Rd w1 r T ⟨le 4 x ++ rest, p, 0, bad⟩)) => Rdr.u32_any w1 r T _ ok h1
  rw [a1, a2, hv] at CON
  have CONh := Lib.hid CON
  have K0 : Hid (Kept [r] w (w.alloc (.cells #[.int .i64 who, .int .i64 3, .int .u64 n, .int .i64 k, b, .string s] 43 (0, 0)))) := (Kept.refl _ _).alloc _
  have H0 : Hid (Rd (w.alloc (.cells #[.int .i64 who, .int .i64 3, .int .u64 n, .int .i64 k, b, .string s] 43 (0, 0))) r T ⟨le 4 x ++ rest, p, 0, bad⟩) := h.out.kept ((Kept.refl [] _).alloc _) (by simp) (fun _ _ hm => by simp at hm)
  have H0d : Hid (Rd (w.alloc (.cells #[.int .i64 who, .int .i64 3, .int .u64 n, .int .i64 k, b, .string s] 43 (0, 0))).drew r T ⟨le 4 x ++ rest, p, 0, bad⟩) := H0.out.kept ((Kept.refl [] _).drew) (by simp) (fun _ _ hm => by simp at hm)
  have hlt : w.heap.size < (w.alloc (.cells #[.int .i64 who, .int .i64 3, .int .u64 n, .int .i64 k, b, .string s] 43 (0, 0))).drew.heap.size := by simp
  have hrn : w.heap.size ≠ r := by have := h.out.lt; omega
  have c2 : (w.alloc (.cells #[.int .i64 who, .int .i64 3, .int .u64 n, .int .i64 k, b, .string s] 43 (0, 0))).drew.cell? ⟨w.heap.size, 2, none⟩ = some (.int .u64 n) := by
    have hb := heap_alloc_new w (.cells #[.int .i64 who, .int .i64 3, .int .u64 n, .int .i64 k, b, .string s] 43 (0, 0))
    have := cell_of_row (w.alloc (.cells #[.int .i64 who, .int .i64 3, .int .u64 n, .int .i64 k, b, .string s] 43 (0, 0))) w.heap.size 2 _ _ (0, 0) hb
    exact this.trans rfl
  have hwr : ((n : Int) % 4294967296 == IntKind.u32.wrap (n : Int)) = true := by rw [IntKind.wrap_u32]; simp
  clear CON a1 a2 hv ok
  go_enter Try.func70, Try.ntmps70
  go_wp2_with fail
  go_region_with (go_at_call 92; refine (CONh.out _ H0d).mono ?_; rintro e w1 ⟨rfl, h1, k1⟩; have K1 : Hid (Kept [r] w w1) := K0.out.drew.trans k1 (fun i hi => Or.inl hi); have d2 : w1.cell? ⟨w.heap.size, 2, none⟩ = some (.int .u64 n) := (World.cell?_of_block (k1.block _ hlt (fun hm => hrn (by simpa using hm)))).trans c2; clear k1)
  all_goals go_wp2_with fail
  all_goals go_ret
  all_goals exact ⟨by simp [Act.put], h1, K1.out⟩
set_option maxHeartbeats 1000000 in
set_option maxRecDepth 100000 in
theorem finds_4 (w : World) (r : Nat) (T : List Nat) (rest : List UInt8) (p bad : Nat) (who k : Int) (n : Nat) (b : Value) (s : ByteArray) (hn : n ≤ 18446744073709551615) (hp : p + (8 + rest.length) ≤ 1152921504606846976) (h : Hid (Rd w r T ⟨le 8 (n) ++ rest, p, 0, bad⟩)) :
    Calls Try.prog 70 #[.pointer (some ⟨r, 0, none⟩), .agg #[.int .i64 who, .int .i64 4, .int .u64 n, .int .i64 k, b, .string s]] w fun e w' => e = .returned (.bool true) ∧ Hid (Rd w' r T ⟨rest, p + 8, 0, bad⟩) ∧ Kept [r] w w' := by
  obtain ⟨x, hx⟩ : ∃ x : Nat, x = n := ⟨_, rfl⟩
  have hxm : x < 18446744073709551616 := by omega
  rw [← hx] at h
  obtain ⟨a1, a2⟩ := RS.next_add (le 8 x) rest p bad 8 (le_length _ _)
  have ok : Hid (⟨le 8 x ++ rest, p, 0, bad⟩ : RS).Ok := ⟨by simp [le_length]; omega, by show (-9223372036854775808 : Int) ≤ 0; decide, by show (0 : Int) ≤ 9223372036854775807; decide⟩
  have hv : leval (le 8 x) = x := leval_le 8 x (by omega)
  have CON := fun (w1 : World) (h1 : Hid (Rd w1 r T ⟨le 8 x ++ rest, p, 0, bad⟩)) => Rdr.u64_any w1 r T _ ok h1
  rw [a1, a2, hv] at CON
  have CONh := Lib.hid CON
  have K0 : Hid (Kept [r] w (w.alloc (.cells #[.int .i64 who, .int .i64 4, .int .u64 n, .int .i64 k, b, .string s] 43 (0, 0)))) := (Kept.refl _ _).alloc _
  have H0 : Hid (Rd (w.alloc (.cells #[.int .i64 who, .int .i64 4, .int .u64 n, .int .i64 k, b, .string s] 43 (0, 0))) r T ⟨le 8 x ++ rest, p, 0, bad⟩) := h.out.kept ((Kept.refl [] _).alloc _) (by simp) (fun _ _ hm => by simp at hm)
  have H0d : Hid (Rd (w.alloc (.cells #[.int .i64 who, .int .i64 4, .int .u64 n, .int .i64 k, b, .string s] 43 (0, 0))).drew r T ⟨le 8 x ++ rest, p, 0, bad⟩) := H0.out.kept ((Kept.refl [] _).drew) (by simp) (fun _ _ hm => by simp at hm)
  have hlt : w.heap.size < (w.alloc (.cells #[.int .i64 who, .int .i64 4, .int .u64 n, .int .i64 k, b, .string s] 43 (0, 0))).drew.heap.size := by simp
  have hrn : w.heap.size ≠ r := by have := h.out.lt; omega
  have c2 : (w.alloc (.cells #[.int .i64 who, .int .i64 4, .int .u64 n, .int .i64 k, b, .string s] 43 (0, 0))).drew.cell? ⟨w.heap.size, 2, none⟩ = some (.int .u64 n) := by
    have hb := heap_alloc_new w (.cells #[.int .i64 who, .int .i64 4, .int .u64 n, .int .i64 k, b, .string s] 43 (0, 0))
    have := cell_of_row (w.alloc (.cells #[.int .i64 who, .int .i64 4, .int .u64 n, .int .i64 k, b, .string s] 43 (0, 0))) w.heap.size 2 _ _ (0, 0) hb
    exact this.trans rfl
  have hwr : True := trivial
  clear CON a1 a2 hv ok
  go_enter Try.func70, Try.ntmps70
  go_wp2_with fail
  go_region_with (go_at_call 94; refine (CONh.out _ H0d).mono ?_; rintro e w1 ⟨rfl, h1, k1⟩; have K1 : Hid (Kept [r] w w1) := K0.out.drew.trans k1 (fun i hi => Or.inl hi); have d2 : w1.cell? ⟨w.heap.size, 2, none⟩ = some (.int .u64 n) := (World.cell?_of_block (k1.block _ hlt (fun hm => hrn (by simpa using hm)))).trans c2; clear k1)
  all_goals go_wp2_with fail
  all_goals go_ret
  all_goals exact ⟨by simp [Act.put], h1, K1.out⟩
end Bkw
end Go.Proofs.Ytdbhdajedgkpbaa
