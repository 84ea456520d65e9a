/- What pick, char and spoil of the law do. -/
import Derived.Test.YtlmfcnedbmonjaaMad
import Derived.Test.YtlmfcnedbmonjaaRop
namespace Go.Proofs.Ytlmfcnedbmonjaa.Mad
set_option linter.unusedVariables false
open Go.RowKit Go.PlainAid Go.Proofs.Ytlmfcnedbmonjaa.Utf Go.Proofs.Ytlmfcnedbmonjaa.Txt

/-- Which of n things a raw number speaks of. -/
def pk (c : Int) (n : Nat) : Nat := ((if c < 0 then -(c + 1) else c) % n).toNat
theorem pk_lt (c : Int) (n : Nat) (h : 0 < n) : pk c n < n := by
  unfold pk
  have := Int.emod_lt_of_pos (if c < 0 then -(c + 1) else c) (show (0 : Int) < n by omega)
  have := Int.emod_nonneg (if c < 0 then -(c + 1) else c) (show (n : Int) ≠ 0 by omega)
  omega
theorem pick_any (c x : Int) (n : Nat) (w : World) (hx : x = n) (hn : 1 ≤ n) (hn2 : n ≤ 1152921504606846976) (h1 : -9223372036854775808 ≤ c) (h2 : c ≤ 9223372036854775807) :
    Calls Try.prog 16 #[.int .i64 c, .int .i64 x] w fun e w' => e = .returned (.int .i64 (pk c n)) ∧ w = w' := by
  subst hx
  have hp : (0 : Int) < (n : Int) := by omega
  have h0 : ((n : Int) == 0) = false := by simp; omega
  by_cases hc : c < 0
  · have e : (pk c n : Int) = (-(c + 1)) % (n : Int) := by
      unfold pk; rw [if_pos hc]
      have := Int.emod_nonneg (-(c + 1)) (show (n : Int) ≠ 0 by omega)
      omega
    rw [e]
    clear e
    go_enter Try.func16, Try.ntmps16
    go_wp2_with fail
    go_ret
    refine ⟨ret_int ?_, rfl⟩
    rw [← Int.neg_tmod, Int.tmod_eq_emod_of_nonneg (by omega)]
  · have e : (pk c n : Int) = c % (n : Int) := by
      unfold pk; rw [if_neg hc]
      have := Int.emod_nonneg c (show (n : Int) ≠ 0 by omega)
      omega
    rw [e]
    clear e
    go_enter Try.func16, Try.ntmps16
    go_wp2_with fail
    go_ret
    exact ⟨rfl, rfl⟩

set_option maxRecDepth 1000000 in
theorem char1 (n : Nat) (w : World) (hn : n < 128) :
    Calls Try.prog 17 #[.int .i64 n] w fun e w' => e = .returned (.string (tx (chb n))) ∧ Kept [] w w' := by
  have e : chb n = [UInt8.ofNat n] := by unfold chb; rw [if_pos hn]
  rw [e]
  clear e
  obtain ⟨W, hW⟩ : ∃ W, W = w.alloc (.cells #[.int .u8 ((n : Int))] 5) := ⟨_, rfl⟩
  have hk : Kept [] w W := by rw [hW]; exact (Kept.refl _ _).alloc _
  have hcv : (convert 44 9 (.slice (some ⟨w.heap.size, 0, none⟩) 1 1)).run Try.prog W = .ok (.string (tx [UInt8.ofNat n])) W := by
    have hh := heap_alloc_new w (.cells #[.int .u8 ((n : Int))] 5)
    rw [← hW] at hh
    refine run_convert_bytes_back W 44 9 5 ⟨w.heap.size, 0, none⟩ 1 [UInt8.ofNat n] Try.underlying44 Try.underlying5 Try.underlying9 (fun j hj => ?_)
    rw [Addr.add_lit, cell_of_row W w.heap.size (0 + j) _ 5 (0, 0) hh]
    match j, hj with
    | 0, _ => simp; try omega
  rw [hW] at hcv
  obtain ⟨T, hT⟩ : ∃ T, T = tx [UInt8.ofNat n] := ⟨_, rfl⟩
  rw [← hT] at hcv ⊢
  clear hW hk hT
  go_enter Try.func17, Try.ntmps17
  go_wp2_with fail
  go_ret
  exact ⟨rfl, (Kept.refl _ _).alloc _⟩
set_option maxRecDepth 1000000 in
theorem char2 (n : Nat) (w : World) (h0 : 128 ≤ n) (hn : n < 2048) :
    Calls Try.prog 17 #[.int .i64 n] w fun e w' => e = .returned (.string (tx (chb n))) ∧ Kept [] w w' := by
  have e : chb n = [UInt8.ofNat (192 + n / 64), UInt8.ofNat (128 + n % 64)] := by unfold chb; rw [if_neg (by omega), if_pos hn]
  rw [e]
  clear e
  obtain ⟨W, hW⟩ : ∃ W, W = w.alloc (.cells #[.int .u8 (192 + (n : Int) / 64), .int .u8 (128 + (n : Int) % 64)] 5) := ⟨_, rfl⟩
  have hk : Kept [] w W := by rw [hW]; exact (Kept.refl _ _).alloc _
  have hcv : (convert 44 9 (.slice (some ⟨w.heap.size, 0, none⟩) 2 2)).run Try.prog W = .ok (.string (tx [UInt8.ofNat (192 + n / 64), UInt8.ofNat (128 + n % 64)])) W := by
    have hh := heap_alloc_new w (.cells #[.int .u8 (192 + (n : Int) / 64), .int .u8 (128 + (n : Int) % 64)] 5)
    rw [← hW] at hh
    refine run_convert_bytes_back W 44 9 5 ⟨w.heap.size, 0, none⟩ 2 [UInt8.ofNat (192 + n / 64), UInt8.ofNat (128 + n % 64)] Try.underlying44 Try.underlying5 Try.underlying9 (fun j hj => ?_)
    rw [Addr.add_lit, cell_of_row W w.heap.size (0 + j) _ 5 (0, 0) hh]
    match j, hj with
    | 0, _ => simp; try omega
    | 1, _ => simp; try omega
  rw [hW] at hcv
  obtain ⟨T, hT⟩ : ∃ T, T = tx [UInt8.ofNat (192 + n / 64), UInt8.ofNat (128 + n % 64)] := ⟨_, rfl⟩
  rw [← hT] at hcv ⊢
  clear hW hk hT
  go_enter Try.func17, Try.ntmps17
  go_wp2_with fail
  go_ret
  exact ⟨rfl, (Kept.refl _ _).alloc _⟩
set_option maxRecDepth 1000000 in
theorem char3 (n : Nat) (w : World) (h0 : 2048 ≤ n) (hn : n < 65536) :
    Calls Try.prog 17 #[.int .i64 n] w fun e w' => e = .returned (.string (tx (chb n))) ∧ Kept [] w w' := by
  have e : chb n = [UInt8.ofNat (224 + n / 4096), UInt8.ofNat (128 + n / 64 % 64), UInt8.ofNat (128 + n % 64)] := by unfold chb; rw [if_neg (by omega), if_neg (by omega), if_pos hn]
  rw [e]
  clear e
  obtain ⟨W, hW⟩ : ∃ W, W = w.alloc (.cells #[.int .u8 (224 + (n : Int) / 4096), .int .u8 (128 + (n : Int) / 64 % 64), .int .u8 (128 + (n : Int) % 64)] 5) := ⟨_, rfl⟩
  have hk : Kept [] w W := by rw [hW]; exact (Kept.refl _ _).alloc _
  have hcv : (convert 44 9 (.slice (some ⟨w.heap.size, 0, none⟩) 3 3)).run Try.prog W = .ok (.string (tx [UInt8.ofNat (224 + n / 4096), UInt8.ofNat (128 + n / 64 % 64), UInt8.ofNat (128 + n % 64)])) W := by
    have hh := heap_alloc_new w (.cells #[.int .u8 (224 + (n : Int) / 4096), .int .u8 (128 + (n : Int) / 64 % 64), .int .u8 (128 + (n : Int) % 64)] 5)
    rw [← hW] at hh
    refine run_convert_bytes_back W 44 9 5 ⟨w.heap.size, 0, none⟩ 3 [UInt8.ofNat (224 + n / 4096), UInt8.ofNat (128 + n / 64 % 64), UInt8.ofNat (128 + n % 64)] Try.underlying44 Try.underlying5 Try.underlying9 (fun j hj => ?_)
    rw [Addr.add_lit, cell_of_row W w.heap.size (0 + j) _ 5 (0, 0) hh]
    match j, hj with
    | 0, _ => simp; try omega
    | 1, _ => simp; try omega
    | 2, _ => simp; try omega
  rw [hW] at hcv
  obtain ⟨T, hT⟩ : ∃ T, T = tx [UInt8.ofNat (224 + n / 4096), UInt8.ofNat (128 + n / 64 % 64), UInt8.ofNat (128 + n % 64)] := ⟨_, rfl⟩
  rw [← hT] at hcv ⊢
  clear hW hk hT
  have k1 : ¬ (n : Int) < 2048 := by omega
  have k2 : (n : Int) < 65536 := by omega
  have k3 : ¬ (n : Int) < 128 := by omega
  go_enter Try.func17, Try.ntmps17
  go_wp2_with fail
  go_ret
  exact ⟨rfl, (Kept.refl _ _).alloc _⟩
set_option maxRecDepth 1000000 in
theorem char4 (n : Nat) (w : World) (h0 : 65536 ≤ n) (hn : n ≤ 1114111) :
    Calls Try.prog 17 #[.int .i64 n] w fun e w' => e = .returned (.string (tx (chb n))) ∧ Kept [] w w' := by
  have e : chb n = [UInt8.ofNat (240 + n / 262144), UInt8.ofNat (128 + n / 4096 % 64), UInt8.ofNat (128 + n / 64 % 64), UInt8.ofNat (128 + n % 64)] := by unfold chb; rw [if_neg (by omega), if_neg (by omega), if_neg (by omega)]
  rw [e]
  clear e
  obtain ⟨W, hW⟩ : ∃ W, W = w.alloc (.cells #[.int .u8 (240 + (n : Int) / 262144), .int .u8 (128 + (n : Int) / 4096 % 64), .int .u8 (128 + (n : Int) / 64 % 64), .int .u8 (128 + (n : Int) % 64)] 5) := ⟨_, rfl⟩
  have hk : Kept [] w W := by rw [hW]; exact (Kept.refl _ _).alloc _
  have hcv : (convert 44 9 (.slice (some ⟨w.heap.size, 0, none⟩) 4 4)).run Try.prog W = .ok (.string (tx [UInt8.ofNat (240 + n / 262144), UInt8.ofNat (128 + n / 4096 % 64), UInt8.ofNat (128 + n / 64 % 64), UInt8.ofNat (128 + n % 64)])) W := by
    have hh := heap_alloc_new w (.cells #[.int .u8 (240 + (n : Int) / 262144), .int .u8 (128 + (n : Int) / 4096 % 64), .int .u8 (128 + (n : Int) / 64 % 64), .int .u8 (128 + (n : Int) % 64)] 5)
    rw [← hW] at hh
    refine run_convert_bytes_back W 44 9 5 ⟨w.heap.size, 0, none⟩ 4 [UInt8.ofNat (240 + n / 262144), UInt8.ofNat (128 + n / 4096 % 64), UInt8.ofNat (128 + n / 64 % 64), UInt8.ofNat (128 + n % 64)] Try.underlying44 Try.underlying5 Try.underlying9 (fun j hj => ?_)
    rw [Addr.add_lit, cell_of_row W w.heap.size (0 + j) _ 5 (0, 0) hh]
    match j, hj with
    | 0, _ => simp; try omega
    | 1, _ => simp; try omega
    | 2, _ => simp; try omega
    | 3, _ => simp; try omega
  rw [hW] at hcv
  obtain ⟨T, hT⟩ : ∃ T, T = tx [UInt8.ofNat (240 + n / 262144), UInt8.ofNat (128 + n / 4096 % 64), UInt8.ofNat (128 + n / 64 % 64), UInt8.ofNat (128 + n % 64)] := ⟨_, rfl⟩
  rw [← hT] at hcv ⊢
  clear hW hk hT
  have k1 : ¬ (n : Int) < 2048 := by omega
  have k2 : ¬ (n : Int) < 65536 := by omega
  have k3 : ¬ (n : Int) < 128 := by omega
  go_enter Try.func17, Try.ntmps17
  go_wp2_with fail
  go_ret
  exact ⟨rfl, (Kept.refl _ _).alloc _⟩

theorem char_any (x : Int) (n : Nat) (w : World) (hx : x = n) (hn : Num n) :
    Calls Try.prog 17 #[.int .i64 x] w fun e w' => e = .returned (.string (tx (chb n))) ∧ Kept [] w w' := by
  subst hx
  obtain ⟨h1, h2, h3⟩ := hn
  by_cases c0 : n < 128
  · exact char1 n w c0
  by_cases c1 : n < 2048
  · exact char2 n w (by omega) c1
  by_cases c2 : n < 65536
  · exact char3 n w (by omega) c2
  · exact char4 n w (by omega) h2

set_option maxHeartbeats 400000 in
theorem spoil_any (c : Int) (w : World) (h1 : -9223372036854775808 ≤ c) (h2 : c ≤ 9223372036854775807) :
    Calls Try.prog 18 #[.int .i64 c] w fun e w' => e = .returned (.string (tx (spl (pk c 12)))) ∧ w = w' := by
  have hlt := pk_lt c 12 (by decide)
  obtain ⟨k, hk⟩ : ∃ k, k = pk c 12 := ⟨_, rfl⟩
  rw [← hk] at hlt ⊢
  have HK := Lib.hid hk
  clear hk
  obtain rfl | rfl | rfl | rfl | rfl | rfl | rfl | rfl | rfl | rfl | rfl | rfl : k = 0 ∨ k = 1 ∨ k = 2 ∨ k = 3 ∨ k = 4 ∨ k = 5 ∨ k = 6 ∨ k = 7 ∨ k = 8 ∨ k = 9 ∨ k = 10 ∨ k = 11 := by omega
  all_goals
    clear hlt
    go_enter Try.func18, Try.ntmps18
    go_wp2_with fail
    refine (pick_any c _ 12 _ rfl (by decide) (by decide) h1 h2).mono ?_
    rintro e w1 ⟨rfl, rfl⟩
    rw [← HK.out]
    go_wp2_with fail
    go_ret
    exact ⟨rfl, rfl⟩
end Go.Proofs.Ytlmfcnedbmonjaa.Mad
