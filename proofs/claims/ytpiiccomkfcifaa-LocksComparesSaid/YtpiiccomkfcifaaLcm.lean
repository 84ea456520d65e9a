/- locks: Compare, the code's and the document's. -/
import Derived.Test.YtpiiccomkfcifaaLky
namespace Go.Proofs.Ytpiiccomkfcifaa
set_option linter.unusedVariables false
open Go.RowKit
namespace Lk
open Go.Proofs.Ytpiiccomkfcifaa.Mpf Go.PlainAid
/-- Of two numbers. -/
def cmpI (x y : Int) : Int := if x < y then -1 else if y < x then 1 else 0
theorem nan_kind (w : World) (x : Int) : Calls Try.prog 47 #[.int .u8 x] w fun e w' => e = .returned (.bool false) ∧ w' = w := by
  go_enter Try.func47, Try.ntmps47
  go_wp2_with fail
  go_ret
  exact ⟨by simp, rfl⟩
theorem nan_int (w : World) (x : Int) : Calls Try.prog 48 #[.int .i64 x] w fun e w' => e = .returned (.bool false) ∧ w' = w := by
  go_enter Try.func48, Try.ntmps48
  go_wp2_with fail
  go_ret
  exact ⟨by simp, rfl⟩
theorem nan_u64 (w : World) (x : Int) : Calls Try.prog 49 #[.int .u64 x] w fun e w' => e = .returned (.bool false) ∧ w' = w := by
  go_enter Try.func49, Try.ntmps49
  go_wp2_with fail
  go_ret
  exact ⟨by simp, rfl⟩
theorem cmp_kind (w : World) (x y : Int) : Calls Try.prog 30 #[.int .u8 x, .int .u8 y] w fun e w' => e = .returned (.int .i64 (cmpI x y)) ∧ w' = w := by
  have NX := Lib.hid (fun (u : World) (x : Int) => nan_kind u x)
  unfold cmpI
  by_cases h1 : x < y
  · rw [if_pos h1]
    go_enter Try.func30, Try.ntmps30
    go_wp2_with (go_at_call 47; refine (NX.out _ _).mono ?_; rintro e w2 ⟨rfl, rfl⟩)
    go_ret
    exact ⟨rfl, rfl⟩
  · rw [if_neg h1]
    by_cases h2 : y < x
    · rw [if_pos h2]
      have h3 : x > y := h2
      go_enter Try.func30, Try.ntmps30
      go_wp2_with (go_at_call 47; refine (NX.out _ _).mono ?_; rintro e w2 ⟨rfl, rfl⟩)
      go_ret
      exact ⟨rfl, rfl⟩
    · rw [if_neg h2]
      have h3 : ¬ x > y := h2
      go_enter Try.func30, Try.ntmps30
      go_wp2_with (go_at_call 47; refine (NX.out _ _).mono ?_; rintro e w2 ⟨rfl, rfl⟩)
      go_ret
      exact ⟨rfl, rfl⟩
theorem cmp_int (w : World) (x y : Int) : Calls Try.prog 31 #[.int .i64 x, .int .i64 y] w fun e w' => e = .returned (.int .i64 (cmpI x y)) ∧ w' = w := by
  have NX := Lib.hid (fun (u : World) (x : Int) => nan_int u x)
  unfold cmpI
  by_cases h1 : x < y
  · rw [if_pos h1]
    go_enter Try.func31, Try.ntmps31
    go_wp2_with (go_at_call 48; refine (NX.out _ _).mono ?_; rintro e w2 ⟨rfl, rfl⟩)
    go_ret
    exact ⟨rfl, rfl⟩
  · rw [if_neg h1]
    by_cases h2 : y < x
    · rw [if_pos h2]
      have h3 : x > y := h2
      go_enter Try.func31, Try.ntmps31
      go_wp2_with (go_at_call 48; refine (NX.out _ _).mono ?_; rintro e w2 ⟨rfl, rfl⟩)
      go_ret
      exact ⟨rfl, rfl⟩
    · rw [if_neg h2]
      have h3 : ¬ x > y := h2
      go_enter Try.func31, Try.ntmps31
      go_wp2_with (go_at_call 48; refine (NX.out _ _).mono ?_; rintro e w2 ⟨rfl, rfl⟩)
      go_ret
      exact ⟨rfl, rfl⟩
theorem cmp_u64 (w : World) (x y : Int) : Calls Try.prog 32 #[.int .u64 x, .int .u64 y] w fun e w' => e = .returned (.int .i64 (cmpI x y)) ∧ w' = w := by
  have NX := Lib.hid (fun (u : World) (x : Int) => nan_u64 u x)
  unfold cmpI
  by_cases h1 : x < y
  · rw [if_pos h1]
    go_enter Try.func32, Try.ntmps32
    go_wp2_with (go_at_call 49; refine (NX.out _ _).mono ?_; rintro e w2 ⟨rfl, rfl⟩)
    go_ret
    exact ⟨rfl, rfl⟩
  · rw [if_neg h1]
    by_cases h2 : y < x
    · rw [if_pos h2]
      have h3 : x > y := h2
      go_enter Try.func32, Try.ntmps32
      go_wp2_with (go_at_call 49; refine (NX.out _ _).mono ?_; rintro e w2 ⟨rfl, rfl⟩)
      go_ret
      exact ⟨rfl, rfl⟩
    · rw [if_neg h2]
      have h3 : ¬ x > y := h2
      go_enter Try.func32, Try.ntmps32
      go_wp2_with (go_at_call 49; refine (NX.out _ _).mono ?_; rintro e w2 ⟨rfl, rfl⟩)
      go_ret
      exact ⟨rfl, rfl⟩
/-- A lock by its fields. -/
structure Lo where
  kind : Int
  conn : Int
  num : Int
def Lo.V (a : Lo) : Value := .agg #[.int .u8 a.kind, .int .i64 a.conn, .int .u64 a.num]
def cmpL (a b : Lo) : Int := if cmpI a.kind b.kind ≠ 0 then cmpI a.kind b.kind else if cmpI a.conn b.conn ≠ 0 then cmpI a.conn b.conn else cmpI a.num b.num
end Lk
end Go.Proofs.Ytpiiccomkfcifaa
