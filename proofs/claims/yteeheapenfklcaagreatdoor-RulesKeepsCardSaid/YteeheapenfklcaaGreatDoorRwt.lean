/- rules: Wants and Perm of whatever number, the program's and the reference's. -/
import Derived.Test.YteeheapenfklcaaGreatDoorRu2
namespace Go.Proofs.YteeheapenfklcaaGreatDoor
set_option linter.unusedVariables false
open Go.RowKit Go.Shelf
attribute [local go_sem] Oper.semAt_some
namespace Ru
open Go.Proofs.YteeheapenfklcaaGreatDoor.Utf Go.Proofs.YteeheapenfklcaaGreatDoor.Txt Go.PlainAid Go.Proofs.YteeheapenfklcaaGreatDoor.Mpf Go.Proofs.YteeheapenfklcaaGreatDoor.Us
/-- The rights that a way of opening wants. -/
def wantsOfV (h : Int) : Int := if h = 0 then 4 else if h = 1 then 2 else if h = 2 then 6 else 1
theorem wantsOf_any (w : World) (h : Int) : Calls Tryz.prog 66 #[.int .u8 h] w fun e w' => e = .returned (.int .u8 (wantsOfV h)) ∧ w = w' := by
  unfold wantsOfV
  by_cases h0 : h = 0
  · subst h0
    go_enter Tryz.func66, Tryz.ntmps66
    go_wp2_with fail
    go_ret
    exact ⟨rfl, rfl⟩
  · have e0 : (h == 0) = false := by simpa using h0
    rw [if_neg h0]
    clear h0
    by_cases h1 : h = 1
    · subst h1
      go_enter Tryz.func66, Tryz.ntmps66
      go_wp2_with fail
      go_ret
      exact ⟨rfl, rfl⟩
    · have e1 : (h == 1) = false := by simpa using h1
      rw [if_neg h1]
      clear h1
      by_cases h2 : h = 2
      · subst h2
        go_enter Tryz.func66, Tryz.ntmps66
        go_wp2_with fail
        go_ret
        exact ⟨rfl, rfl⟩
      · have e2 : (h == 2) = false := by simpa using h2
        rw [if_neg h2]
        clear h2
        go_enter Tryz.func66, Tryz.ntmps66
        go_wp2_with fail
        go_ret
        exact ⟨rfl, rfl⟩
/-- What Wants tells: the rights; the error. -/
def wantsV (m : Int) : Int := if bits .andNot .u8 m 83 = 0 then (if bits .and .u8 m 16 = 0 then wantsOfV (bits .and .u8 m 3) else bits .or .u8 (wantsOfV (bits .and .u8 m 3)) 2) else 0
def wantsE (m : Int) : Int := if bits .andNot .u8 m 83 = 0 then 0 else 91
theorem Wants_any (w : World) (m : Int) : Calls Tryz.prog 36 #[.int .u8 m] w fun e w' => e = .returned (.tuple #[.int .u8 (wantsV m), .int .i64 (wantsE m)]) ∧ w = w' := by
  have WO := Lib.hid (fun w h => wantsOf_any w h)
  unfold wantsV wantsE
  obtain ⟨a, ha⟩ : ∃ a, bits .andNot .u8 m 83 = a := ⟨_, rfl⟩
  obtain ⟨b, hb⟩ : ∃ b, bits .and .u8 m 16 = b := ⟨_, rfl⟩
  obtain ⟨c, hc⟩ : ∃ c, bits .and .u8 m 3 = c := ⟨_, rfl⟩
  rw [ha, hb, hc]
  obtain ⟨v, hv⟩ : ∃ v, v = wantsOfV c := ⟨_, rfl⟩
  rw [← hv]
  have WC : Hid (∀ w, Calls Tryz.prog 66 #[.int .u8 c] w fun e w' => e = .returned (.int .u8 v) ∧ w = w') := fun w => by rw [hv]; exact WO.out w c
  clear hv WO
  by_cases h1 : a = 0
  · subst h1
    by_cases h2 : b = 0
    · subst h2
      go_enter Tryz.func36, Tryz.ntmps36
      go_wp2_with (go_at_call 66; refine (WC.out _).mono ?_; rintro e w2 ⟨rfl, rfl⟩)
      go_ret2
      exact ⟨rfl, rfl⟩
    · have e2 : (b == 0) = false := by simpa using h2
      have f2 : (b != 0) = true := by simp [h2]
      rw [if_neg h2]
      clear h2
      go_enter Tryz.func36, Tryz.ntmps36
      go_wp2_with (go_at_call 66; refine (WC.out _).mono ?_; rintro e w2 ⟨rfl, rfl⟩)
      go_ret2
      exact ⟨rfl, rfl⟩
  · have e1 : (a == 0) = false := by simpa using h1
    have f1 : (a != 0) = true := by simp [h1]
    rw [if_neg h1, if_neg h1]
    clear h1
    go_enter Tryz.func36, Tryz.ntmps36
    go_wp2_with fail
    go_ret2
    exact ⟨rfl, rfl⟩
/-- May something be made so? -/
def permE (p : Int) : Int := if bits .andNot .u32 p 3825205759 = 0 ∧ (bits .and .u32 p 2147483648 = 0 ∨ bits .and .u32 p 1610612736 = 0) then 0 else 91
theorem Perm_any (w : World) (p : Int) : Calls Tryz.prog 98 #[.int .u32 p] w fun e w' => e = .returned (.int .i64 (permE p)) ∧ w = w' := by
  unfold permE
  obtain ⟨a, ha⟩ : ∃ a, bits .andNot .u32 p 3825205759 = a := ⟨_, rfl⟩
  obtain ⟨b, hb⟩ : ∃ b, bits .and .u32 p 2147483648 = b := ⟨_, rfl⟩
  obtain ⟨c, hc⟩ : ∃ c, bits .and .u32 p 1610612736 = c := ⟨_, rfl⟩
  rw [ha, hb, hc]
  by_cases h1 : a = 0
  · subst h1
    by_cases h2 : b = 0
    · subst h2
      rw [if_pos ⟨rfl, Or.inl rfl⟩]
      go_enter Tryz.func98, Tryz.ntmps98
      go_wp2_with fail
      go_ret
      exact ⟨rfl, rfl⟩
    · have e2 : (b == 0) = false := by simpa using h2
      have f2 : (b != 0) = true := by simp [h2]
      by_cases h3 : c = 0
      · subst h3
        rw [if_pos ⟨rfl, Or.inr rfl⟩]
        clear h2
        go_enter Tryz.func98, Tryz.ntmps98
        go_wp2_with fail
        go_ret
        exact ⟨rfl, rfl⟩
      · have e3 : (c == 0) = false := by simpa using h3
        have f3 : (c != 0) = true := by simp [h3]
        rw [if_neg (by simp [h2, h3])]
        clear h2 h3
        go_enter Tryz.func98, Tryz.ntmps98
        go_wp2_with fail
        go_ret
        exact ⟨rfl, rfl⟩
  · have e1 : (a == 0) = false := by simpa using h1
    have f1 : (a != 0) = true := by simp [h1]
    rw [if_neg (by simp [h1])]
    clear h1
    go_enter Tryz.func98, Tryz.ntmps98
    go_wp2_with fail
    go_ret
    exact ⟨rfl, rfl⟩
theorem and3 : ∀ m : Fin 256, bits .and .u8 ((m.1 : Nat) : Int) 3 = ((m.1 : Nat) : Int) % 4 := by decide +kernel
end Ru
end Go.Proofs.YteeheapenfklcaaGreatDoor
