/- The reference's within and Character: what they answer at every place of a text; they turn nothing. -/
import Derived.Test.YtondjodfkgefgaaGreatDoorProg
import Derived.Test.YtondjodfkgefgaaGreatDoorUtf
import Derived.WalkKit
import Derived.Deep.QuietTactic
import Derived.BigQuiet
import Derived.WalkSpells
import Derived.WalkLawsBesides
import Derived.PlainAid
import Derived.Outline
import Derived.Handy
namespace Go.Proofs.YtondjodfkgefgaaGreatDoor.Txt
set_option linter.unusedVariables false
open Go.RowKit Go.PlainAid Go.Proofs.YtondjodfkgefgaaGreatDoor.Utf

theorem within_any (s : ByteArray) (x lo hi : Int) (w : World) (a : Nat) (hx : x = a) (hs : s.size ≤ 140737488355328) :
    Calls Tryz.prog 169 #[.string s, .int .i64 x, .int .u8 lo, .int .u8 hi] w fun e w' => e = .returned (.bool (inn s a lo hi)) ∧ w = w' := by
  subst hx
  have hb := get_bt s
  by_cases h : a < s.size
  · by_cases h1 : lo ≤ bt s a
    · by_cases h2 : bt s a ≤ hi
      · have hf := inn_yes h h1 h2
        rw [hf]
        clear hf
        go_enter Tryz.func169, Tryz.ntmps169
        go_wp2
        go_ret
        exact ⟨rfl, rfl⟩
      · have hf : inn s a lo hi = false := inn_no (by omega)
        rw [hf]
        clear hf
        go_enter Tryz.func169, Tryz.ntmps169
        go_wp2
        go_ret
        exact ⟨rfl, rfl⟩
    · have hf : inn s a lo hi = false := inn_no (by omega)
      rw [hf]
      clear hf
      go_enter Tryz.func169, Tryz.ntmps169
      go_wp2
      go_ret
      exact ⟨rfl, rfl⟩
  · have hf : inn s a lo hi = false := inn_no (by omega)
    rw [hf]
    clear hf
    go_enter Tryz.func169, Tryz.ntmps169
    go_wp2
    go_ret
    exact ⟨rfl, rfl⟩

set_option maxHeartbeats 400000 in
theorem char_0 (s : ByteArray) (a : Nat) (w : World) (hs : s.size ≤ 140737488355328) (ha : a < s.size) (hl : 0 ≤ bt s a) (hh : bt s a ≤ 127) :
    Calls Tryz.prog 159 #[.string s, .int .i64 a] w fun e w' => e = .returned (.int .i64 1) ∧ w = w' := by
  have f0 : inn s a 0 127 = true := inn_yes ha (by omega) (by omega)
  have f1 : inn s a 194 223 = false := inn_no (by omega)
  have f2 : inn s a 224 224 = false := inn_no (by omega)
  have f3 : inn s a 237 237 = false := inn_no (by omega)
  have f4 : inn s a 224 239 = false := inn_no (by omega)
  have f5 : inn s a 240 240 = false := inn_no (by omega)
  have f6 : inn s a 244 244 = false := inn_no (by omega)
  have f7 : inn s a 240 244 = false := inn_no (by omega)
  clear hl hh
  go_enter Tryz.func159, Tryz.ntmps159
  go_wp2_with (go_at_call 169; first | (refine (within_any s _ _ _ _ a (by omega) hs).mono ?_; rintro e w' ⟨rfl, rfl⟩) | (refine (within_any s _ _ _ _ (a + 1) (by omega) hs).mono ?_; rintro e w' ⟨rfl, rfl⟩) | (refine (within_any s _ _ _ _ (a + 2) (by omega) hs).mono ?_; rintro e w' ⟨rfl, rfl⟩) | (refine (within_any s _ _ _ _ (a + 3) (by omega) hs).mono ?_; rintro e w' ⟨rfl, rfl⟩))
  go_ret
  exact ⟨rfl, rfl⟩
set_option maxHeartbeats 400000 in
theorem char_128 (s : ByteArray) (a : Nat) (w : World) (hs : s.size ≤ 140737488355328) (ha : a < s.size) (hl : 128 ≤ bt s a) (hh : bt s a ≤ 193) :
    Calls Tryz.prog 159 #[.string s, .int .i64 a] w fun e w' => e = .returned (.int .i64 0) ∧ w = w' := by
  have f0 : inn s a 0 127 = false := inn_no (by omega)
  have f1 : inn s a 194 223 = false := inn_no (by omega)
  have f2 : inn s a 224 224 = false := inn_no (by omega)
  have f3 : inn s a 237 237 = false := inn_no (by omega)
  have f4 : inn s a 224 239 = false := inn_no (by omega)
  have f5 : inn s a 240 240 = false := inn_no (by omega)
  have f6 : inn s a 244 244 = false := inn_no (by omega)
  have f7 : inn s a 240 244 = false := inn_no (by omega)
  clear hl hh
  go_enter Tryz.func159, Tryz.ntmps159
  go_wp2_with (go_at_call 169; first | (refine (within_any s _ _ _ _ a (by omega) hs).mono ?_; rintro e w' ⟨rfl, rfl⟩) | (refine (within_any s _ _ _ _ (a + 1) (by omega) hs).mono ?_; rintro e w' ⟨rfl, rfl⟩) | (refine (within_any s _ _ _ _ (a + 2) (by omega) hs).mono ?_; rintro e w' ⟨rfl, rfl⟩) | (refine (within_any s _ _ _ _ (a + 3) (by omega) hs).mono ?_; rintro e w' ⟨rfl, rfl⟩))
  go_ret
  exact ⟨rfl, rfl⟩
set_option maxHeartbeats 400000 in
theorem char_194_y (s : ByteArray) (a : Nat) (w : World) (hs : s.size ≤ 140737488355328) (ha : a < s.size) (hl : 194 ≤ bt s a) (hh : bt s a ≤ 223) (g1 : inn s (a + 1) 128 191 = true) :
    Calls Tryz.prog 159 #[.string s, .int .i64 a] w fun e w' => e = .returned (.int .i64 2) ∧ w = w' := by
  have f0 : inn s a 0 127 = false := inn_no (by omega)
  have f1 : inn s a 194 223 = true := inn_yes ha (by omega) (by omega)
  have f2 : inn s a 224 224 = false := inn_no (by omega)
  have f3 : inn s a 237 237 = false := inn_no (by omega)
  have f4 : inn s a 224 239 = false := inn_no (by omega)
  have f5 : inn s a 240 240 = false := inn_no (by omega)
  have f6 : inn s a 244 244 = false := inn_no (by omega)
  have f7 : inn s a 240 244 = false := inn_no (by omega)
  clear hl hh
  go_enter Tryz.func159, Tryz.ntmps159
  go_wp2_with (go_at_call 169; first | (refine (within_any s _ _ _ _ a (by omega) hs).mono ?_; rintro e w' ⟨rfl, rfl⟩) | (refine (within_any s _ _ _ _ (a + 1) (by omega) hs).mono ?_; rintro e w' ⟨rfl, rfl⟩) | (refine (within_any s _ _ _ _ (a + 2) (by omega) hs).mono ?_; rintro e w' ⟨rfl, rfl⟩) | (refine (within_any s _ _ _ _ (a + 3) (by omega) hs).mono ?_; rintro e w' ⟨rfl, rfl⟩))
  go_ret
  exact ⟨rfl, rfl⟩
set_option maxHeartbeats 400000 in
theorem char_194_n (s : ByteArray) (a : Nat) (w : World) (hs : s.size ≤ 140737488355328) (ha : a < s.size) (hl : 194 ≤ bt s a) (hh : bt s a ≤ 223) (g1 : inn s (a + 1) 128 191 = false) :
    Calls Tryz.prog 159 #[.string s, .int .i64 a] w fun e w' => e = .returned (.int .i64 0) ∧ w = w' := by
  have f0 : inn s a 0 127 = false := inn_no (by omega)
  have f1 : inn s a 194 223 = true := inn_yes ha (by omega) (by omega)
  have f2 : inn s a 224 224 = false := inn_no (by omega)
  have f3 : inn s a 237 237 = false := inn_no (by omega)
  have f4 : inn s a 224 239 = false := inn_no (by omega)
  have f5 : inn s a 240 240 = false := inn_no (by omega)
  have f6 : inn s a 244 244 = false := inn_no (by omega)
  have f7 : inn s a 240 244 = false := inn_no (by omega)
  clear hl hh
  go_enter Tryz.func159, Tryz.ntmps159
  go_wp2_with (go_at_call 169; first | (refine (within_any s _ _ _ _ a (by omega) hs).mono ?_; rintro e w' ⟨rfl, rfl⟩) | (refine (within_any s _ _ _ _ (a + 1) (by omega) hs).mono ?_; rintro e w' ⟨rfl, rfl⟩) | (refine (within_any s _ _ _ _ (a + 2) (by omega) hs).mono ?_; rintro e w' ⟨rfl, rfl⟩) | (refine (within_any s _ _ _ _ (a + 3) (by omega) hs).mono ?_; rintro e w' ⟨rfl, rfl⟩))
  go_ret
  exact ⟨rfl, rfl⟩
set_option maxHeartbeats 400000 in
theorem char_224_y (s : ByteArray) (a : Nat) (w : World) (hs : s.size ≤ 140737488355328) (ha : a < s.size) (hl : 224 ≤ bt s a) (hh : bt s a ≤ 224) (g1 : inn s (a + 1) 160 191 = true)  (g2 : inn s (a + 2) 128 191 = true) :
    Calls Tryz.prog 159 #[.string s, .int .i64 a] w fun e w' => e = .returned (.int .i64 3) ∧ w = w' := by
  have f0 : inn s a 0 127 = false := inn_no (by omega)
  have f1 : inn s a 194 223 = false := inn_no (by omega)
  have f2 : inn s a 224 224 = true := inn_yes ha (by omega) (by omega)
  have f3 : inn s a 237 237 = false := inn_no (by omega)
  have f4 : inn s a 224 239 = true := inn_yes ha (by omega) (by omega)
  have f5 : inn s a 240 240 = false := inn_no (by omega)
  have f6 : inn s a 244 244 = false := inn_no (by omega)
  have f7 : inn s a 240 244 = false := inn_no (by omega)
  clear hl hh
  go_enter Tryz.func159, Tryz.ntmps159
  go_wp2_with (go_at_call 169; first | (refine (within_any s _ _ _ _ a (by omega) hs).mono ?_; rintro e w' ⟨rfl, rfl⟩) | (refine (within_any s _ _ _ _ (a + 1) (by omega) hs).mono ?_; rintro e w' ⟨rfl, rfl⟩) | (refine (within_any s _ _ _ _ (a + 2) (by omega) hs).mono ?_; rintro e w' ⟨rfl, rfl⟩) | (refine (within_any s _ _ _ _ (a + 3) (by omega) hs).mono ?_; rintro e w' ⟨rfl, rfl⟩))
  go_ret
  exact ⟨rfl, rfl⟩
set_option maxHeartbeats 400000 in
theorem char_224_n1 (s : ByteArray) (a : Nat) (w : World) (hs : s.size ≤ 140737488355328) (ha : a < s.size) (hl : 224 ≤ bt s a) (hh : bt s a ≤ 224) (g1 : inn s (a + 1) 160 191 = false) :
    Calls Tryz.prog 159 #[.string s, .int .i64 a] w fun e w' => e = .returned (.int .i64 0) ∧ w = w' := by
  have f0 : inn s a 0 127 = false := inn_no (by omega)
  have f1 : inn s a 194 223 = false := inn_no (by omega)
  have f2 : inn s a 224 224 = true := inn_yes ha (by omega) (by omega)
  have f3 : inn s a 237 237 = false := inn_no (by omega)
  have f4 : inn s a 224 239 = true := inn_yes ha (by omega) (by omega)
  have f5 : inn s a 240 240 = false := inn_no (by omega)
  have f6 : inn s a 244 244 = false := inn_no (by omega)
  have f7 : inn s a 240 244 = false := inn_no (by omega)
  clear hl hh
  go_enter Tryz.func159, Tryz.ntmps159
  go_wp2_with (go_at_call 169; first | (refine (within_any s _ _ _ _ a (by omega) hs).mono ?_; rintro e w' ⟨rfl, rfl⟩) | (refine (within_any s _ _ _ _ (a + 1) (by omega) hs).mono ?_; rintro e w' ⟨rfl, rfl⟩) | (refine (within_any s _ _ _ _ (a + 2) (by omega) hs).mono ?_; rintro e w' ⟨rfl, rfl⟩) | (refine (within_any s _ _ _ _ (a + 3) (by omega) hs).mono ?_; rintro e w' ⟨rfl, rfl⟩))
  go_ret
  exact ⟨rfl, rfl⟩
set_option maxHeartbeats 400000 in
theorem char_224_n2 (s : ByteArray) (a : Nat) (w : World) (hs : s.size ≤ 140737488355328) (ha : a < s.size) (hl : 224 ≤ bt s a) (hh : bt s a ≤ 224) (g1 : inn s (a + 1) 160 191 = true)  (g2 : inn s (a + 2) 128 191 = false) :
    Calls Tryz.prog 159 #[.string s, .int .i64 a] w fun e w' => e = .returned (.int .i64 0) ∧ w = w' := by
  have f0 : inn s a 0 127 = false := inn_no (by omega)
  have f1 : inn s a 194 223 = false := inn_no (by omega)
  have f2 : inn s a 224 224 = true := inn_yes ha (by omega) (by omega)
  have f3 : inn s a 237 237 = false := inn_no (by omega)
  have f4 : inn s a 224 239 = true := inn_yes ha (by omega) (by omega)
  have f5 : inn s a 240 240 = false := inn_no (by omega)
  have f6 : inn s a 244 244 = false := inn_no (by omega)
  have f7 : inn s a 240 244 = false := inn_no (by omega)
  clear hl hh
  go_enter Tryz.func159, Tryz.ntmps159
  go_wp2_with (go_at_call 169; first | (refine (within_any s _ _ _ _ a (by omega) hs).mono ?_; rintro e w' ⟨rfl, rfl⟩) | (refine (within_any s _ _ _ _ (a + 1) (by omega) hs).mono ?_; rintro e w' ⟨rfl, rfl⟩) | (refine (within_any s _ _ _ _ (a + 2) (by omega) hs).mono ?_; rintro e w' ⟨rfl, rfl⟩) | (refine (within_any s _ _ _ _ (a + 3) (by omega) hs).mono ?_; rintro e w' ⟨rfl, rfl⟩))
  go_ret
  exact ⟨rfl, rfl⟩
set_option maxHeartbeats 400000 in
theorem char_225_y (s : ByteArray) (a : Nat) (w : World) (hs : s.size ≤ 140737488355328) (ha : a < s.size) (hl : 225 ≤ bt s a) (hh : bt s a ≤ 236) (g1 : inn s (a + 1) 128 191 = true)  (g2 : inn s (a + 2) 128 191 = true) :
    Calls Tryz.prog 159 #[.string s, .int .i64 a] w fun e w' => e = .returned (.int .i64 3) ∧ w = w' := by
  have f0 : inn s a 0 127 = false := inn_no (by omega)
  have f1 : inn s a 194 223 = false := inn_no (by omega)
  have f2 : inn s a 224 224 = false := inn_no (by omega)
  have f3 : inn s a 237 237 = false := inn_no (by omega)
  have f4 : inn s a 224 239 = true := inn_yes ha (by omega) (by omega)
  have f5 : inn s a 240 240 = false := inn_no (by omega)
  have f6 : inn s a 244 244 = false := inn_no (by omega)
  have f7 : inn s a 240 244 = false := inn_no (by omega)
  clear hl hh
  go_enter Tryz.func159, Tryz.ntmps159
  go_wp2_with (go_at_call 169; first | (refine (within_any s _ _ _ _ a (by omega) hs).mono ?_; rintro e w' ⟨rfl, rfl⟩) | (refine (within_any s _ _ _ _ (a + 1) (by omega) hs).mono ?_; rintro e w' ⟨rfl, rfl⟩) | (refine (within_any s _ _ _ _ (a + 2) (by omega) hs).mono ?_; rintro e w' ⟨rfl, rfl⟩) | (refine (within_any s _ _ _ _ (a + 3) (by omega) hs).mono ?_; rintro e w' ⟨rfl, rfl⟩))
  go_ret
  exact ⟨rfl, rfl⟩
set_option maxHeartbeats 400000 in
theorem char_225_n1 (s : ByteArray) (a : Nat) (w : World) (hs : s.size ≤ 140737488355328) (ha : a < s.size) (hl : 225 ≤ bt s a) (hh : bt s a ≤ 236) (g1 : inn s (a + 1) 128 191 = false) :
    Calls Tryz.prog 159 #[.string s, .int .i64 a] w fun e w' => e = .returned (.int .i64 0) ∧ w = w' := by
  have f0 : inn s a 0 127 = false := inn_no (by omega)
  have f1 : inn s a 194 223 = false := inn_no (by omega)
  have f2 : inn s a 224 224 = false := inn_no (by omega)
  have f3 : inn s a 237 237 = false := inn_no (by omega)
  have f4 : inn s a 224 239 = true := inn_yes ha (by omega) (by omega)
  have f5 : inn s a 240 240 = false := inn_no (by omega)
  have f6 : inn s a 244 244 = false := inn_no (by omega)
  have f7 : inn s a 240 244 = false := inn_no (by omega)
  clear hl hh
  go_enter Tryz.func159, Tryz.ntmps159
  go_wp2_with (go_at_call 169; first | (refine (within_any s _ _ _ _ a (by omega) hs).mono ?_; rintro e w' ⟨rfl, rfl⟩) | (refine (within_any s _ _ _ _ (a + 1) (by omega) hs).mono ?_; rintro e w' ⟨rfl, rfl⟩) | (refine (within_any s _ _ _ _ (a + 2) (by omega) hs).mono ?_; rintro e w' ⟨rfl, rfl⟩) | (refine (within_any s _ _ _ _ (a + 3) (by omega) hs).mono ?_; rintro e w' ⟨rfl, rfl⟩))
  go_ret
  exact ⟨rfl, rfl⟩
set_option maxHeartbeats 400000 in
theorem char_225_n2 (s : ByteArray) (a : Nat) (w : World) (hs : s.size ≤ 140737488355328) (ha : a < s.size) (hl : 225 ≤ bt s a) (hh : bt s a ≤ 236) (g1 : inn s (a + 1) 128 191 = true)  (g2 : inn s (a + 2) 128 191 = false) :
    Calls Tryz.prog 159 #[.string s, .int .i64 a] w fun e w' => e = .returned (.int .i64 0) ∧ w = w' := by
  have f0 : inn s a 0 127 = false := inn_no (by omega)
  have f1 : inn s a 194 223 = false := inn_no (by omega)
  have f2 : inn s a 224 224 = false := inn_no (by omega)
  have f3 : inn s a 237 237 = false := inn_no (by omega)
  have f4 : inn s a 224 239 = true := inn_yes ha (by omega) (by omega)
  have f5 : inn s a 240 240 = false := inn_no (by omega)
  have f6 : inn s a 244 244 = false := inn_no (by omega)
  have f7 : inn s a 240 244 = false := inn_no (by omega)
  clear hl hh
  go_enter Tryz.func159, Tryz.ntmps159
  go_wp2_with (go_at_call 169; first | (refine (within_any s _ _ _ _ a (by omega) hs).mono ?_; rintro e w' ⟨rfl, rfl⟩) | (refine (within_any s _ _ _ _ (a + 1) (by omega) hs).mono ?_; rintro e w' ⟨rfl, rfl⟩) | (refine (within_any s _ _ _ _ (a + 2) (by omega) hs).mono ?_; rintro e w' ⟨rfl, rfl⟩) | (refine (within_any s _ _ _ _ (a + 3) (by omega) hs).mono ?_; rintro e w' ⟨rfl, rfl⟩))
  go_ret
  exact ⟨rfl, rfl⟩
set_option maxHeartbeats 400000 in
theorem char_237_y (s : ByteArray) (a : Nat) (w : World) (hs : s.size ≤ 140737488355328) (ha : a < s.size) (hl : 237 ≤ bt s a) (hh : bt s a ≤ 237) (g1 : inn s (a + 1) 128 159 = true)  (g2 : inn s (a + 2) 128 191 = true) :
    Calls Tryz.prog 159 #[.string s, .int .i64 a] w fun e w' => e = .returned (.int .i64 3) ∧ w = w' := by
  have f0 : inn s a 0 127 = false := inn_no (by omega)
  have f1 : inn s a 194 223 = false := inn_no (by omega)
  have f2 : inn s a 224 224 = false := inn_no (by omega)
  have f3 : inn s a 237 237 = true := inn_yes ha (by omega) (by omega)
  have f4 : inn s a 224 239 = true := inn_yes ha (by omega) (by omega)
  have f5 : inn s a 240 240 = false := inn_no (by omega)
  have f6 : inn s a 244 244 = false := inn_no (by omega)
  have f7 : inn s a 240 244 = false := inn_no (by omega)
  clear hl hh
  go_enter Tryz.func159, Tryz.ntmps159
  go_wp2_with (go_at_call 169; first | (refine (within_any s _ _ _ _ a (by omega) hs).mono ?_; rintro e w' ⟨rfl, rfl⟩) | (refine (within_any s _ _ _ _ (a + 1) (by omega) hs).mono ?_; rintro e w' ⟨rfl, rfl⟩) | (refine (within_any s _ _ _ _ (a + 2) (by omega) hs).mono ?_; rintro e w' ⟨rfl, rfl⟩) | (refine (within_any s _ _ _ _ (a + 3) (by omega) hs).mono ?_; rintro e w' ⟨rfl, rfl⟩))
  go_ret
  exact ⟨rfl, rfl⟩
set_option maxHeartbeats 400000 in
theorem char_237_n1 (s : ByteArray) (a : Nat) (w : World) (hs : s.size ≤ 140737488355328) (ha : a < s.size) (hl : 237 ≤ bt s a) (hh : bt s a ≤ 237) (g1 : inn s (a + 1) 128 159 = false) :
    Calls Tryz.prog 159 #[.string s, .int .i64 a] w fun e w' => e = .returned (.int .i64 0) ∧ w = w' := by
  have f0 : inn s a 0 127 = false := inn_no (by omega)
  have f1 : inn s a 194 223 = false := inn_no (by omega)
  have f2 : inn s a 224 224 = false := inn_no (by omega)
  have f3 : inn s a 237 237 = true := inn_yes ha (by omega) (by omega)
  have f4 : inn s a 224 239 = true := inn_yes ha (by omega) (by omega)
  have f5 : inn s a 240 240 = false := inn_no (by omega)
  have f6 : inn s a 244 244 = false := inn_no (by omega)
  have f7 : inn s a 240 244 = false := inn_no (by omega)
  clear hl hh
  go_enter Tryz.func159, Tryz.ntmps159
  go_wp2_with (go_at_call 169; first | (refine (within_any s _ _ _ _ a (by omega) hs).mono ?_; rintro e w' ⟨rfl, rfl⟩) | (refine (within_any s _ _ _ _ (a + 1) (by omega) hs).mono ?_; rintro e w' ⟨rfl, rfl⟩) | (refine (within_any s _ _ _ _ (a + 2) (by omega) hs).mono ?_; rintro e w' ⟨rfl, rfl⟩) | (refine (within_any s _ _ _ _ (a + 3) (by omega) hs).mono ?_; rintro e w' ⟨rfl, rfl⟩))
  go_ret
  exact ⟨rfl, rfl⟩
set_option maxHeartbeats 400000 in
theorem char_237_n2 (s : ByteArray) (a : Nat) (w : World) (hs : s.size ≤ 140737488355328) (ha : a < s.size) (hl : 237 ≤ bt s a) (hh : bt s a ≤ 237) (g1 : inn s (a + 1) 128 159 = true)  (g2 : inn s (a + 2) 128 191 = false) :
    Calls Tryz.prog 159 #[.string s, .int .i64 a] w fun e w' => e = .returned (.int .i64 0) ∧ w = w' := by
  have f0 : inn s a 0 127 = false := inn_no (by omega)
  have f1 : inn s a 194 223 = false := inn_no (by omega)
  have f2 : inn s a 224 224 = false := inn_no (by omega)
  have f3 : inn s a 237 237 = true := inn_yes ha (by omega) (by omega)
  have f4 : inn s a 224 239 = true := inn_yes ha (by omega) (by omega)
  have f5 : inn s a 240 240 = false := inn_no (by omega)
  have f6 : inn s a 244 244 = false := inn_no (by omega)
  have f7 : inn s a 240 244 = false := inn_no (by omega)
  clear hl hh
  go_enter Tryz.func159, Tryz.ntmps159
  go_wp2_with (go_at_call 169; first | (refine (within_any s _ _ _ _ a (by omega) hs).mono ?_; rintro e w' ⟨rfl, rfl⟩) | (refine (within_any s _ _ _ _ (a + 1) (by omega) hs).mono ?_; rintro e w' ⟨rfl, rfl⟩) | (refine (within_any s _ _ _ _ (a + 2) (by omega) hs).mono ?_; rintro e w' ⟨rfl, rfl⟩) | (refine (within_any s _ _ _ _ (a + 3) (by omega) hs).mono ?_; rintro e w' ⟨rfl, rfl⟩))
  go_ret
  exact ⟨rfl, rfl⟩
set_option maxHeartbeats 400000 in
theorem char_238_y (s : ByteArray) (a : Nat) (w : World) (hs : s.size ≤ 140737488355328) (ha : a < s.size) (hl : 238 ≤ bt s a) (hh : bt s a ≤ 239) (g1 : inn s (a + 1) 128 191 = true)  (g2 : inn s (a + 2) 128 191 = true) :
    Calls Tryz.prog 159 #[.string s, .int .i64 a] w fun e w' => e = .returned (.int .i64 3) ∧ w = w' := by
  have f0 : inn s a 0 127 = false := inn_no (by omega)
  have f1 : inn s a 194 223 = false := inn_no (by omega)
  have f2 : inn s a 224 224 = false := inn_no (by omega)
  have f3 : inn s a 237 237 = false := inn_no (by omega)
  have f4 : inn s a 224 239 = true := inn_yes ha (by omega) (by omega)
  have f5 : inn s a 240 240 = false := inn_no (by omega)
  have f6 : inn s a 244 244 = false := inn_no (by omega)
  have f7 : inn s a 240 244 = false := inn_no (by omega)
  clear hl hh
  go_enter Tryz.func159, Tryz.ntmps159
  go_wp2_with (go_at_call 169; first | (refine (within_any s _ _ _ _ a (by omega) hs).mono ?_; rintro e w' ⟨rfl, rfl⟩) | (refine (within_any s _ _ _ _ (a + 1) (by omega) hs).mono ?_; rintro e w' ⟨rfl, rfl⟩) | (refine (within_any s _ _ _ _ (a + 2) (by omega) hs).mono ?_; rintro e w' ⟨rfl, rfl⟩) | (refine (within_any s _ _ _ _ (a + 3) (by omega) hs).mono ?_; rintro e w' ⟨rfl, rfl⟩))
  go_ret
  exact ⟨rfl, rfl⟩
set_option maxHeartbeats 400000 in
theorem char_238_n1 (s : ByteArray) (a : Nat) (w : World) (hs : s.size ≤ 140737488355328) (ha : a < s.size) (hl : 238 ≤ bt s a) (hh : bt s a ≤ 239) (g1 : inn s (a + 1) 128 191 = false) :
    Calls Tryz.prog 159 #[.string s, .int .i64 a] w fun e w' => e = .returned (.int .i64 0) ∧ w = w' := by
  have f0 : inn s a 0 127 = false := inn_no (by omega)
  have f1 : inn s a 194 223 = false := inn_no (by omega)
  have f2 : inn s a 224 224 = false := inn_no (by omega)
  have f3 : inn s a 237 237 = false := inn_no (by omega)
  have f4 : inn s a 224 239 = true := inn_yes ha (by omega) (by omega)
  have f5 : inn s a 240 240 = false := inn_no (by omega)
  have f6 : inn s a 244 244 = false := inn_no (by omega)
  have f7 : inn s a 240 244 = false := inn_no (by omega)
  clear hl hh
  go_enter Tryz.func159, Tryz.ntmps159
  go_wp2_with (go_at_call 169; first | (refine (within_any s _ _ _ _ a (by omega) hs).mono ?_; rintro e w' ⟨rfl, rfl⟩) | (refine (within_any s _ _ _ _ (a + 1) (by omega) hs).mono ?_; rintro e w' ⟨rfl, rfl⟩) | (refine (within_any s _ _ _ _ (a + 2) (by omega) hs).mono ?_; rintro e w' ⟨rfl, rfl⟩) | (refine (within_any s _ _ _ _ (a + 3) (by omega) hs).mono ?_; rintro e w' ⟨rfl, rfl⟩))
  go_ret
  exact ⟨rfl, rfl⟩
set_option maxHeartbeats 400000 in
theorem char_238_n2 (s : ByteArray) (a : Nat) (w : World) (hs : s.size ≤ 140737488355328) (ha : a < s.size) (hl : 238 ≤ bt s a) (hh : bt s a ≤ 239) (g1 : inn s (a + 1) 128 191 = true)  (g2 : inn s (a + 2) 128 191 = false) :
    Calls Tryz.prog 159 #[.string s, .int .i64 a] w fun e w' => e = .returned (.int .i64 0) ∧ w = w' := by
  have f0 : inn s a 0 127 = false := inn_no (by omega)
  have f1 : inn s a 194 223 = false := inn_no (by omega)
  have f2 : inn s a 224 224 = false := inn_no (by omega)
  have f3 : inn s a 237 237 = false := inn_no (by omega)
  have f4 : inn s a 224 239 = true := inn_yes ha (by omega) (by omega)
  have f5 : inn s a 240 240 = false := inn_no (by omega)
  have f6 : inn s a 244 244 = false := inn_no (by omega)
  have f7 : inn s a 240 244 = false := inn_no (by omega)
  clear hl hh
  go_enter Tryz.func159, Tryz.ntmps159
  go_wp2_with (go_at_call 169; first | (refine (within_any s _ _ _ _ a (by omega) hs).mono ?_; rintro e w' ⟨rfl, rfl⟩) | (refine (within_any s _ _ _ _ (a + 1) (by omega) hs).mono ?_; rintro e w' ⟨rfl, rfl⟩) | (refine (within_any s _ _ _ _ (a + 2) (by omega) hs).mono ?_; rintro e w' ⟨rfl, rfl⟩) | (refine (within_any s _ _ _ _ (a + 3) (by omega) hs).mono ?_; rintro e w' ⟨rfl, rfl⟩))
  go_ret
  exact ⟨rfl, rfl⟩
set_option maxHeartbeats 400000 in
theorem char_240_y (s : ByteArray) (a : Nat) (w : World) (hs : s.size ≤ 140737488355328) (ha : a < s.size) (hl : 240 ≤ bt s a) (hh : bt s a ≤ 240) (g1 : inn s (a + 1) 144 191 = true)  (g2 : inn s (a + 2) 128 191 = true)  (g3 : inn s (a + 3) 128 191 = true) :
    Calls Tryz.prog 159 #[.string s, .int .i64 a] w fun e w' => e = .returned (.int .i64 4) ∧ w = w' := by
  have f0 : inn s a 0 127 = false := inn_no (by omega)
  have f1 : inn s a 194 223 = false := inn_no (by omega)
  have f2 : inn s a 224 224 = false := inn_no (by omega)
  have f3 : inn s a 237 237 = false := inn_no (by omega)
  have f4 : inn s a 224 239 = false := inn_no (by omega)
  have f5 : inn s a 240 240 = true := inn_yes ha (by omega) (by omega)
  have f6 : inn s a 244 244 = false := inn_no (by omega)
  have f7 : inn s a 240 244 = true := inn_yes ha (by omega) (by omega)
  clear hl hh
  go_enter Tryz.func159, Tryz.ntmps159
  go_wp2_with (go_at_call 169; first | (refine (within_any s _ _ _ _ a (by omega) hs).mono ?_; rintro e w' ⟨rfl, rfl⟩) | (refine (within_any s _ _ _ _ (a + 1) (by omega) hs).mono ?_; rintro e w' ⟨rfl, rfl⟩) | (refine (within_any s _ _ _ _ (a + 2) (by omega) hs).mono ?_; rintro e w' ⟨rfl, rfl⟩) | (refine (within_any s _ _ _ _ (a + 3) (by omega) hs).mono ?_; rintro e w' ⟨rfl, rfl⟩))
  go_ret
  exact ⟨rfl, rfl⟩
set_option maxHeartbeats 400000 in
theorem char_240_n1 (s : ByteArray) (a : Nat) (w : World) (hs : s.size ≤ 140737488355328) (ha : a < s.size) (hl : 240 ≤ bt s a) (hh : bt s a ≤ 240) (g1 : inn s (a + 1) 144 191 = false) :
    Calls Tryz.prog 159 #[.string s, .int .i64 a] w fun e w' => e = .returned (.int .i64 0) ∧ w = w' := by
  have f0 : inn s a 0 127 = false := inn_no (by omega)
  have f1 : inn s a 194 223 = false := inn_no (by omega)
  have f2 : inn s a 224 224 = false := inn_no (by omega)
  have f3 : inn s a 237 237 = false := inn_no (by omega)
  have f4 : inn s a 224 239 = false := inn_no (by omega)
  have f5 : inn s a 240 240 = true := inn_yes ha (by omega) (by omega)
  have f6 : inn s a 244 244 = false := inn_no (by omega)
  have f7 : inn s a 240 244 = true := inn_yes ha (by omega) (by omega)
  clear hl hh
  go_enter Tryz.func159, Tryz.ntmps159
  go_wp2_with (go_at_call 169; first | (refine (within_any s _ _ _ _ a (by omega) hs).mono ?_; rintro e w' ⟨rfl, rfl⟩) | (refine (within_any s _ _ _ _ (a + 1) (by omega) hs).mono ?_; rintro e w' ⟨rfl, rfl⟩) | (refine (within_any s _ _ _ _ (a + 2) (by omega) hs).mono ?_; rintro e w' ⟨rfl, rfl⟩) | (refine (within_any s _ _ _ _ (a + 3) (by omega) hs).mono ?_; rintro e w' ⟨rfl, rfl⟩))
  go_ret
  exact ⟨rfl, rfl⟩
set_option maxHeartbeats 400000 in
theorem char_240_n2 (s : ByteArray) (a : Nat) (w : World) (hs : s.size ≤ 140737488355328) (ha : a < s.size) (hl : 240 ≤ bt s a) (hh : bt s a ≤ 240) (g1 : inn s (a + 1) 144 191 = true)  (g2 : inn s (a + 2) 128 191 = false) :
    Calls Tryz.prog 159 #[.string s, .int .i64 a] w fun e w' => e = .returned (.int .i64 0) ∧ w = w' := by
  have f0 : inn s a 0 127 = false := inn_no (by omega)
  have f1 : inn s a 194 223 = false := inn_no (by omega)
  have f2 : inn s a 224 224 = false := inn_no (by omega)
  have f3 : inn s a 237 237 = false := inn_no (by omega)
  have f4 : inn s a 224 239 = false := inn_no (by omega)
  have f5 : inn s a 240 240 = true := inn_yes ha (by omega) (by omega)
  have f6 : inn s a 244 244 = false := inn_no (by omega)
  have f7 : inn s a 240 244 = true := inn_yes ha (by omega) (by omega)
  clear hl hh
  go_enter Tryz.func159, Tryz.ntmps159
  go_wp2_with (go_at_call 169; first | (refine (within_any s _ _ _ _ a (by omega) hs).mono ?_; rintro e w' ⟨rfl, rfl⟩) | (refine (within_any s _ _ _ _ (a + 1) (by omega) hs).mono ?_; rintro e w' ⟨rfl, rfl⟩) | (refine (within_any s _ _ _ _ (a + 2) (by omega) hs).mono ?_; rintro e w' ⟨rfl, rfl⟩) | (refine (within_any s _ _ _ _ (a + 3) (by omega) hs).mono ?_; rintro e w' ⟨rfl, rfl⟩))
  go_ret
  exact ⟨rfl, rfl⟩
set_option maxHeartbeats 400000 in
theorem char_240_n3 (s : ByteArray) (a : Nat) (w : World) (hs : s.size ≤ 140737488355328) (ha : a < s.size) (hl : 240 ≤ bt s a) (hh : bt s a ≤ 240) (g1 : inn s (a + 1) 144 191 = true)  (g2 : inn s (a + 2) 128 191 = true)  (g3 : inn s (a + 3) 128 191 = false) :
    Calls Tryz.prog 159 #[.string s, .int .i64 a] w fun e w' => e = .returned (.int .i64 0) ∧ w = w' := by
  have f0 : inn s a 0 127 = false := inn_no (by omega)
  have f1 : inn s a 194 223 = false := inn_no (by omega)
  have f2 : inn s a 224 224 = false := inn_no (by omega)
  have f3 : inn s a 237 237 = false := inn_no (by omega)
  have f4 : inn s a 224 239 = false := inn_no (by omega)
  have f5 : inn s a 240 240 = true := inn_yes ha (by omega) (by omega)
  have f6 : inn s a 244 244 = false := inn_no (by omega)
  have f7 : inn s a 240 244 = true := inn_yes ha (by omega) (by omega)
  clear hl hh
  go_enter Tryz.func159, Tryz.ntmps159
  go_wp2_with (go_at_call 169; first | (refine (within_any s _ _ _ _ a (by omega) hs).mono ?_; rintro e w' ⟨rfl, rfl⟩) | (refine (within_any s _ _ _ _ (a + 1) (by omega) hs).mono ?_; rintro e w' ⟨rfl, rfl⟩) | (refine (within_any s _ _ _ _ (a + 2) (by omega) hs).mono ?_; rintro e w' ⟨rfl, rfl⟩) | (refine (within_any s _ _ _ _ (a + 3) (by omega) hs).mono ?_; rintro e w' ⟨rfl, rfl⟩))
  go_ret
  exact ⟨rfl, rfl⟩
set_option maxHeartbeats 400000 in
theorem char_241_y (s : ByteArray) (a : Nat) (w : World) (hs : s.size ≤ 140737488355328) (ha : a < s.size) (hl : 241 ≤ bt s a) (hh : bt s a ≤ 243) (g1 : inn s (a + 1) 128 191 = true)  (g2 : inn s (a + 2) 128 191 = true)  (g3 : inn s (a + 3) 128 191 = true) :
    Calls Tryz.prog 159 #[.string s, .int .i64 a] w fun e w' => e = .returned (.int .i64 4) ∧ w = w' := by
  have f0 : inn s a 0 127 = false := inn_no (by omega)
  have f1 : inn s a 194 223 = false := inn_no (by omega)
  have f2 : inn s a 224 224 = false := inn_no (by omega)
  have f3 : inn s a 237 237 = false := inn_no (by omega)
  have f4 : inn s a 224 239 = false := inn_no (by omega)
  have f5 : inn s a 240 240 = false := inn_no (by omega)
  have f6 : inn s a 244 244 = false := inn_no (by omega)
  have f7 : inn s a 240 244 = true := inn_yes ha (by omega) (by omega)
  clear hl hh
  go_enter Tryz.func159, Tryz.ntmps159
  go_wp2_with (go_at_call 169; first | (refine (within_any s _ _ _ _ a (by omega) hs).mono ?_; rintro e w' ⟨rfl, rfl⟩) | (refine (within_any s _ _ _ _ (a + 1) (by omega) hs).mono ?_; rintro e w' ⟨rfl, rfl⟩) | (refine (within_any s _ _ _ _ (a + 2) (by omega) hs).mono ?_; rintro e w' ⟨rfl, rfl⟩) | (refine (within_any s _ _ _ _ (a + 3) (by omega) hs).mono ?_; rintro e w' ⟨rfl, rfl⟩))
  go_ret
  exact ⟨rfl, rfl⟩
set_option maxHeartbeats 400000 in
theorem char_241_n1 (s : ByteArray) (a : Nat) (w : World) (hs : s.size ≤ 140737488355328) (ha : a < s.size) (hl : 241 ≤ bt s a) (hh : bt s a ≤ 243) (g1 : inn s (a + 1) 128 191 = false) :
    Calls Tryz.prog 159 #[.string s, .int .i64 a] w fun e w' => e = .returned (.int .i64 0) ∧ w = w' := by
  have f0 : inn s a 0 127 = false := inn_no (by omega)
  have f1 : inn s a 194 223 = false := inn_no (by omega)
  have f2 : inn s a 224 224 = false := inn_no (by omega)
  have f3 : inn s a 237 237 = false := inn_no (by omega)
  have f4 : inn s a 224 239 = false := inn_no (by omega)
  have f5 : inn s a 240 240 = false := inn_no (by omega)
  have f6 : inn s a 244 244 = false := inn_no (by omega)
  have f7 : inn s a 240 244 = true := inn_yes ha (by omega) (by omega)
  clear hl hh
  go_enter Tryz.func159, Tryz.ntmps159
  go_wp2_with (go_at_call 169; first | (refine (within_any s _ _ _ _ a (by omega) hs).mono ?_; rintro e w' ⟨rfl, rfl⟩) | (refine (within_any s _ _ _ _ (a + 1) (by omega) hs).mono ?_; rintro e w' ⟨rfl, rfl⟩) | (refine (within_any s _ _ _ _ (a + 2) (by omega) hs).mono ?_; rintro e w' ⟨rfl, rfl⟩) | (refine (within_any s _ _ _ _ (a + 3) (by omega) hs).mono ?_; rintro e w' ⟨rfl, rfl⟩))
  go_ret
  exact ⟨rfl, rfl⟩
set_option maxHeartbeats 400000 in
theorem char_241_n2 (s : ByteArray) (a : Nat) (w : World) (hs : s.size ≤ 140737488355328) (ha : a < s.size) (hl : 241 ≤ bt s a) (hh : bt s a ≤ 243) (g1 : inn s (a + 1) 128 191 = true)  (g2 : inn s (a + 2) 128 191 = false) :
    Calls Tryz.prog 159 #[.string s, .int .i64 a] w fun e w' => e = .returned (.int .i64 0) ∧ w = w' := by
  have f0 : inn s a 0 127 = false := inn_no (by omega)
  have f1 : inn s a 194 223 = false := inn_no (by omega)
  have f2 : inn s a 224 224 = false := inn_no (by omega)
  have f3 : inn s a 237 237 = false := inn_no (by omega)
  have f4 : inn s a 224 239 = false := inn_no (by omega)
  have f5 : inn s a 240 240 = false := inn_no (by omega)
  have f6 : inn s a 244 244 = false := inn_no (by omega)
  have f7 : inn s a 240 244 = true := inn_yes ha (by omega) (by omega)
  clear hl hh
  go_enter Tryz.func159, Tryz.ntmps159
  go_wp2_with (go_at_call 169; first | (refine (within_any s _ _ _ _ a (by omega) hs).mono ?_; rintro e w' ⟨rfl, rfl⟩) | (refine (within_any s _ _ _ _ (a + 1) (by omega) hs).mono ?_; rintro e w' ⟨rfl, rfl⟩) | (refine (within_any s _ _ _ _ (a + 2) (by omega) hs).mono ?_; rintro e w' ⟨rfl, rfl⟩) | (refine (within_any s _ _ _ _ (a + 3) (by omega) hs).mono ?_; rintro e w' ⟨rfl, rfl⟩))
  go_ret
  exact ⟨rfl, rfl⟩
set_option maxHeartbeats 400000 in
theorem char_241_n3 (s : ByteArray) (a : Nat) (w : World) (hs : s.size ≤ 140737488355328) (ha : a < s.size) (hl : 241 ≤ bt s a) (hh : bt s a ≤ 243) (g1 : inn s (a + 1) 128 191 = true)  (g2 : inn s (a + 2) 128 191 = true)  (g3 : inn s (a + 3) 128 191 = false) :
    Calls Tryz.prog 159 #[.string s, .int .i64 a] w fun e w' => e = .returned (.int .i64 0) ∧ w = w' := by
  have f0 : inn s a 0 127 = false := inn_no (by omega)
  have f1 : inn s a 194 223 = false := inn_no (by omega)
  have f2 : inn s a 224 224 = false := inn_no (by omega)
  have f3 : inn s a 237 237 = false := inn_no (by omega)
  have f4 : inn s a 224 239 = false := inn_no (by omega)
  have f5 : inn s a 240 240 = false := inn_no (by omega)
  have f6 : inn s a 244 244 = false := inn_no (by omega)
  have f7 : inn s a 240 244 = true := inn_yes ha (by omega) (by omega)
  clear hl hh
  go_enter Tryz.func159, Tryz.ntmps159
  go_wp2_with (go_at_call 169; first | (refine (within_any s _ _ _ _ a (by omega) hs).mono ?_; rintro e w' ⟨rfl, rfl⟩) | (refine (within_any s _ _ _ _ (a + 1) (by omega) hs).mono ?_; rintro e w' ⟨rfl, rfl⟩) | (refine (within_any s _ _ _ _ (a + 2) (by omega) hs).mono ?_; rintro e w' ⟨rfl, rfl⟩) | (refine (within_any s _ _ _ _ (a + 3) (by omega) hs).mono ?_; rintro e w' ⟨rfl, rfl⟩))
  go_ret
  exact ⟨rfl, rfl⟩
set_option maxHeartbeats 400000 in
theorem char_244_y (s : ByteArray) (a : Nat) (w : World) (hs : s.size ≤ 140737488355328) (ha : a < s.size) (hl : 244 ≤ bt s a) (hh : bt s a ≤ 244) (g1 : inn s (a + 1) 128 143 = true)  (g2 : inn s (a + 2) 128 191 = true)  (g3 : inn s (a + 3) 128 191 = true) :
    Calls Tryz.prog 159 #[.string s, .int .i64 a] w fun e w' => e = .returned (.int .i64 4) ∧ w = w' := by
  have f0 : inn s a 0 127 = false := inn_no (by omega)
  have f1 : inn s a 194 223 = false := inn_no (by omega)
  have f2 : inn s a 224 224 = false := inn_no (by omega)
  have f3 : inn s a 237 237 = false := inn_no (by omega)
  have f4 : inn s a 224 239 = false := inn_no (by omega)
  have f5 : inn s a 240 240 = false := inn_no (by omega)
  have f6 : inn s a 244 244 = true := inn_yes ha (by omega) (by omega)
  have f7 : inn s a 240 244 = true := inn_yes ha (by omega) (by omega)
  clear hl hh
  go_enter Tryz.func159, Tryz.ntmps159
  go_wp2_with (go_at_call 169; first | (refine (within_any s _ _ _ _ a (by omega) hs).mono ?_; rintro e w' ⟨rfl, rfl⟩) | (refine (within_any s _ _ _ _ (a + 1) (by omega) hs).mono ?_; rintro e w' ⟨rfl, rfl⟩) | (refine (within_any s _ _ _ _ (a + 2) (by omega) hs).mono ?_; rintro e w' ⟨rfl, rfl⟩) | (refine (within_any s _ _ _ _ (a + 3) (by omega) hs).mono ?_; rintro e w' ⟨rfl, rfl⟩))
  go_ret
  exact ⟨rfl, rfl⟩
set_option maxHeartbeats 400000 in
theorem char_244_n1 (s : ByteArray) (a : Nat) (w : World) (hs : s.size ≤ 140737488355328) (ha : a < s.size) (hl : 244 ≤ bt s a) (hh : bt s a ≤ 244) (g1 : inn s (a + 1) 128 143 = false) :
    Calls Tryz.prog 159 #[.string s, .int .i64 a] w fun e w' => e = .returned (.int .i64 0) ∧ w = w' := by
  have f0 : inn s a 0 127 = false := inn_no (by omega)
  have f1 : inn s a 194 223 = false := inn_no (by omega)
  have f2 : inn s a 224 224 = false := inn_no (by omega)
  have f3 : inn s a 237 237 = false := inn_no (by omega)
  have f4 : inn s a 224 239 = false := inn_no (by omega)
  have f5 : inn s a 240 240 = false := inn_no (by omega)
  have f6 : inn s a 244 244 = true := inn_yes ha (by omega) (by omega)
  have f7 : inn s a 240 244 = true := inn_yes ha (by omega) (by omega)
  clear hl hh
  go_enter Tryz.func159, Tryz.ntmps159
  go_wp2_with (go_at_call 169; first | (refine (within_any s _ _ _ _ a (by omega) hs).mono ?_; rintro e w' ⟨rfl, rfl⟩) | (refine (within_any s _ _ _ _ (a + 1) (by omega) hs).mono ?_; rintro e w' ⟨rfl, rfl⟩) | (refine (within_any s _ _ _ _ (a + 2) (by omega) hs).mono ?_; rintro e w' ⟨rfl, rfl⟩) | (refine (within_any s _ _ _ _ (a + 3) (by omega) hs).mono ?_; rintro e w' ⟨rfl, rfl⟩))
  go_ret
  exact ⟨rfl, rfl⟩
set_option maxHeartbeats 400000 in
theorem char_244_n2 (s : ByteArray) (a : Nat) (w : World) (hs : s.size ≤ 140737488355328) (ha : a < s.size) (hl : 244 ≤ bt s a) (hh : bt s a ≤ 244) (g1 : inn s (a + 1) 128 143 = true)  (g2 : inn s (a + 2) 128 191 = false) :
    Calls Tryz.prog 159 #[.string s, .int .i64 a] w fun e w' => e = .returned (.int .i64 0) ∧ w = w' := by
  have f0 : inn s a 0 127 = false := inn_no (by omega)
  have f1 : inn s a 194 223 = false := inn_no (by omega)
  have f2 : inn s a 224 224 = false := inn_no (by omega)
  have f3 : inn s a 237 237 = false := inn_no (by omega)
  have f4 : inn s a 224 239 = false := inn_no (by omega)
  have f5 : inn s a 240 240 = false := inn_no (by omega)
  have f6 : inn s a 244 244 = true := inn_yes ha (by omega) (by omega)
  have f7 : inn s a 240 244 = true := inn_yes ha (by omega) (by omega)
  clear hl hh
  go_enter Tryz.func159, Tryz.ntmps159
  go_wp2_with (go_at_call 169; first | (refine (within_any s _ _ _ _ a (by omega) hs).mono ?_; rintro e w' ⟨rfl, rfl⟩) | (refine (within_any s _ _ _ _ (a + 1) (by omega) hs).mono ?_; rintro e w' ⟨rfl, rfl⟩) | (refine (within_any s _ _ _ _ (a + 2) (by omega) hs).mono ?_; rintro e w' ⟨rfl, rfl⟩) | (refine (within_any s _ _ _ _ (a + 3) (by omega) hs).mono ?_; rintro e w' ⟨rfl, rfl⟩))
  go_ret
  exact ⟨rfl, rfl⟩
set_option maxHeartbeats 400000 in
theorem char_244_n3 (s : ByteArray) (a : Nat) (w : World) (hs : s.size ≤ 140737488355328) (ha : a < s.size) (hl : 244 ≤ bt s a) (hh : bt s a ≤ 244) (g1 : inn s (a + 1) 128 143 = true)  (g2 : inn s (a + 2) 128 191 = true)  (g3 : inn s (a + 3) 128 191 = false) :
    Calls Tryz.prog 159 #[.string s, .int .i64 a] w fun e w' => e = .returned (.int .i64 0) ∧ w = w' := by
  have f0 : inn s a 0 127 = false := inn_no (by omega)
  have f1 : inn s a 194 223 = false := inn_no (by omega)
  have f2 : inn s a 224 224 = false := inn_no (by omega)
  have f3 : inn s a 237 237 = false := inn_no (by omega)
  have f4 : inn s a 224 239 = false := inn_no (by omega)
  have f5 : inn s a 240 240 = false := inn_no (by omega)
  have f6 : inn s a 244 244 = true := inn_yes ha (by omega) (by omega)
  have f7 : inn s a 240 244 = true := inn_yes ha (by omega) (by omega)
  clear hl hh
  go_enter Tryz.func159, Tryz.ntmps159
  go_wp2_with (go_at_call 169; first | (refine (within_any s _ _ _ _ a (by omega) hs).mono ?_; rintro e w' ⟨rfl, rfl⟩) | (refine (within_any s _ _ _ _ (a + 1) (by omega) hs).mono ?_; rintro e w' ⟨rfl, rfl⟩) | (refine (within_any s _ _ _ _ (a + 2) (by omega) hs).mono ?_; rintro e w' ⟨rfl, rfl⟩) | (refine (within_any s _ _ _ _ (a + 3) (by omega) hs).mono ?_; rintro e w' ⟨rfl, rfl⟩))
  go_ret
  exact ⟨rfl, rfl⟩
set_option maxHeartbeats 400000 in
theorem char_245 (s : ByteArray) (a : Nat) (w : World) (hs : s.size ≤ 140737488355328) (ha : a < s.size) (hl : 245 ≤ bt s a) (hh : bt s a ≤ 255) :
    Calls Tryz.prog 159 #[.string s, .int .i64 a] w fun e w' => e = .returned (.int .i64 0) ∧ w = w' := by
  have f0 : inn s a 0 127 = false := inn_no (by omega)
  have f1 : inn s a 194 223 = false := inn_no (by omega)
  have f2 : inn s a 224 224 = false := inn_no (by omega)
  have f3 : inn s a 237 237 = false := inn_no (by omega)
  have f4 : inn s a 224 239 = false := inn_no (by omega)
  have f5 : inn s a 240 240 = false := inn_no (by omega)
  have f6 : inn s a 244 244 = false := inn_no (by omega)
  have f7 : inn s a 240 244 = false := inn_no (by omega)
  clear hl hh
  go_enter Tryz.func159, Tryz.ntmps159
  go_wp2_with (go_at_call 169; first | (refine (within_any s _ _ _ _ a (by omega) hs).mono ?_; rintro e w' ⟨rfl, rfl⟩) | (refine (within_any s _ _ _ _ (a + 1) (by omega) hs).mono ?_; rintro e w' ⟨rfl, rfl⟩) | (refine (within_any s _ _ _ _ (a + 2) (by omega) hs).mono ?_; rintro e w' ⟨rfl, rfl⟩) | (refine (within_any s _ _ _ _ (a + 3) (by omega) hs).mono ?_; rintro e w' ⟨rfl, rfl⟩))
  go_ret
  exact ⟨rfl, rfl⟩

theorem ret_eq {m n : Nat} {w : World} (h : m = n) : (fun (e : Ending) (w' : World) => e = .returned (.int .i64 (m : Int)) ∧ w = w') = (fun e w' => e = .returned (.int .i64 (n : Int)) ∧ w = w') := by rw [h]

theorem chr_0 (s : ByteArray) (a : Nat) (w : World) (hs : s.size ≤ 140737488355328) (ha : a < s.size) (hl : 0 ≤ bt s a) (hh : bt s a ≤ 127) :
    Calls Tryz.prog 159 #[.string s, .int .i64 a] w fun e w' => e = .returned (.int .i64 (Ch s a)) ∧ w = w' := by
  have f0 : inn s a 0 127 = true := inn_yes ha (by omega) (by omega)
  have f1 : inn s a 194 223 = false := inn_no (by omega)
  have f2 : inn s a 224 224 = false := inn_no (by omega)
  have f3 : inn s a 237 237 = false := inn_no (by omega)
  have f4 : inn s a 224 239 = false := inn_no (by omega)
  have f5 : inn s a 240 240 = false := inn_no (by omega)
  have f6 : inn s a 244 244 = false := inn_no (by omega)
  have f7 : inn s a 240 244 = false := inn_no (by omega)
  have hc : Ch s a = 1 := by unfold Ch; simp [*]
  rw [hc]; exact char_0 s a w hs ha hl hh
theorem chr_128 (s : ByteArray) (a : Nat) (w : World) (hs : s.size ≤ 140737488355328) (ha : a < s.size) (hl : 128 ≤ bt s a) (hh : bt s a ≤ 193) :
    Calls Tryz.prog 159 #[.string s, .int .i64 a] w fun e w' => e = .returned (.int .i64 (Ch s a)) ∧ w = w' := by
  have f0 : inn s a 0 127 = false := inn_no (by omega)
  have f1 : inn s a 194 223 = false := inn_no (by omega)
  have f2 : inn s a 224 224 = false := inn_no (by omega)
  have f3 : inn s a 237 237 = false := inn_no (by omega)
  have f4 : inn s a 224 239 = false := inn_no (by omega)
  have f5 : inn s a 240 240 = false := inn_no (by omega)
  have f6 : inn s a 244 244 = false := inn_no (by omega)
  have f7 : inn s a 240 244 = false := inn_no (by omega)
  have hc : Ch s a = 0 := by unfold Ch; simp [*]
  rw [hc]; exact char_128 s a w hs ha hl hh
theorem chr_194 (s : ByteArray) (a : Nat) (w : World) (hs : s.size ≤ 140737488355328) (ha : a < s.size) (hl : 194 ≤ bt s a) (hh : bt s a ≤ 223) :
    Calls Tryz.prog 159 #[.string s, .int .i64 a] w fun e w' => e = .returned (.int .i64 (Ch s a)) ∧ w = w' := by
  have f0 : inn s a 0 127 = false := inn_no (by omega)
  have f1 : inn s a 194 223 = true := inn_yes ha (by omega) (by omega)
  have f2 : inn s a 224 224 = false := inn_no (by omega)
  have f3 : inn s a 237 237 = false := inn_no (by omega)
  have f4 : inn s a 224 239 = false := inn_no (by omega)
  have f5 : inn s a 240 240 = false := inn_no (by omega)
  have f6 : inn s a 244 244 = false := inn_no (by omega)
  have f7 : inn s a 240 244 = false := inn_no (by omega)
  by_cases g1 : inn s (a + 1) 128 191 = true
  · have hc : Ch s a = 2 := by unfold Ch; simp [*]
    rw [hc]; exact char_194_y s a w hs ha hl hh g1
  · have g1 : inn s (a + 1) 128 191 = false := by simpa using g1
    have hc : Ch s a = 0 := by unfold Ch; simp [*]
    rw [hc]; exact char_194_n s a w hs ha hl hh g1
theorem chr_224 (s : ByteArray) (a : Nat) (w : World) (hs : s.size ≤ 140737488355328) (ha : a < s.size) (hl : 224 ≤ bt s a) (hh : bt s a ≤ 224) :
    Calls Tryz.prog 159 #[.string s, .int .i64 a] w fun e w' => e = .returned (.int .i64 (Ch s a)) ∧ w = w' := by
  have f0 : inn s a 0 127 = false := inn_no (by omega)
  have f1 : inn s a 194 223 = false := inn_no (by omega)
  have f2 : inn s a 224 224 = true := inn_yes ha (by omega) (by omega)
  have f3 : inn s a 237 237 = false := inn_no (by omega)
  have f4 : inn s a 224 239 = true := inn_yes ha (by omega) (by omega)
  have f5 : inn s a 240 240 = false := inn_no (by omega)
  have f6 : inn s a 244 244 = false := inn_no (by omega)
  have f7 : inn s a 240 244 = false := inn_no (by omega)
  by_cases g1 : inn s (a + 1) 160 191 = true
  · by_cases g2 : inn s (a + 2) 128 191 = true
    · have hc : Ch s a = 3 := by unfold Ch; simp [*]
      rw [hc]; exact char_224_y s a w hs ha hl hh g1 g2
    · have g2 : inn s (a + 2) 128 191 = false := by simpa using g2
      have hc : Ch s a = 0 := by unfold Ch; simp [*]
      rw [hc]; exact char_224_n2 s a w hs ha hl hh g1 g2
  · have g1 : inn s (a + 1) 160 191 = false := by simpa using g1
    have hc : Ch s a = 0 := by unfold Ch; simp [*]
    rw [hc]; exact char_224_n1 s a w hs ha hl hh g1
theorem chr_225 (s : ByteArray) (a : Nat) (w : World) (hs : s.size ≤ 140737488355328) (ha : a < s.size) (hl : 225 ≤ bt s a) (hh : bt s a ≤ 236) :
    Calls Tryz.prog 159 #[.string s, .int .i64 a] w fun e w' => e = .returned (.int .i64 (Ch s a)) ∧ w = w' := by
  have f0 : inn s a 0 127 = false := inn_no (by omega)
  have f1 : inn s a 194 223 = false := inn_no (by omega)
  have f2 : inn s a 224 224 = false := inn_no (by omega)
  have f3 : inn s a 237 237 = false := inn_no (by omega)
  have f4 : inn s a 224 239 = true := inn_yes ha (by omega) (by omega)
  have f5 : inn s a 240 240 = false := inn_no (by omega)
  have f6 : inn s a 244 244 = false := inn_no (by omega)
  have f7 : inn s a 240 244 = false := inn_no (by omega)
  by_cases g1 : inn s (a + 1) 128 191 = true
  · by_cases g2 : inn s (a + 2) 128 191 = true
    · have hc : Ch s a = 3 := by unfold Ch; simp [*]
      rw [hc]; exact char_225_y s a w hs ha hl hh g1 g2
    · have g2 : inn s (a + 2) 128 191 = false := by simpa using g2
      have hc : Ch s a = 0 := by unfold Ch; simp [*]
      rw [hc]; exact char_225_n2 s a w hs ha hl hh g1 g2
  · have g1 : inn s (a + 1) 128 191 = false := by simpa using g1
    have hc : Ch s a = 0 := by unfold Ch; simp [*]
    rw [hc]; exact char_225_n1 s a w hs ha hl hh g1
theorem chr_237 (s : ByteArray) (a : Nat) (w : World) (hs : s.size ≤ 140737488355328) (ha : a < s.size) (hl : 237 ≤ bt s a) (hh : bt s a ≤ 237) :
    Calls Tryz.prog 159 #[.string s, .int .i64 a] w fun e w' => e = .returned (.int .i64 (Ch s a)) ∧ w = w' := by
  have f0 : inn s a 0 127 = false := inn_no (by omega)
  have f1 : inn s a 194 223 = false := inn_no (by omega)
  have f2 : inn s a 224 224 = false := inn_no (by omega)
  have f3 : inn s a 237 237 = true := inn_yes ha (by omega) (by omega)
  have f4 : inn s a 224 239 = true := inn_yes ha (by omega) (by omega)
  have f5 : inn s a 240 240 = false := inn_no (by omega)
  have f6 : inn s a 244 244 = false := inn_no (by omega)
  have f7 : inn s a 240 244 = false := inn_no (by omega)
  by_cases g1 : inn s (a + 1) 128 159 = true
  · by_cases g2 : inn s (a + 2) 128 191 = true
    · have hc : Ch s a = 3 := by unfold Ch; simp [*]
      rw [hc]; exact char_237_y s a w hs ha hl hh g1 g2
    · have g2 : inn s (a + 2) 128 191 = false := by simpa using g2
      have hc : Ch s a = 0 := by unfold Ch; simp [*]
      rw [hc]; exact char_237_n2 s a w hs ha hl hh g1 g2
  · have g1 : inn s (a + 1) 128 159 = false := by simpa using g1
    have hc : Ch s a = 0 := by unfold Ch; simp [*]
    rw [hc]; exact char_237_n1 s a w hs ha hl hh g1
theorem chr_238 (s : ByteArray) (a : Nat) (w : World) (hs : s.size ≤ 140737488355328) (ha : a < s.size) (hl : 238 ≤ bt s a) (hh : bt s a ≤ 239) :
    Calls Tryz.prog 159 #[.string s, .int .i64 a] w fun e w' => e = .returned (.int .i64 (Ch s a)) ∧ w = w' := by
  have f0 : inn s a 0 127 = false := inn_no (by omega)
  have f1 : inn s a 194 223 = false := inn_no (by omega)
  have f2 : inn s a 224 224 = false := inn_no (by omega)
  have f3 : inn s a 237 237 = false := inn_no (by omega)
  have f4 : inn s a 224 239 = true := inn_yes ha (by omega) (by omega)
  have f5 : inn s a 240 240 = false := inn_no (by omega)
  have f6 : inn s a 244 244 = false := inn_no (by omega)
  have f7 : inn s a 240 244 = false := inn_no (by omega)
  by_cases g1 : inn s (a + 1) 128 191 = true
  · by_cases g2 : inn s (a + 2) 128 191 = true
    · have hc : Ch s a = 3 := by unfold Ch; simp [*]
      rw [hc]; exact char_238_y s a w hs ha hl hh g1 g2
    · have g2 : inn s (a + 2) 128 191 = false := by simpa using g2
      have hc : Ch s a = 0 := by unfold Ch; simp [*]
      rw [hc]; exact char_238_n2 s a w hs ha hl hh g1 g2
  · have g1 : inn s (a + 1) 128 191 = false := by simpa using g1
    have hc : Ch s a = 0 := by unfold Ch; simp [*]
    rw [hc]; exact char_238_n1 s a w hs ha hl hh g1
theorem chr_240 (s : ByteArray) (a : Nat) (w : World) (hs : s.size ≤ 140737488355328) (ha : a < s.size) (hl : 240 ≤ bt s a) (hh : bt s a ≤ 240) :
    Calls Tryz.prog 159 #[.string s, .int .i64 a] w fun e w' => e = .returned (.int .i64 (Ch s a)) ∧ w = w' := by
  have f0 : inn s a 0 127 = false := inn_no (by omega)
  have f1 : inn s a 194 223 = false := inn_no (by omega)
  have f2 : inn s a 224 224 = false := inn_no (by omega)
  have f3 : inn s a 237 237 = false := inn_no (by omega)
  have f4 : inn s a 224 239 = false := inn_no (by omega)
  have f5 : inn s a 240 240 = true := inn_yes ha (by omega) (by omega)
  have f6 : inn s a 244 244 = false := inn_no (by omega)
  have f7 : inn s a 240 244 = true := inn_yes ha (by omega) (by omega)
  by_cases g1 : inn s (a + 1) 144 191 = true
  · by_cases g2 : inn s (a + 2) 128 191 = true
    · by_cases g3 : inn s (a + 3) 128 191 = true
      · have hc : Ch s a = 4 := by unfold Ch; simp [*]
        rw [hc]; exact char_240_y s a w hs ha hl hh g1 g2 g3
      · have g3 : inn s (a + 3) 128 191 = false := by simpa using g3
        have hc : Ch s a = 0 := by unfold Ch; simp [*]
        rw [hc]; exact char_240_n3 s a w hs ha hl hh g1 g2 g3
    · have g2 : inn s (a + 2) 128 191 = false := by simpa using g2
      have hc : Ch s a = 0 := by unfold Ch; simp [*]
      rw [hc]; exact char_240_n2 s a w hs ha hl hh g1 g2
  · have g1 : inn s (a + 1) 144 191 = false := by simpa using g1
    have hc : Ch s a = 0 := by unfold Ch; simp [*]
    rw [hc]; exact char_240_n1 s a w hs ha hl hh g1
theorem chr_241 (s : ByteArray) (a : Nat) (w : World) (hs : s.size ≤ 140737488355328) (ha : a < s.size) (hl : 241 ≤ bt s a) (hh : bt s a ≤ 243) :
    Calls Tryz.prog 159 #[.string s, .int .i64 a] w fun e w' => e = .returned (.int .i64 (Ch s a)) ∧ w = w' := by
  have f0 : inn s a 0 127 = false := inn_no (by omega)
  have f1 : inn s a 194 223 = false := inn_no (by omega)
  have f2 : inn s a 224 224 = false := inn_no (by omega)
  have f3 : inn s a 237 237 = false := inn_no (by omega)
  have f4 : inn s a 224 239 = false := inn_no (by omega)
  have f5 : inn s a 240 240 = false := inn_no (by omega)
  have f6 : inn s a 244 244 = false := inn_no (by omega)
  have f7 : inn s a 240 244 = true := inn_yes ha (by omega) (by omega)
  by_cases g1 : inn s (a + 1) 128 191 = true
  · by_cases g2 : inn s (a + 2) 128 191 = true
    · by_cases g3 : inn s (a + 3) 128 191 = true
      · have hc : Ch s a = 4 := by unfold Ch; simp [*]
        rw [hc]; exact char_241_y s a w hs ha hl hh g1 g2 g3
      · have g3 : inn s (a + 3) 128 191 = false := by simpa using g3
        have hc : Ch s a = 0 := by unfold Ch; simp [*]
        rw [hc]; exact char_241_n3 s a w hs ha hl hh g1 g2 g3
    · have g2 : inn s (a + 2) 128 191 = false := by simpa using g2
      have hc : Ch s a = 0 := by unfold Ch; simp [*]
      rw [hc]; exact char_241_n2 s a w hs ha hl hh g1 g2
  · have g1 : inn s (a + 1) 128 191 = false := by simpa using g1
    have hc : Ch s a = 0 := by unfold Ch; simp [*]
    rw [hc]; exact char_241_n1 s a w hs ha hl hh g1
theorem chr_244 (s : ByteArray) (a : Nat) (w : World) (hs : s.size ≤ 140737488355328) (ha : a < s.size) (hl : 244 ≤ bt s a) (hh : bt s a ≤ 244) :
    Calls Tryz.prog 159 #[.string s, .int .i64 a] w fun e w' => e = .returned (.int .i64 (Ch s a)) ∧ w = w' := by
  have f0 : inn s a 0 127 = false := inn_no (by omega)
  have f1 : inn s a 194 223 = false := inn_no (by omega)
  have f2 : inn s a 224 224 = false := inn_no (by omega)
  have f3 : inn s a 237 237 = false := inn_no (by omega)
  have f4 : inn s a 224 239 = false := inn_no (by omega)
  have f5 : inn s a 240 240 = false := inn_no (by omega)
  have f6 : inn s a 244 244 = true := inn_yes ha (by omega) (by omega)
  have f7 : inn s a 240 244 = true := inn_yes ha (by omega) (by omega)
  by_cases g1 : inn s (a + 1) 128 143 = true
  · by_cases g2 : inn s (a + 2) 128 191 = true
    · by_cases g3 : inn s (a + 3) 128 191 = true
      · have hc : Ch s a = 4 := by unfold Ch; simp [*]
        rw [hc]; exact char_244_y s a w hs ha hl hh g1 g2 g3
      · have g3 : inn s (a + 3) 128 191 = false := by simpa using g3
        have hc : Ch s a = 0 := by unfold Ch; simp [*]
        rw [hc]; exact char_244_n3 s a w hs ha hl hh g1 g2 g3
    · have g2 : inn s (a + 2) 128 191 = false := by simpa using g2
      have hc : Ch s a = 0 := by unfold Ch; simp [*]
      rw [hc]; exact char_244_n2 s a w hs ha hl hh g1 g2
  · have g1 : inn s (a + 1) 128 143 = false := by simpa using g1
    have hc : Ch s a = 0 := by unfold Ch; simp [*]
    rw [hc]; exact char_244_n1 s a w hs ha hl hh g1
theorem chr_245 (s : ByteArray) (a : Nat) (w : World) (hs : s.size ≤ 140737488355328) (ha : a < s.size) (hl : 245 ≤ bt s a) (hh : bt s a ≤ 255) :
    Calls Tryz.prog 159 #[.string s, .int .i64 a] w fun e w' => e = .returned (.int .i64 (Ch s a)) ∧ w = w' := by
  have f0 : inn s a 0 127 = false := inn_no (by omega)
  have f1 : inn s a 194 223 = false := inn_no (by omega)
  have f2 : inn s a 224 224 = false := inn_no (by omega)
  have f3 : inn s a 237 237 = false := inn_no (by omega)
  have f4 : inn s a 224 239 = false := inn_no (by omega)
  have f5 : inn s a 240 240 = false := inn_no (by omega)
  have f6 : inn s a 244 244 = false := inn_no (by omega)
  have f7 : inn s a 240 244 = false := inn_no (by omega)
  have hc : Ch s a = 0 := by unfold Ch; simp [*]
  rw [hc]; exact char_245 s a w hs ha hl hh

/-- Character, at every place of every text. -/
theorem char_any (s : ByteArray) (x : Int) (a : Nat) (w : World) (hx : x = a) (hs : s.size ≤ 140737488355328) (ha : a < s.size) :
    Calls Tryz.prog 159 #[.string s, .int .i64 x] w fun e w' => e = .returned (.int .i64 (Ch s a)) ∧ w = w' := by
  subst hx
  have h0 := bt_nonneg s a
  have h1 := bt_le s a
  have H : (0 ≤ bt s a ∧ bt s a ≤ 127) ∨ (128 ≤ bt s a ∧ bt s a ≤ 193) ∨ (194 ≤ bt s a ∧ bt s a ≤ 223) ∨ (224 ≤ bt s a ∧ bt s a ≤ 224) ∨ (225 ≤ bt s a ∧ bt s a ≤ 236) ∨ (237 ≤ bt s a ∧ bt s a ≤ 237) ∨ (238 ≤ bt s a ∧ bt s a ≤ 239) ∨ (240 ≤ bt s a ∧ bt s a ≤ 240) ∨ (241 ≤ bt s a ∧ bt s a ≤ 243) ∨ (244 ≤ bt s a ∧ bt s a ≤ 244) ∨ (245 ≤ bt s a ∧ bt s a ≤ 255) := by omega
  rcases H with ⟨hl, hh⟩ | ⟨hl, hh⟩ | ⟨hl, hh⟩ | ⟨hl, hh⟩ | ⟨hl, hh⟩ | ⟨hl, hh⟩ | ⟨hl, hh⟩ | ⟨hl, hh⟩ | ⟨hl, hh⟩ | ⟨hl, hh⟩ | ⟨hl, hh⟩
  · exact chr_0 s a w hs ha hl hh
  · exact chr_128 s a w hs ha hl hh
  · exact chr_194 s a w hs ha hl hh
  · exact chr_224 s a w hs ha hl hh
  · exact chr_225 s a w hs ha hl hh
  · exact chr_237 s a w hs ha hl hh
  · exact chr_238 s a w hs ha hl hh
  · exact chr_240 s a w hs ha hl hh
  · exact chr_241 s a w hs ha hl hh
  · exact chr_244 s a w hs ha hl hh
  · exact chr_245 s a w hs ha hl hh
end Go.Proofs.YtondjodfkgefgaaGreatDoor.Txt
