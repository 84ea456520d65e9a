/- The table of a record's fields: what each row's functions do (how a field goes over). -/
import Derived.Test.YtpomachfnjgjbaaTab
namespace Go.Proofs.Ytpomachfnjgjbaa
set_option linter.unusedVariables false
open Go.RowKit
namespace Tab

set_option maxHeartbeats 1000000 in
theorem move_0 (w : World) (a b c : Nat) (x y : Nat) (cs : Array Value) (t : TypeId) (h0 : w.cell? ⟨c, 0, none⟩ = some (.func (.func 58) #[] #[])) (hb : Hid (w.heap[a]? = some (.cells cs t (0, 0)))) (h1 : w.cell? ⟨a, 0, none⟩ = some (.int .u16 x)) (h2 : w.cell? ⟨b, 0, none⟩ = some (.int .u16 y)) :
    Calls Try.prog 94 #[.pointer (some ⟨a, 0, none⟩), .pointer (some ⟨b, 0, none⟩), .pointer (some ⟨c, 0, none⟩)] w fun e w' => e = .returned (.tuple #[]) ∧ Hid (w'.heap[a]? = some (.cells (cs.setIfInBounds 0 (.int .u16 y)) t (0, 0))) ∧ Kept [a] w w' := by
  have f1 : w.frozen? ⟨a, 0, none⟩ = false := by simp [World.frozen?, hb.out]
  go_enter Try.func94, Try.ntmps94
  go_wp2_with fail
  go_region_with (go_at_call 58; refine (in_0 _ _).mono ?_; rintro e w' ⟨rfl, rfl⟩)
  all_goals (go_wp2_with fail)
  all_goals (first | go_end0 | go_returns)
  all_goals exact ⟨rfl, heap_set _ hb.out, ((Kept.refl [a] _).setCell (Or.inl (by simp)) _).drew⟩

set_option maxHeartbeats 1000000 in
theorem move_1 (w : World) (a b c : Nat) (x y : Nat) (cs : Array Value) (t : TypeId) (h0 : w.cell? ⟨c, 0, none⟩ = some (.func (.func 60) #[] #[])) (hb : Hid (w.heap[a]? = some (.cells cs t (0, 0)))) (h1 : w.cell? ⟨a, 1, none⟩ = some (.int .u32 x)) (h2 : w.cell? ⟨b, 1, none⟩ = some (.int .u32 y)) :
    Calls Try.prog 96 #[.pointer (some ⟨a, 0, none⟩), .pointer (some ⟨b, 0, none⟩), .pointer (some ⟨c, 0, none⟩)] w fun e w' => e = .returned (.tuple #[]) ∧ Hid (w'.heap[a]? = some (.cells (cs.setIfInBounds 1 (.int .u32 y)) t (0, 0))) ∧ Kept [a] w w' := by
  have f1 : w.frozen? ⟨a, 1, none⟩ = false := by simp [World.frozen?, hb.out]
  go_enter Try.func96, Try.ntmps96
  go_wp2_with fail
  go_region_with (go_at_call 60; refine (in_1 _ _).mono ?_; rintro e w' ⟨rfl, rfl⟩)
  all_goals (go_wp2_with fail)
  all_goals (first | go_end0 | go_returns)
  all_goals exact ⟨rfl, heap_set _ hb.out, ((Kept.refl [a] _).setCell (Or.inl (by simp)) _).drew⟩

set_option maxHeartbeats 1000000 in
theorem move_2 (w : World) (a b c : Nat) (x y : Nat) (cs : Array Value) (t : TypeId) (h0 : w.cell? ⟨c, 0, none⟩ = some (.func (.func 62) #[] #[])) (hb : Hid (w.heap[a]? = some (.cells cs t (0, 0)))) (h1 : w.cell? ⟨a, 2, none⟩ = some (.int .u8 x)) (h2 : w.cell? ⟨b, 2, none⟩ = some (.int .u8 y)) :
    Calls Try.prog 98 #[.pointer (some ⟨a, 0, none⟩), .pointer (some ⟨b, 0, none⟩), .pointer (some ⟨c, 0, none⟩)] w fun e w' => e = .returned (.tuple #[]) ∧ Hid (w'.heap[a]? = some (.cells (cs.setIfInBounds 2 (.int .u8 y)) t (0, 0))) ∧ Kept [a] w w' := by
  have f1 : w.frozen? ⟨a, 2, none⟩ = false := by simp [World.frozen?, hb.out]
  go_enter Try.func98, Try.ntmps98
  go_wp2_with fail
  go_region_with (go_at_call 62; refine (in_2 _ _).mono ?_; rintro e w' ⟨rfl, rfl⟩)
  all_goals (go_wp2_with fail)
  all_goals (first | go_end0 | go_returns)
  all_goals exact ⟨rfl, heap_set _ hb.out, ((Kept.refl [a] _).setCell (Or.inl (by simp)) _).drew⟩
end Tab
end Go.Proofs.Ytpomachfnjgjbaa
