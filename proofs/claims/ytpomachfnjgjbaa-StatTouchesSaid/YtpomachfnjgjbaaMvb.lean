/- The table of a record's fields: what each row's functions do (how a field goes over). -/
import Derived.Test.YtpomachfnjgjbaaTab
namespace Go.Proofs.Ytpomachfnjgjbaa
set_option linter.unusedVariables false
open Go.RowKit
namespace Tab

set_option maxHeartbeats 1000000 in
theorem move_3 (w : World) (a b c : Nat) (x y : Nat) (cs : Array Value) (t : TypeId) (h0 : w.cell? ⟨c, 0, none⟩ = some (.func (.func 63) #[] #[])) (hb : Hid (w.heap[a]? = some (.cells cs t (0, 0)))) (h1 : w.cell? ⟨a, 3, none⟩ = some (.int .u32 x)) (h2 : w.cell? ⟨b, 3, none⟩ = some (.int .u32 y)) :
    Calls Try.prog 96 #[.pointer (some ⟨a, 0, none⟩), .pointer (some ⟨b, 0, none⟩), .pointer (some ⟨c, 0, none⟩)] w fun e w' => e = .returned (.tuple #[]) ∧ Hid (w'.heap[a]? = some (.cells (cs.setIfInBounds 3 (.int .u32 y)) t (0, 0))) ∧ Kept [a] w w' := by
  have f1 : w.frozen? ⟨a, 3, none⟩ = false := by simp [World.frozen?, hb.out]
  go_enter Try.func96, Try.ntmps96
  go_wp2_with fail
  go_region_with (go_at_call 63; refine (in_3 _ _).mono ?_; rintro e w' ⟨rfl, rfl⟩)
  all_goals (go_wp2_with fail)
  all_goals (first | go_end0 | go_returns)
  all_goals exact ⟨rfl, heap_set _ hb.out, ((Kept.refl [a] _).setCell (Or.inl (by simp)) _).drew⟩

set_option maxHeartbeats 1000000 in
theorem move_4 (w : World) (a b c : Nat) (x y : Nat) (cs : Array Value) (t : TypeId) (h0 : w.cell? ⟨c, 0, none⟩ = some (.func (.func 65) #[] #[])) (hb : Hid (w.heap[a]? = some (.cells cs t (0, 0)))) (h1 : w.cell? ⟨a, 4, none⟩ = some (.int .u64 x)) (h2 : w.cell? ⟨b, 4, none⟩ = some (.int .u64 y)) :
    Calls Try.prog 100 #[.pointer (some ⟨a, 0, none⟩), .pointer (some ⟨b, 0, none⟩), .pointer (some ⟨c, 0, none⟩)] w fun e w' => e = .returned (.tuple #[]) ∧ Hid (w'.heap[a]? = some (.cells (cs.setIfInBounds 4 (.int .u64 y)) t (0, 0))) ∧ Kept [a] w w' := by
  have f1 : w.frozen? ⟨a, 4, none⟩ = false := by simp [World.frozen?, hb.out]
  go_enter Try.func100, Try.ntmps100
  go_wp2_with fail
  go_region_with (go_at_call 65; refine (in_4 _ _).mono ?_; rintro e w' ⟨rfl, rfl⟩)
  all_goals (go_wp2_with fail)
  all_goals (first | go_end0 | go_returns)
  all_goals exact ⟨rfl, heap_set _ hb.out, ((Kept.refl [a] _).setCell (Or.inl (by simp)) _).drew⟩

set_option maxHeartbeats 1000000 in
theorem move_5 (w : World) (a b c : Nat) (x y : Nat) (cs : Array Value) (t : TypeId) (h0 : w.cell? ⟨c, 0, none⟩ = some (.func (.func 66) #[] #[])) (hb : Hid (w.heap[a]? = some (.cells cs t (0, 0)))) (h1 : w.cell? ⟨a, 5, none⟩ = some (.int .u32 x)) (h2 : w.cell? ⟨b, 5, none⟩ = some (.int .u32 y)) :
    Calls Try.prog 96 #[.pointer (some ⟨a, 0, none⟩), .pointer (some ⟨b, 0, none⟩), .pointer (some ⟨c, 0, none⟩)] w fun e w' => e = .returned (.tuple #[]) ∧ Hid (w'.heap[a]? = some (.cells (cs.setIfInBounds 5 (.int .u32 y)) t (0, 0))) ∧ Kept [a] w w' := by
  have f1 : w.frozen? ⟨a, 5, none⟩ = false := by simp [World.frozen?, hb.out]
  go_enter Try.func96, Try.ntmps96
  go_wp2_with fail
  go_region_with (go_at_call 66; refine (in_5 _ _).mono ?_; rintro e w' ⟨rfl, rfl⟩)
  all_goals (go_wp2_with fail)
  all_goals (first | go_end0 | go_returns)
  all_goals exact ⟨rfl, heap_set _ hb.out, ((Kept.refl [a] _).setCell (Or.inl (by simp)) _).drew⟩
end Tab
end Go.Proofs.Ytpomachfnjgjbaa
