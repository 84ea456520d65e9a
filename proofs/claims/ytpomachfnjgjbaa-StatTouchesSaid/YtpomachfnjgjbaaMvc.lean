/- The table of a record's fields: what each row's functions do (how a field goes over). -/
import Derived.Test.YtpomachfnjgjbaaTab
namespace Go.Proofs.Ytpomachfnjgjbaa
set_option linter.unusedVariables false
open Go.RowKit
namespace Tab

set_option maxHeartbeats 1000000 in
theorem move_6 (w : World) (a b c : Nat) (x y : Nat) (cs : Array Value) (t : TypeId) (h0 : w.cell? ⟨c, 0, none⟩ = some (.func (.func 67) #[] #[])) (hb : Hid (w.heap[a]? = some (.cells cs t (0, 0)))) (h1 : w.cell? ⟨a, 6, none⟩ = some (.int .u32 x)) (h2 : w.cell? ⟨b, 6, none⟩ = some (.int .u32 y)) :
    Calls Try.prog 96 #[.pointer (some ⟨a, 0, none⟩), .pointer (some ⟨b, 0, none⟩), .pointer (some ⟨c, 0, none⟩)] w fun e w' => e = .returned (.tuple #[]) ∧ Hid (w'.heap[a]? = some (.cells (cs.setIfInBounds 6 (.int .u32 y)) t (0, 0))) ∧ Kept [a] w w' := by
  have f1 : w.frozen? ⟨a, 6, none⟩ = false := by simp [World.frozen?, hb.out]
  go_enter Try.func96, Try.ntmps96
  go_wp2_with fail
  go_region_with (go_at_call 67; refine (in_6 _ _).mono ?_; rintro e w' ⟨rfl, rfl⟩)
  all_goals (go_wp2_with fail)
  all_goals (first | go_end0 | go_returns)
  all_goals exact ⟨rfl, heap_set _ hb.out, ((Kept.refl [a] _).setCell (Or.inl (by simp)) _).drew⟩

set_option maxHeartbeats 1000000 in
theorem move_7 (w : World) (a b c : Nat) (x y : Nat) (cs : Array Value) (t : TypeId) (h0 : w.cell? ⟨c, 0, none⟩ = some (.func (.func 68) #[] #[])) (hb : Hid (w.heap[a]? = some (.cells cs t (0, 0)))) (h1 : w.cell? ⟨a, 7, none⟩ = some (.int .u32 x)) (h2 : w.cell? ⟨b, 7, none⟩ = some (.int .u32 y)) :
    Calls Try.prog 96 #[.pointer (some ⟨a, 0, none⟩), .pointer (some ⟨b, 0, none⟩), .pointer (some ⟨c, 0, none⟩)] w fun e w' => e = .returned (.tuple #[]) ∧ Hid (w'.heap[a]? = some (.cells (cs.setIfInBounds 7 (.int .u32 y)) t (0, 0))) ∧ Kept [a] w w' := by
  have f1 : w.frozen? ⟨a, 7, none⟩ = false := by simp [World.frozen?, hb.out]
  go_enter Try.func96, Try.ntmps96
  go_wp2_with fail
  go_region_with (go_at_call 68; refine (in_7 _ _).mono ?_; rintro e w' ⟨rfl, rfl⟩)
  all_goals (go_wp2_with fail)
  all_goals (first | go_end0 | go_returns)
  all_goals exact ⟨rfl, heap_set _ hb.out, ((Kept.refl [a] _).setCell (Or.inl (by simp)) _).drew⟩

set_option maxHeartbeats 1000000 in
theorem move_8 (w : World) (a b c : Nat) (x y : Nat) (cs : Array Value) (t : TypeId) (h0 : w.cell? ⟨c, 0, none⟩ = some (.func (.func 69) #[] #[])) (hb : Hid (w.heap[a]? = some (.cells cs t (0, 0)))) (h1 : w.cell? ⟨a, 8, none⟩ = some (.int .u64 x)) (h2 : w.cell? ⟨b, 8, none⟩ = some (.int .u64 y)) :
    Calls Try.prog 100 #[.pointer (some ⟨a, 0, none⟩), .pointer (some ⟨b, 0, none⟩), .pointer (some ⟨c, 0, none⟩)] w fun e w' => e = .returned (.tuple #[]) ∧ Hid (w'.heap[a]? = some (.cells (cs.setIfInBounds 8 (.int .u64 y)) t (0, 0))) ∧ Kept [a] w w' := by
  have f1 : w.frozen? ⟨a, 8, none⟩ = false := by simp [World.frozen?, hb.out]
  go_enter Try.func100, Try.ntmps100
  go_wp2_with fail
  go_region_with (go_at_call 69; refine (in_8 _ _).mono ?_; rintro e w' ⟨rfl, rfl⟩)
  all_goals (go_wp2_with fail)
  all_goals (first | go_end0 | go_returns)
  all_goals exact ⟨rfl, heap_set _ hb.out, ((Kept.refl [a] _).setCell (Or.inl (by simp)) _).drew⟩

set_option maxHeartbeats 1000000 in
theorem move_12 (w : World) (a b c : Nat) (x y : ByteArray) (cs : Array Value) (t : TypeId) (h0 : w.cell? ⟨c, 0, none⟩ = some (.func (.func 74) #[] #[])) (hb : Hid (w.heap[a]? = some (.cells cs t (0, 0)))) (h1 : w.cell? ⟨a, 12, none⟩ = some (.string x)) (h2 : w.cell? ⟨b, 12, none⟩ = some (.string y)) :
    Calls Try.prog 102 #[.pointer (some ⟨a, 0, none⟩), .pointer (some ⟨b, 0, none⟩), .pointer (some ⟨c, 0, none⟩)] w fun e w' => e = .returned (.tuple #[]) ∧ Hid (w'.heap[a]? = some (.cells (cs.setIfInBounds 12 (.string y)) t (0, 0))) ∧ Kept [a] w w' := by
  have f1 : w.frozen? ⟨a, 12, none⟩ = false := by simp [World.frozen?, hb.out]
  go_enter Try.func102, Try.ntmps102
  go_wp2_with fail
  go_region_with (go_at_call 74; refine (in_12 _ _).mono ?_; rintro e w' ⟨rfl, rfl⟩)
  all_goals (go_wp2_with fail)
  all_goals (first | go_end0 | go_returns)
  all_goals exact ⟨rfl, heap_set _ hb.out, ((Kept.refl [a] _).setCell (Or.inl (by simp)) _).drew⟩
end Tab
end Go.Proofs.Ytpomachfnjgjbaa
