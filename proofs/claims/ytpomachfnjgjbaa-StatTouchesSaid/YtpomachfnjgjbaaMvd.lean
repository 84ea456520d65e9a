/- The table of a record's fields: what each row's functions do (how a field goes over). -/
import Derived.Test.YtpomachfnjgjbaaTab
namespace Go.Proofs.Ytpomachfnjgjbaa
set_option linter.unusedVariables false
open Go.RowKit
namespace Tab

set_option maxHeartbeats 1000000 in
theorem move_9 (w : World) (a b c : Nat) (x y : ByteArray) (cs : Array Value) (t : TypeId) (h0 : w.cell? ⟨c, 0, none⟩ = some (.func (.func 71) #[] #[])) (hb : Hid (w.heap[a]? = some (.cells cs t (0, 0)))) (h1 : w.cell? ⟨a, 9, none⟩ = some (.string x)) (h2 : w.cell? ⟨b, 9, none⟩ = some (.string y)) :
    Calls Try.prog 102 #[.pointer (some ⟨a, 0, none⟩), .pointer (some ⟨b, 0, none⟩), .pointer (some ⟨c, 0, none⟩)] w fun e w' => e = .returned (.tuple #[]) ∧ Hid (w'.heap[a]? = some (.cells (cs.setIfInBounds 9 (.string y)) t (0, 0))) ∧ Kept [a] w w' := by
  have f1 : w.frozen? ⟨a, 9, none⟩ = false := by simp [World.frozen?, hb.out]
  go_enter Try.func102, Try.ntmps102
  go_wp2_with fail
  go_region_with (go_at_call 71; refine (in_9 _ _).mono ?_; rintro e w' ⟨rfl, rfl⟩)
  all_goals (go_wp2_with fail)
  all_goals (first | go_end0 | go_returns)
  all_goals exact ⟨rfl, heap_set _ hb.out, ((Kept.refl [a] _).setCell (Or.inl (by simp)) _).drew⟩

set_option maxHeartbeats 1000000 in
theorem move_10 (w : World) (a b c : Nat) (x y : ByteArray) (cs : Array Value) (t : TypeId) (h0 : w.cell? ⟨c, 0, none⟩ = some (.func (.func 72) #[] #[])) (hb : Hid (w.heap[a]? = some (.cells cs t (0, 0)))) (h1 : w.cell? ⟨a, 10, none⟩ = some (.string x)) (h2 : w.cell? ⟨b, 10, none⟩ = some (.string y)) :
    Calls Try.prog 102 #[.pointer (some ⟨a, 0, none⟩), .pointer (some ⟨b, 0, none⟩), .pointer (some ⟨c, 0, none⟩)] w fun e w' => e = .returned (.tuple #[]) ∧ Hid (w'.heap[a]? = some (.cells (cs.setIfInBounds 10 (.string y)) t (0, 0))) ∧ Kept [a] w w' := by
  have f1 : w.frozen? ⟨a, 10, none⟩ = false := by simp [World.frozen?, hb.out]
  go_enter Try.func102, Try.ntmps102
  go_wp2_with fail
  go_region_with (go_at_call 72; refine (in_10 _ _).mono ?_; rintro e w' ⟨rfl, rfl⟩)
  all_goals (go_wp2_with fail)
  all_goals (first | go_end0 | go_returns)
  all_goals exact ⟨rfl, heap_set _ hb.out, ((Kept.refl [a] _).setCell (Or.inl (by simp)) _).drew⟩

set_option maxHeartbeats 1000000 in
theorem move_11 (w : World) (a b c : Nat) (x y : ByteArray) (cs : Array Value) (t : TypeId) (h0 : w.cell? ⟨c, 0, none⟩ = some (.func (.func 73) #[] #[])) (hb : Hid (w.heap[a]? = some (.cells cs t (0, 0)))) (h1 : w.cell? ⟨a, 11, none⟩ = some (.string x)) (h2 : w.cell? ⟨b, 11, none⟩ = some (.string y)) :
    Calls Try.prog 102 #[.pointer (some ⟨a, 0, none⟩), .pointer (some ⟨b, 0, none⟩), .pointer (some ⟨c, 0, none⟩)] w fun e w' => e = .returned (.tuple #[]) ∧ Hid (w'.heap[a]? = some (.cells (cs.setIfInBounds 11 (.string y)) t (0, 0))) ∧ Kept [a] w w' := by
  have f1 : w.frozen? ⟨a, 11, none⟩ = false := by simp [World.frozen?, hb.out]
  go_enter Try.func102, Try.ntmps102
  go_wp2_with fail
  go_region_with (go_at_call 73; refine (in_11 _ _).mono ?_; rintro e w' ⟨rfl, rfl⟩)
  all_goals (go_wp2_with fail)
  all_goals (first | go_end0 | go_returns)
  all_goals exact ⟨rfl, heap_set _ hb.out, ((Kept.refl [a] _).setCell (Or.inl (by simp)) _).drew⟩
end Tab
end Go.Proofs.Ytpomachfnjgjbaa
