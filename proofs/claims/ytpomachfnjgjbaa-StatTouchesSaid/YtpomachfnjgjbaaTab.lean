/- The table of a record's fields: what each row's functions do. -/
import Derived.Test.YtpomachfnjgjbaaRtk
namespace Go.Proofs.Ytpomachfnjgjbaa
set_option linter.unusedVariables false
open Go.RowKit
namespace Tab

theorem in_0 (w : World) (b : Nat) : Calls Try.prog 58 #[.pointer (some ⟨b, 0, none⟩)] w fun e w' => e = .returned (.pointer (some ⟨b, 0, none⟩)) ∧ w' = w := by
  go_enter Try.func58, Try.ntmps58
  go_wp2_with fail
  go_ret
  exact ⟨rfl, rfl⟩

theorem in_1 (w : World) (b : Nat) : Calls Try.prog 60 #[.pointer (some ⟨b, 0, none⟩)] w fun e w' => e = .returned (.pointer (some ⟨b, 1, none⟩)) ∧ w' = w := by
  go_enter Try.func60, Try.ntmps60
  go_wp2_with fail
  go_ret
  exact ⟨rfl, rfl⟩

theorem in_2 (w : World) (b : Nat) : Calls Try.prog 62 #[.pointer (some ⟨b, 0, none⟩)] w fun e w' => e = .returned (.pointer (some ⟨b, 2, none⟩)) ∧ w' = w := by
  go_enter Try.func62, Try.ntmps62
  go_wp2_with fail
  go_ret
  exact ⟨rfl, rfl⟩

theorem in_3 (w : World) (b : Nat) : Calls Try.prog 63 #[.pointer (some ⟨b, 0, none⟩)] w fun e w' => e = .returned (.pointer (some ⟨b, 3, none⟩)) ∧ w' = w := by
  go_enter Try.func63, Try.ntmps63
  go_wp2_with fail
  go_ret
  exact ⟨rfl, rfl⟩

theorem in_4 (w : World) (b : Nat) : Calls Try.prog 65 #[.pointer (some ⟨b, 0, none⟩)] w fun e w' => e = .returned (.pointer (some ⟨b, 4, none⟩)) ∧ w' = w := by
  go_enter Try.func65, Try.ntmps65
  go_wp2_with fail
  go_ret
  exact ⟨rfl, rfl⟩

theorem in_5 (w : World) (b : Nat) : Calls Try.prog 66 #[.pointer (some ⟨b, 0, none⟩)] w fun e w' => e = .returned (.pointer (some ⟨b, 5, none⟩)) ∧ w' = w := by
  go_enter Try.func66, Try.ntmps66
  go_wp2_with fail
  go_ret
  exact ⟨rfl, rfl⟩

theorem in_6 (w : World) (b : Nat) : Calls Try.prog 67 #[.pointer (some ⟨b, 0, none⟩)] w fun e w' => e = .returned (.pointer (some ⟨b, 6, none⟩)) ∧ w' = w := by
  go_enter Try.func67, Try.ntmps67
  go_wp2_with fail
  go_ret
  exact ⟨rfl, rfl⟩

theorem in_7 (w : World) (b : Nat) : Calls Try.prog 68 #[.pointer (some ⟨b, 0, none⟩)] w fun e w' => e = .returned (.pointer (some ⟨b, 7, none⟩)) ∧ w' = w := by
  go_enter Try.func68, Try.ntmps68
  go_wp2_with fail
  go_ret
  exact ⟨rfl, rfl⟩

theorem in_8 (w : World) (b : Nat) : Calls Try.prog 69 #[.pointer (some ⟨b, 0, none⟩)] w fun e w' => e = .returned (.pointer (some ⟨b, 8, none⟩)) ∧ w' = w := by
  go_enter Try.func69, Try.ntmps69
  go_wp2_with fail
  go_ret
  exact ⟨rfl, rfl⟩

theorem in_9 (w : World) (b : Nat) : Calls Try.prog 71 #[.pointer (some ⟨b, 0, none⟩)] w fun e w' => e = .returned (.pointer (some ⟨b, 9, none⟩)) ∧ w' = w := by
  go_enter Try.func71, Try.ntmps71
  go_wp2_with fail
  go_ret
  exact ⟨rfl, rfl⟩

theorem in_10 (w : World) (b : Nat) : Calls Try.prog 72 #[.pointer (some ⟨b, 0, none⟩)] w fun e w' => e = .returned (.pointer (some ⟨b, 10, none⟩)) ∧ w' = w := by
  go_enter Try.func72, Try.ntmps72
  go_wp2_with fail
  go_ret
  exact ⟨rfl, rfl⟩

theorem in_11 (w : World) (b : Nat) : Calls Try.prog 73 #[.pointer (some ⟨b, 0, none⟩)] w fun e w' => e = .returned (.pointer (some ⟨b, 11, none⟩)) ∧ w' = w := by
  go_enter Try.func73, Try.ntmps73
  go_wp2_with fail
  go_ret
  exact ⟨rfl, rfl⟩

theorem in_12 (w : World) (b : Nat) : Calls Try.prog 74 #[.pointer (some ⟨b, 0, none⟩)] w fun e w' => e = .returned (.pointer (some ⟨b, 12, none⟩)) ∧ w' = w := by
  go_enter Try.func74, Try.ntmps74
  go_wp2_with fail
  go_ret
  exact ⟨rfl, rfl⟩

theorem same_0 (w : World) (a b c : Nat) (x y : Nat) (z : Bool) (hz : ((x : Int) == (y : Int)) = z) (h0 : w.cell? ⟨c, 0, none⟩ = some (.func (.func 58) #[] #[])) (h1 : w.cell? ⟨a, 0, none⟩ = some (.int .u16 x)) (h2 : w.cell? ⟨b, 0, none⟩ = some (.int .u16 y)) :
    Calls Try.prog 93 #[.pointer (some ⟨a, 0, none⟩), .pointer (some ⟨b, 0, none⟩), .pointer (some ⟨c, 0, none⟩)] w fun e w' => e = .returned (.bool z) ∧ Kept [] w w' := by
  subst hz
  go_enter Try.func93, Try.ntmps93
  go_wp2_with fail
  go_quiet ((go_at_call 58; exact Calls.quiet_of_same (in_0 _ _)))
  go_wp2_with fail
  go_ret
  exact ⟨rfl, (Kept.refl _ _).drewN _⟩

theorem same_1 (w : World) (a b c : Nat) (x y : Nat) (z : Bool) (hz : ((x : Int) == (y : Int)) = z) (h0 : w.cell? ⟨c, 0, none⟩ = some (.func (.func 60) #[] #[])) (h1 : w.cell? ⟨a, 1, none⟩ = some (.int .u32 x)) (h2 : w.cell? ⟨b, 1, none⟩ = some (.int .u32 y)) :
    Calls Try.prog 95 #[.pointer (some ⟨a, 0, none⟩), .pointer (some ⟨b, 0, none⟩), .pointer (some ⟨c, 0, none⟩)] w fun e w' => e = .returned (.bool z) ∧ Kept [] w w' := by
  subst hz
  go_enter Try.func95, Try.ntmps95
  go_wp2_with fail
  go_quiet ((go_at_call 60; exact Calls.quiet_of_same (in_1 _ _)))
  go_wp2_with fail
  go_ret
  exact ⟨rfl, (Kept.refl _ _).drewN _⟩

theorem same_2 (w : World) (a b c : Nat) (x y : Nat) (z : Bool) (hz : ((x : Int) == (y : Int)) = z) (h0 : w.cell? ⟨c, 0, none⟩ = some (.func (.func 62) #[] #[])) (h1 : w.cell? ⟨a, 2, none⟩ = some (.int .u8 x)) (h2 : w.cell? ⟨b, 2, none⟩ = some (.int .u8 y)) :
    Calls Try.prog 97 #[.pointer (some ⟨a, 0, none⟩), .pointer (some ⟨b, 0, none⟩), .pointer (some ⟨c, 0, none⟩)] w fun e w' => e = .returned (.bool z) ∧ Kept [] w w' := by
  subst hz
  go_enter Try.func97, Try.ntmps97
  go_wp2_with fail
  go_quiet ((go_at_call 62; exact Calls.quiet_of_same (in_2 _ _)))
  go_wp2_with fail
  go_ret
  exact ⟨rfl, (Kept.refl _ _).drewN _⟩

theorem same_3 (w : World) (a b c : Nat) (x y : Nat) (z : Bool) (hz : ((x : Int) == (y : Int)) = z) (h0 : w.cell? ⟨c, 0, none⟩ = some (.func (.func 63) #[] #[])) (h1 : w.cell? ⟨a, 3, none⟩ = some (.int .u32 x)) (h2 : w.cell? ⟨b, 3, none⟩ = some (.int .u32 y)) :
    Calls Try.prog 95 #[.pointer (some ⟨a, 0, none⟩), .pointer (some ⟨b, 0, none⟩), .pointer (some ⟨c, 0, none⟩)] w fun e w' => e = .returned (.bool z) ∧ Kept [] w w' := by
  subst hz
  go_enter Try.func95, Try.ntmps95
  go_wp2_with fail
  go_quiet ((go_at_call 63; exact Calls.quiet_of_same (in_3 _ _)))
  go_wp2_with fail
  go_ret
  exact ⟨rfl, (Kept.refl _ _).drewN _⟩

theorem same_4 (w : World) (a b c : Nat) (x y : Nat) (z : Bool) (hz : ((x : Int) == (y : Int)) = z) (h0 : w.cell? ⟨c, 0, none⟩ = some (.func (.func 65) #[] #[])) (h1 : w.cell? ⟨a, 4, none⟩ = some (.int .u64 x)) (h2 : w.cell? ⟨b, 4, none⟩ = some (.int .u64 y)) :
    Calls Try.prog 99 #[.pointer (some ⟨a, 0, none⟩), .pointer (some ⟨b, 0, none⟩), .pointer (some ⟨c, 0, none⟩)] w fun e w' => e = .returned (.bool z) ∧ Kept [] w w' := by
  subst hz
  go_enter Try.func99, Try.ntmps99
  go_wp2_with fail
  go_quiet ((go_at_call 65; exact Calls.quiet_of_same (in_4 _ _)))
  go_wp2_with fail
  go_ret
  exact ⟨rfl, (Kept.refl _ _).drewN _⟩

theorem same_5 (w : World) (a b c : Nat) (x y : Nat) (z : Bool) (hz : ((x : Int) == (y : Int)) = z) (h0 : w.cell? ⟨c, 0, none⟩ = some (.func (.func 66) #[] #[])) (h1 : w.cell? ⟨a, 5, none⟩ = some (.int .u32 x)) (h2 : w.cell? ⟨b, 5, none⟩ = some (.int .u32 y)) :
    Calls Try.prog 95 #[.pointer (some ⟨a, 0, none⟩), .pointer (some ⟨b, 0, none⟩), .pointer (some ⟨c, 0, none⟩)] w fun e w' => e = .returned (.bool z) ∧ Kept [] w w' := by
  subst hz
  go_enter Try.func95, Try.ntmps95
  go_wp2_with fail
  go_quiet ((go_at_call 66; exact Calls.quiet_of_same (in_5 _ _)))
  go_wp2_with fail
  go_ret
  exact ⟨rfl, (Kept.refl _ _).drewN _⟩

theorem same_6 (w : World) (a b c : Nat) (x y : Nat) (z : Bool) (hz : ((x : Int) == (y : Int)) = z) (h0 : w.cell? ⟨c, 0, none⟩ = some (.func (.func 67) #[] #[])) (h1 : w.cell? ⟨a, 6, none⟩ = some (.int .u32 x)) (h2 : w.cell? ⟨b, 6, none⟩ = some (.int .u32 y)) :
    Calls Try.prog 95 #[.pointer (some ⟨a, 0, none⟩), .pointer (some ⟨b, 0, none⟩), .pointer (some ⟨c, 0, none⟩)] w fun e w' => e = .returned (.bool z) ∧ Kept [] w w' := by
  subst hz
  go_enter Try.func95, Try.ntmps95
  go_wp2_with fail
  go_quiet ((go_at_call 67; exact Calls.quiet_of_same (in_6 _ _)))
  go_wp2_with fail
  go_ret
  exact ⟨rfl, (Kept.refl _ _).drewN _⟩

theorem same_7 (w : World) (a b c : Nat) (x y : Nat) (z : Bool) (hz : ((x : Int) == (y : Int)) = z) (h0 : w.cell? ⟨c, 0, none⟩ = some (.func (.func 68) #[] #[])) (h1 : w.cell? ⟨a, 7, none⟩ = some (.int .u32 x)) (h2 : w.cell? ⟨b, 7, none⟩ = some (.int .u32 y)) :
    Calls Try.prog 95 #[.pointer (some ⟨a, 0, none⟩), .pointer (some ⟨b, 0, none⟩), .pointer (some ⟨c, 0, none⟩)] w fun e w' => e = .returned (.bool z) ∧ Kept [] w w' := by
  subst hz
  go_enter Try.func95, Try.ntmps95
  go_wp2_with fail
  go_quiet ((go_at_call 68; exact Calls.quiet_of_same (in_7 _ _)))
  go_wp2_with fail
  go_ret
  exact ⟨rfl, (Kept.refl _ _).drewN _⟩

theorem same_8 (w : World) (a b c : Nat) (x y : Nat) (z : Bool) (hz : ((x : Int) == (y : Int)) = z) (h0 : w.cell? ⟨c, 0, none⟩ = some (.func (.func 69) #[] #[])) (h1 : w.cell? ⟨a, 8, none⟩ = some (.int .u64 x)) (h2 : w.cell? ⟨b, 8, none⟩ = some (.int .u64 y)) :
    Calls Try.prog 99 #[.pointer (some ⟨a, 0, none⟩), .pointer (some ⟨b, 0, none⟩), .pointer (some ⟨c, 0, none⟩)] w fun e w' => e = .returned (.bool z) ∧ Kept [] w w' := by
  subst hz
  go_enter Try.func99, Try.ntmps99
  go_wp2_with fail
  go_quiet ((go_at_call 69; exact Calls.quiet_of_same (in_8 _ _)))
  go_wp2_with fail
  go_ret
  exact ⟨rfl, (Kept.refl _ _).drewN _⟩

theorem same_9 (w : World) (a b c : Nat) (x y : ByteArray) (z : Bool) (hz : (x.toList == y.toList) = z) (h0 : w.cell? ⟨c, 0, none⟩ = some (.func (.func 71) #[] #[])) (h1 : w.cell? ⟨a, 9, none⟩ = some (.string x)) (h2 : w.cell? ⟨b, 9, none⟩ = some (.string y)) :
    Calls Try.prog 101 #[.pointer (some ⟨a, 0, none⟩), .pointer (some ⟨b, 0, none⟩), .pointer (some ⟨c, 0, none⟩)] w fun e w' => e = .returned (.bool z) ∧ Kept [] w w' := by
  subst hz
  go_enter Try.func101, Try.ntmps101
  go_wp2_with fail
  go_quiet ((go_at_call 71; exact Calls.quiet_of_same (in_9 _ _)))
  go_wp2_with fail
  go_ret
  exact ⟨rfl, (Kept.refl _ _).drewN _⟩

theorem same_10 (w : World) (a b c : Nat) (x y : ByteArray) (z : Bool) (hz : (x.toList == y.toList) = z) (h0 : w.cell? ⟨c, 0, none⟩ = some (.func (.func 72) #[] #[])) (h1 : w.cell? ⟨a, 10, none⟩ = some (.string x)) (h2 : w.cell? ⟨b, 10, none⟩ = some (.string y)) :
    Calls Try.prog 101 #[.pointer (some ⟨a, 0, none⟩), .pointer (some ⟨b, 0, none⟩), .pointer (some ⟨c, 0, none⟩)] w fun e w' => e = .returned (.bool z) ∧ Kept [] w w' := by
  subst hz
  go_enter Try.func101, Try.ntmps101
  go_wp2_with fail
  go_quiet ((go_at_call 72; exact Calls.quiet_of_same (in_10 _ _)))
  go_wp2_with fail
  go_ret
  exact ⟨rfl, (Kept.refl _ _).drewN _⟩

theorem same_11 (w : World) (a b c : Nat) (x y : ByteArray) (z : Bool) (hz : (x.toList == y.toList) = z) (h0 : w.cell? ⟨c, 0, none⟩ = some (.func (.func 73) #[] #[])) (h1 : w.cell? ⟨a, 11, none⟩ = some (.string x)) (h2 : w.cell? ⟨b, 11, none⟩ = some (.string y)) :
    Calls Try.prog 101 #[.pointer (some ⟨a, 0, none⟩), .pointer (some ⟨b, 0, none⟩), .pointer (some ⟨c, 0, none⟩)] w fun e w' => e = .returned (.bool z) ∧ Kept [] w w' := by
  subst hz
  go_enter Try.func101, Try.ntmps101
  go_wp2_with fail
  go_quiet ((go_at_call 73; exact Calls.quiet_of_same (in_11 _ _)))
  go_wp2_with fail
  go_ret
  exact ⟨rfl, (Kept.refl _ _).drewN _⟩

theorem same_12 (w : World) (a b c : Nat) (x y : ByteArray) (z : Bool) (hz : (x.toList == y.toList) = z) (h0 : w.cell? ⟨c, 0, none⟩ = some (.func (.func 74) #[] #[])) (h1 : w.cell? ⟨a, 12, none⟩ = some (.string x)) (h2 : w.cell? ⟨b, 12, none⟩ = some (.string y)) :
    Calls Try.prog 101 #[.pointer (some ⟨a, 0, none⟩), .pointer (some ⟨b, 0, none⟩), .pointer (some ⟨c, 0, none⟩)] w fun e w' => e = .returned (.bool z) ∧ Kept [] w w' := by
  subst hz
  go_enter Try.func101, Try.ntmps101
  go_wp2_with fail
  go_quiet ((go_at_call 74; exact Calls.quiet_of_same (in_12 _ _)))
  go_wp2_with fail
  go_ret
  exact ⟨rfl, (Kept.refl _ _).drewN _⟩
end Tab
end Go.Proofs.Ytpomachfnjgjbaa
