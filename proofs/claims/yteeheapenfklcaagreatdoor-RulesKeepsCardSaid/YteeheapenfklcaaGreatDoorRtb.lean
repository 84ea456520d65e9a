/- The table of a record's fields: what each row's functions do. -/
import Derived.Test.YteeheapenfklcaaGreatDoorRcd
namespace Go.Proofs.YteeheapenfklcaaGreatDoor
set_option linter.unusedVariables false
open Go.RowKit
namespace Tab

theorem in_0 (w : World) (b : Nat) : Calls Tryz.prog 101 #[.pointer (some ⟨b, 0, none⟩)] w fun e w' => e = .returned (.pointer (some ⟨b, 0, none⟩)) ∧ w' = w := by
  go_enter Tryz.func101, Tryz.ntmps101
  go_wp2_with fail
  go_ret
  exact ⟨rfl, rfl⟩

theorem in_1 (w : World) (b : Nat) : Calls Tryz.prog 103 #[.pointer (some ⟨b, 0, none⟩)] w fun e w' => e = .returned (.pointer (some ⟨b, 1, none⟩)) ∧ w' = w := by
  go_enter Tryz.func103, Tryz.ntmps103
  go_wp2_with fail
  go_ret
  exact ⟨rfl, rfl⟩

theorem in_2 (w : World) (b : Nat) : Calls Tryz.prog 105 #[.pointer (some ⟨b, 0, none⟩)] w fun e w' => e = .returned (.pointer (some ⟨b, 2, none⟩)) ∧ w' = w := by
  go_enter Tryz.func105, Tryz.ntmps105
  go_wp2_with fail
  go_ret
  exact ⟨rfl, rfl⟩

theorem in_3 (w : World) (b : Nat) : Calls Tryz.prog 106 #[.pointer (some ⟨b, 0, none⟩)] w fun e w' => e = .returned (.pointer (some ⟨b, 3, none⟩)) ∧ w' = w := by
  go_enter Tryz.func106, Tryz.ntmps106
  go_wp2_with fail
  go_ret
  exact ⟨rfl, rfl⟩

theorem in_4 (w : World) (b : Nat) : Calls Tryz.prog 108 #[.pointer (some ⟨b, 0, none⟩)] w fun e w' => e = .returned (.pointer (some ⟨b, 4, none⟩)) ∧ w' = w := by
  go_enter Tryz.func108, Tryz.ntmps108
  go_wp2_with fail
  go_ret
  exact ⟨rfl, rfl⟩

theorem in_5 (w : World) (b : Nat) : Calls Tryz.prog 109 #[.pointer (some ⟨b, 0, none⟩)] w fun e w' => e = .returned (.pointer (some ⟨b, 5, none⟩)) ∧ w' = w := by
  go_enter Tryz.func109, Tryz.ntmps109
  go_wp2_with fail
  go_ret
  exact ⟨rfl, rfl⟩

theorem in_6 (w : World) (b : Nat) : Calls Tryz.prog 110 #[.pointer (some ⟨b, 0, none⟩)] w fun e w' => e = .returned (.pointer (some ⟨b, 6, none⟩)) ∧ w' = w := by
  go_enter Tryz.func110, Tryz.ntmps110
  go_wp2_with fail
  go_ret
  exact ⟨rfl, rfl⟩

theorem in_7 (w : World) (b : Nat) : Calls Tryz.prog 111 #[.pointer (some ⟨b, 0, none⟩)] w fun e w' => e = .returned (.pointer (some ⟨b, 7, none⟩)) ∧ w' = w := by
  go_enter Tryz.func111, Tryz.ntmps111
  go_wp2_with fail
  go_ret
  exact ⟨rfl, rfl⟩

theorem in_8 (w : World) (b : Nat) : Calls Tryz.prog 112 #[.pointer (some ⟨b, 0, none⟩)] w fun e w' => e = .returned (.pointer (some ⟨b, 8, none⟩)) ∧ w' = w := by
  go_enter Tryz.func112, Tryz.ntmps112
  go_wp2_with fail
  go_ret
  exact ⟨rfl, rfl⟩

theorem in_9 (w : World) (b : Nat) : Calls Tryz.prog 114 #[.pointer (some ⟨b, 0, none⟩)] w fun e w' => e = .returned (.pointer (some ⟨b, 9, none⟩)) ∧ w' = w := by
  go_enter Tryz.func114, Tryz.ntmps114
  go_wp2_with fail
  go_ret
  exact ⟨rfl, rfl⟩

theorem in_10 (w : World) (b : Nat) : Calls Tryz.prog 115 #[.pointer (some ⟨b, 0, none⟩)] w fun e w' => e = .returned (.pointer (some ⟨b, 10, none⟩)) ∧ w' = w := by
  go_enter Tryz.func115, Tryz.ntmps115
  go_wp2_with fail
  go_ret
  exact ⟨rfl, rfl⟩

theorem in_11 (w : World) (b : Nat) : Calls Tryz.prog 116 #[.pointer (some ⟨b, 0, none⟩)] w fun e w' => e = .returned (.pointer (some ⟨b, 11, none⟩)) ∧ w' = w := by
  go_enter Tryz.func116, Tryz.ntmps116
  go_wp2_with fail
  go_ret
  exact ⟨rfl, rfl⟩

theorem in_12 (w : World) (b : Nat) : Calls Tryz.prog 117 #[.pointer (some ⟨b, 0, none⟩)] w fun e w' => e = .returned (.pointer (some ⟨b, 12, none⟩)) ∧ w' = w := by
  go_enter Tryz.func117, Tryz.ntmps117
  go_wp2_with fail
  go_ret
  exact ⟨rfl, rfl⟩

theorem same_0 (w : World) (a b c : Nat) (x y : Nat) (z : Bool) (hz : ((x : Int) == (y : Int)) = z) (h0 : w.cell? ⟨c, 0, none⟩ = some (.func (.func 101) #[] #[])) (h1 : w.cell? ⟨a, 0, none⟩ = some (.int .u16 x)) (h2 : w.cell? ⟨b, 0, none⟩ = some (.int .u16 y)) :
    Calls Tryz.prog 140 #[.pointer (some ⟨a, 0, none⟩), .pointer (some ⟨b, 0, none⟩), .pointer (some ⟨c, 0, none⟩)] w fun e w' => e = .returned (.bool z) ∧ Kept [] w w' := by
  subst hz
  go_enter Tryz.func140, Tryz.ntmps140
  go_wp2_with fail
  go_quiet ((go_at_call 101; exact Calls.quiet_of_same (in_0 _ _)))
  go_wp2_with fail
  go_ret
  exact ⟨rfl, (Kept.refl _ _).drewN _⟩

theorem same_1 (w : World) (a b c : Nat) (x y : Nat) (z : Bool) (hz : ((x : Int) == (y : Int)) = z) (h0 : w.cell? ⟨c, 0, none⟩ = some (.func (.func 103) #[] #[])) (h1 : w.cell? ⟨a, 1, none⟩ = some (.int .u32 x)) (h2 : w.cell? ⟨b, 1, none⟩ = some (.int .u32 y)) :
    Calls Tryz.prog 142 #[.pointer (some ⟨a, 0, none⟩), .pointer (some ⟨b, 0, none⟩), .pointer (some ⟨c, 0, none⟩)] w fun e w' => e = .returned (.bool z) ∧ Kept [] w w' := by
  subst hz
  go_enter Tryz.func142, Tryz.ntmps142
  go_wp2_with fail
  go_quiet ((go_at_call 103; exact Calls.quiet_of_same (in_1 _ _)))
  go_wp2_with fail
  go_ret
  exact ⟨rfl, (Kept.refl _ _).drewN _⟩

theorem same_2 (w : World) (a b c : Nat) (x y : Nat) (z : Bool) (hz : ((x : Int) == (y : Int)) = z) (h0 : w.cell? ⟨c, 0, none⟩ = some (.func (.func 105) #[] #[])) (h1 : w.cell? ⟨a, 2, none⟩ = some (.int .u8 x)) (h2 : w.cell? ⟨b, 2, none⟩ = some (.int .u8 y)) :
    Calls Tryz.prog 144 #[.pointer (some ⟨a, 0, none⟩), .pointer (some ⟨b, 0, none⟩), .pointer (some ⟨c, 0, none⟩)] w fun e w' => e = .returned (.bool z) ∧ Kept [] w w' := by
  subst hz
  go_enter Tryz.func144, Tryz.ntmps144
  go_wp2_with fail
  go_quiet ((go_at_call 105; exact Calls.quiet_of_same (in_2 _ _)))
  go_wp2_with fail
  go_ret
  exact ⟨rfl, (Kept.refl _ _).drewN _⟩

theorem same_3 (w : World) (a b c : Nat) (x y : Nat) (z : Bool) (hz : ((x : Int) == (y : Int)) = z) (h0 : w.cell? ⟨c, 0, none⟩ = some (.func (.func 106) #[] #[])) (h1 : w.cell? ⟨a, 3, none⟩ = some (.int .u32 x)) (h2 : w.cell? ⟨b, 3, none⟩ = some (.int .u32 y)) :
    Calls Tryz.prog 142 #[.pointer (some ⟨a, 0, none⟩), .pointer (some ⟨b, 0, none⟩), .pointer (some ⟨c, 0, none⟩)] w fun e w' => e = .returned (.bool z) ∧ Kept [] w w' := by
  subst hz
  go_enter Tryz.func142, Tryz.ntmps142
  go_wp2_with fail
  go_quiet ((go_at_call 106; exact Calls.quiet_of_same (in_3 _ _)))
  go_wp2_with fail
  go_ret
  exact ⟨rfl, (Kept.refl _ _).drewN _⟩

theorem same_4 (w : World) (a b c : Nat) (x y : Nat) (z : Bool) (hz : ((x : Int) == (y : Int)) = z) (h0 : w.cell? ⟨c, 0, none⟩ = some (.func (.func 108) #[] #[])) (h1 : w.cell? ⟨a, 4, none⟩ = some (.int .u64 x)) (h2 : w.cell? ⟨b, 4, none⟩ = some (.int .u64 y)) :
    Calls Tryz.prog 146 #[.pointer (some ⟨a, 0, none⟩), .pointer (some ⟨b, 0, none⟩), .pointer (some ⟨c, 0, none⟩)] w fun e w' => e = .returned (.bool z) ∧ Kept [] w w' := by
  subst hz
  go_enter Tryz.func146, Tryz.ntmps146
  go_wp2_with fail
  go_quiet ((go_at_call 108; exact Calls.quiet_of_same (in_4 _ _)))
  go_wp2_with fail
  go_ret
  exact ⟨rfl, (Kept.refl _ _).drewN _⟩

theorem same_5 (w : World) (a b c : Nat) (x y : Nat) (z : Bool) (hz : ((x : Int) == (y : Int)) = z) (h0 : w.cell? ⟨c, 0, none⟩ = some (.func (.func 109) #[] #[])) (h1 : w.cell? ⟨a, 5, none⟩ = some (.int .u32 x)) (h2 : w.cell? ⟨b, 5, none⟩ = some (.int .u32 y)) :
    Calls Tryz.prog 142 #[.pointer (some ⟨a, 0, none⟩), .pointer (some ⟨b, 0, none⟩), .pointer (some ⟨c, 0, none⟩)] w fun e w' => e = .returned (.bool z) ∧ Kept [] w w' := by
  subst hz
  go_enter Tryz.func142, Tryz.ntmps142
  go_wp2_with fail
  go_quiet ((go_at_call 109; exact Calls.quiet_of_same (in_5 _ _)))
  go_wp2_with fail
  go_ret
  exact ⟨rfl, (Kept.refl _ _).drewN _⟩

theorem same_6 (w : World) (a b c : Nat) (x y : Nat) (z : Bool) (hz : ((x : Int) == (y : Int)) = z) (h0 : w.cell? ⟨c, 0, none⟩ = some (.func (.func 110) #[] #[])) (h1 : w.cell? ⟨a, 6, none⟩ = some (.int .u32 x)) (h2 : w.cell? ⟨b, 6, none⟩ = some (.int .u32 y)) :
    Calls Tryz.prog 142 #[.pointer (some ⟨a, 0, none⟩), .pointer (some ⟨b, 0, none⟩), .pointer (some ⟨c, 0, none⟩)] w fun e w' => e = .returned (.bool z) ∧ Kept [] w w' := by
  subst hz
  go_enter Tryz.func142, Tryz.ntmps142
  go_wp2_with fail
  go_quiet ((go_at_call 110; exact Calls.quiet_of_same (in_6 _ _)))
  go_wp2_with fail
  go_ret
  exact ⟨rfl, (Kept.refl _ _).drewN _⟩

theorem same_7 (w : World) (a b c : Nat) (x y : Nat) (z : Bool) (hz : ((x : Int) == (y : Int)) = z) (h0 : w.cell? ⟨c, 0, none⟩ = some (.func (.func 111) #[] #[])) (h1 : w.cell? ⟨a, 7, none⟩ = some (.int .u32 x)) (h2 : w.cell? ⟨b, 7, none⟩ = some (.int .u32 y)) :
    Calls Tryz.prog 142 #[.pointer (some ⟨a, 0, none⟩), .pointer (some ⟨b, 0, none⟩), .pointer (some ⟨c, 0, none⟩)] w fun e w' => e = .returned (.bool z) ∧ Kept [] w w' := by
  subst hz
  go_enter Tryz.func142, Tryz.ntmps142
  go_wp2_with fail
  go_quiet ((go_at_call 111; exact Calls.quiet_of_same (in_7 _ _)))
  go_wp2_with fail
  go_ret
  exact ⟨rfl, (Kept.refl _ _).drewN _⟩

theorem same_8 (w : World) (a b c : Nat) (x y : Nat) (z : Bool) (hz : ((x : Int) == (y : Int)) = z) (h0 : w.cell? ⟨c, 0, none⟩ = some (.func (.func 112) #[] #[])) (h1 : w.cell? ⟨a, 8, none⟩ = some (.int .u64 x)) (h2 : w.cell? ⟨b, 8, none⟩ = some (.int .u64 y)) :
    Calls Tryz.prog 146 #[.pointer (some ⟨a, 0, none⟩), .pointer (some ⟨b, 0, none⟩), .pointer (some ⟨c, 0, none⟩)] w fun e w' => e = .returned (.bool z) ∧ Kept [] w w' := by
  subst hz
  go_enter Tryz.func146, Tryz.ntmps146
  go_wp2_with fail
  go_quiet ((go_at_call 112; exact Calls.quiet_of_same (in_8 _ _)))
  go_wp2_with fail
  go_ret
  exact ⟨rfl, (Kept.refl _ _).drewN _⟩

theorem same_9 (w : World) (a b c : Nat) (x y : ByteArray) (z : Bool) (hz : (x.toList == y.toList) = z) (h0 : w.cell? ⟨c, 0, none⟩ = some (.func (.func 114) #[] #[])) (h1 : w.cell? ⟨a, 9, none⟩ = some (.string x)) (h2 : w.cell? ⟨b, 9, none⟩ = some (.string y)) :
    Calls Tryz.prog 148 #[.pointer (some ⟨a, 0, none⟩), .pointer (some ⟨b, 0, none⟩), .pointer (some ⟨c, 0, none⟩)] w fun e w' => e = .returned (.bool z) ∧ Kept [] w w' := by
  subst hz
  go_enter Tryz.func148, Tryz.ntmps148
  go_wp2_with fail
  go_quiet ((go_at_call 114; exact Calls.quiet_of_same (in_9 _ _)))
  go_wp2_with fail
  go_ret
  exact ⟨rfl, (Kept.refl _ _).drewN _⟩

theorem same_10 (w : World) (a b c : Nat) (x y : ByteArray) (z : Bool) (hz : (x.toList == y.toList) = z) (h0 : w.cell? ⟨c, 0, none⟩ = some (.func (.func 115) #[] #[])) (h1 : w.cell? ⟨a, 10, none⟩ = some (.string x)) (h2 : w.cell? ⟨b, 10, none⟩ = some (.string y)) :
    Calls Tryz.prog 148 #[.pointer (some ⟨a, 0, none⟩), .pointer (some ⟨b, 0, none⟩), .pointer (some ⟨c, 0, none⟩)] w fun e w' => e = .returned (.bool z) ∧ Kept [] w w' := by
  subst hz
  go_enter Tryz.func148, Tryz.ntmps148
  go_wp2_with fail
  go_quiet ((go_at_call 115; exact Calls.quiet_of_same (in_10 _ _)))
  go_wp2_with fail
  go_ret
  exact ⟨rfl, (Kept.refl _ _).drewN _⟩

theorem same_11 (w : World) (a b c : Nat) (x y : ByteArray) (z : Bool) (hz : (x.toList == y.toList) = z) (h0 : w.cell? ⟨c, 0, none⟩ = some (.func (.func 116) #[] #[])) (h1 : w.cell? ⟨a, 11, none⟩ = some (.string x)) (h2 : w.cell? ⟨b, 11, none⟩ = some (.string y)) :
    Calls Tryz.prog 148 #[.pointer (some ⟨a, 0, none⟩), .pointer (some ⟨b, 0, none⟩), .pointer (some ⟨c, 0, none⟩)] w fun e w' => e = .returned (.bool z) ∧ Kept [] w w' := by
  subst hz
  go_enter Tryz.func148, Tryz.ntmps148
  go_wp2_with fail
  go_quiet ((go_at_call 116; exact Calls.quiet_of_same (in_11 _ _)))
  go_wp2_with fail
  go_ret
  exact ⟨rfl, (Kept.refl _ _).drewN _⟩

theorem same_12 (w : World) (a b c : Nat) (x y : ByteArray) (z : Bool) (hz : (x.toList == y.toList) = z) (h0 : w.cell? ⟨c, 0, none⟩ = some (.func (.func 117) #[] #[])) (h1 : w.cell? ⟨a, 12, none⟩ = some (.string x)) (h2 : w.cell? ⟨b, 12, none⟩ = some (.string y)) :
    Calls Tryz.prog 148 #[.pointer (some ⟨a, 0, none⟩), .pointer (some ⟨b, 0, none⟩), .pointer (some ⟨c, 0, none⟩)] w fun e w' => e = .returned (.bool z) ∧ Kept [] w w' := by
  subst hz
  go_enter Tryz.func148, Tryz.ntmps148
  go_wp2_with fail
  go_quiet ((go_at_call 117; exact Calls.quiet_of_same (in_12 _ _)))
  go_wp2_with fail
  go_ret
  exact ⟨rfl, (Kept.refl _ _).drewN _⟩
end Tab
end Go.Proofs.YteeheapenfklcaaGreatDoor
