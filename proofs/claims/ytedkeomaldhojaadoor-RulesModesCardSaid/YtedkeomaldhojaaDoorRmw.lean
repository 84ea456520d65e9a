/- RulesModes walked. -/
import Derived.Test.YtedkeomaldhojaaDoorRu6
import Derived.Test.YtedkeomaldhojaaDoorRwt
import Derived.Test.YtedkeomaldhojaaDoorIzs
import Derived.LoopTactic
import Derived.IntWalk
namespace Go.Proofs.YtedkeomaldhojaaDoor
set_option linter.unusedVariables false
open Go.RowKit Go.Shelf
attribute [local go_sem] Oper.semAt_some
namespace Ru
open Go.Proofs.YtedkeomaldhojaaDoor.Utf Go.Proofs.YtedkeomaldhojaaDoor.Txt Go.PlainAid Go.Proofs.YtedkeomaldhojaaDoor.Mpf Go.Proofs.YtedkeomaldhojaaDoor.Us Go.Proofs.YtedkeomaldhojaaDoor.Nm

theorem pick32 (w : World) (c : Int) (h1 : -9223372036854775808 ≤ c) (h2 : c ≤ 9223372036854775807) : Calls Tryd.prog 15 #[.int .i64 c, .int .i64 32] w fun e w' => (∃ q : Nat, q < 32 ∧ e = .returned (.int .i64 q)) ∧ w = w' := by
  by_cases hc : c < 0
  · have e1 : wrap64 (c + 1) = c + 1 := by unfold wrap64; omega
    have e2 : wrap64 (-(c + 1)) = -(c + 1) := by unfold wrap64; omega
    have E4 : Hid (-(c + 1).tmod 32 = (-(c + 1)).tmod 32) := (Int.neg_tmod _ _).symm
    obtain ⟨k, hk⟩ := Int.eq_ofNat_of_zero_le (show 0 ≤ -(c + 1) by omega)
    have e3 : (-(c + 1)).tmod 32 = ((k % 32 : Nat) : Int) := by rw [hk]; rfl
    have HE := Lib.hid e3
    clear h1 h2 hk e3
    go_enter Tryd.func15, Tryd.ntmps15
    go_wp2_with fail
    go_ret
    exact ⟨⟨k % 32, Nat.mod_lt _ (by decide), by rw [← HE.out, ← E4.out]; rfl⟩, rfl⟩
  · obtain ⟨k, rfl⟩ := Int.eq_ofNat_of_zero_le (show 0 ≤ c by omega)
    clear h1 hc
    go_enter Tryd.func15, Tryd.ntmps15
    go_wp2_with fail
    go_ret
    exact ⟨⟨k % 32, Nat.mod_lt _ (by decide), by simp⟩, rfl⟩
/-- Small numbers stay what they are. -/
theorem conv8 : ∀ k : Fin 256, IntKind.u8.wrap ((k.1 : Nat) : Int) = ((k.1 : Nat) : Int) := by decide +kernel
set_option maxHeartbeats 8000000 in
set_option maxRecDepth 100000 in
theorem modes_any (w : World) (hm : Ml w) (pm : Int) (xs : List Int) (ra : Option Addr) (rc : Nat) (hx : LsZ w (.slice ra xs.length rc) xs) (hb : ∀ x ∈ xs, -9223372036854775808 ≤ x ∧ x ≤ 9223372036854775807) (hl : xs.length ≤ 140737488355328) :
    Calls Tryd.prog 5 #[.int .u32 pm, .slice ra xs.length rc] w fun e w' => e = .returned (.bool true) ∧ Kept [] w w' := by
  have KN := Lib.hid (known_any w hm)
  have WA := Lib.hid (fun w m => Wants_any w m)
  have RW := Lib.hid (fun w (m : Nat) (hm : m < 256) => rWants_any w m hm)
  have PE := Lib.hid (fun w m => Perm_any w m)
  have RP := Lib.hid (fun w m => rPerm_any w m)
  have PK := Lib.hid (fun w c h1 h2 => pick32 w c h1 h2)
  have HX := Lib.hid hx
  have HB := Lib.hid hb
  have C8 := Lib.hid conv8
  clear hm hx hb
  go_enter Tryd.func5, Tryd.ntmps5
  go_wp2_with (go_at_call 10; refine KN.out.mono ?_; rintro e w1 ⟨rfl, k1⟩)
  have K1 := Lib.hid k1
  clear k1
  go_loop [6] (fun v => ∃ k : Nat, k ≤ 256 ∧ v = .int .i64 k) (fun v => 256 - (intOf v).toNat)
  case atStart => exact ⟨0, by omega, rfl⟩
  case round =>
    obtain ⟨k, hk, rfl⟩ := hrel
    by_cases hlt : k < 256
    · have cv := C8.out ⟨k, hlt⟩
      have RWk := Lib.hid (fun w => RW.out w k hlt)
      obtain ⟨a, ha⟩ : ∃ a, a = wantsV k := ⟨_, rfl⟩
      obtain ⟨b, hb⟩ : ∃ b, b = wantsE k := ⟨_, rfl⟩
      have WAk : Hid (∀ w, Calls Tryd.prog 11 #[.int .u8 (k : Int)] w fun e w' => e = .returned (.tuple #[.int .u8 a, .int .i64 b]) ∧ w = w') := fun w => by rw [ha, hb]; exact WA.out w k
      rw [← ha, ← hb] at RWk
      clear ha hb
      go_wp2_with (first | (go_at_call 11; refine (WAk.out _).mono ?_; rintro e w2 ⟨rfl, rfl⟩) | (go_at_call 12; refine (RWk.out _).mono ?_; rintro e w2 ⟨rfl, rfl⟩))
      go_round
      case rel => exact ⟨k + 1, by omega, by go_num⟩
      case measure => simp [intOf]; omega
    · go_wp2_with fail
      go_loop [0, 11] (fun v u => ∃ (k : Nat) (pn : Int), k ≤ xs.length ∧ v = .int .u32 pn ∧ u = .int .i64 k) (fun _ u => xs.length - (intOf u).toNat)
      case atStart => exact ⟨0, pm, by omega, rfl, rfl⟩
      case round =>
        obtain ⟨j, pn, hj, rfl, rfl⟩ := hrel
        obtain ⟨z, hz⟩ : ∃ z, z = permE pn := ⟨_, rfl⟩
        have PEk : Hid (∀ w, Calls Tryd.prog 13 #[.int .u32 pn] w fun e w' => e = .returned (.int .i64 z) ∧ w = w') := fun w => by rw [hz]; exact PE.out w pn
        have RPk : Hid (∀ w, Calls Tryd.prog 14 #[.int .u32 pn] w fun e w' => e = .returned (.int .i64 z) ∧ w = w') := fun w => by rw [hz]; exact RP.out w pn
        clear hz
        by_cases hjl : j < xs.length
        · obtain ⟨a0, c0, e0, hc0, hr⟩ := LsZ.kept HX.out K1.out (fun _ _ _ _ h => by simp at h)
          obtain ⟨x, hx0⟩ : ∃ x, xs[j]? = some x := ⟨xs[j], List.getElem?_eq_getElem hjl⟩
          rcases hr with hr | ⟨b, o, hab, hbl, hcell⟩
          · rw [hr] at hjl; simp at hjl
          · cases e0
            subst hab
            have cx := hcell j x hx0
            have hxb := HB.out x (List.mem_of_getElem? hx0)
            have PKx := Lib.hid (fun w => PK.out w x hxb.1 hxb.2)
            clear hcell hxb hx0 hbl
            go_wp2_with (first | (go_at_call 13; refine (PEk.out _).mono ?_; rintro e w2 ⟨rfl, rfl⟩) | (go_at_call 14; refine (RPk.out _).mono ?_; rintro e w2 ⟨rfl, rfl⟩) | (go_at_call 15; refine (PKx.out _).mono ?_; rintro e w2 ⟨⟨q, hq, rfl⟩, rfl⟩))
            go_round
            case rel => exact ⟨j + 1, _, by omega, rfl, by go_num⟩
            case measure => simp [intOf]; omega
        · go_wp2_with (first | (go_at_call 13; refine (PEk.out _).mono ?_; rintro e w2 ⟨rfl, rfl⟩) | (go_at_call 14; refine (RPk.out _).mono ?_; rintro e w2 ⟨rfl, rfl⟩))
          go_ret
          exact ⟨rfl, K1.out⟩
end Ru
end Go.Proofs.YtedkeomaldhojaaDoor
