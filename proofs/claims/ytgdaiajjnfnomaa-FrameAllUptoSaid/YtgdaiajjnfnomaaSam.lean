/- Are two lists the same? (the law's own 'same'). -/
import Derived.Test.YtgdaiajjnfnomaaCts
namespace Go.Proofs.Ytgdaiajjnfnomaa
set_option linter.unusedVariables false
open Go.RowKit
namespace Lst

set_option maxHeartbeats 1000000 in
theorem same_long (w : World) (xs ys : List UInt8) (b o c b' o' c' : Nat) (hn : xs.length ≤ 1152921504606) (hl : xs.length = ys.length)
    (h1 : Hid (∀ j (hj : j < xs.length), w.cell? ⟨b, o + j, none⟩ = some (.int .u8 (xs[j]).toNat))) (h2 : Hid (∀ j (hj : j < ys.length), w.cell? ⟨b', o' + j, none⟩ = some (.int .u8 (ys[j]).toNat))) :
    Calls Try.prog 15 #[.slice (some ⟨b, o, none⟩) xs.length c, .slice (some ⟨b', o', none⟩) xs.length c'] w fun e w' => e = .returned (.bool (decide (xs = ys))) ∧ Kept [] w w' := by
  have HL := Lib.hid hl
  clear hl
  go_enter Try.func15, Try.ntmps15
  go_wp2_with fail
  go_loopw [5] (fun v wr => ∃ k m : Nat, k ≤ xs.length ∧ v = .int .i64 k ∧ Hid (xs.take k = ys.take k) ∧ wr = w.drewN m) (fun v _ => xs.length - (intOf v).toNat)
  case atStart => exact ⟨0, 0, by omega, rfl, rfl, rfl⟩
  case round =>
    obtain ⟨k, m, hk, rfl, hp, rfl⟩ := hrel
    by_cases hlt : k < xs.length
    · have d1 := h1.out k hlt
      have d2 := h2.out k (HL.out ▸ hlt)
      obtain ⟨x, hx⟩ : ∃ x, x = xs[k] := ⟨_, rfl⟩
      obtain ⟨y, hy⟩ : ∃ y, y = ys[k]'(HL.out ▸ hlt) := ⟨_, rfl⟩
      rw [← hx] at d1
      rw [← hy] at d2
      have HX := Lib.hid hx
      have HY := Lib.hid hy
      clear hx hy
      have j1 : (k : Int) < (xs.length : Int) := by omega
      by_cases hxy : x = y
      · have hq : ((x.toNat : Int) != (y.toNat : Int)) = false := by rw [hxy]; simp
        have hq2 : ((x.toNat : Int) == (y.toNat : Int)) = true := by rw [hxy]; simp
        have HQ := Lib.hid hxy
        clear hxy
        go_wp2_with fail
        go_quiet (fail)
        go_wp2_with fail
        go_roundw
        case rel =>
          refine ⟨k + 1, _, by omega, by go_num, ?_, rfl⟩
          show xs.take (k + 1) = ys.take (k + 1)
          rw [List.take_succ_eq_append_getElem hlt, List.take_succ_eq_append_getElem (HL.out ▸ hlt), hp.out, ← HX.out, ← HY.out, HQ.out]
        case measure => simp [intOf]; omega
      · have hq : ((x.toNat : Int) != (y.toNat : Int)) = true := by
          rw [bne_iff_ne]; intro q; exact hxy (UInt8.toNat_inj.1 (by omega))
        have hq2 : ((x.toNat : Int) == (y.toNat : Int)) = false := by
          rw [beq_eq_false_iff_ne]; intro q; exact hxy (UInt8.toNat_inj.1 (by omega))
        have hv : decide (xs = ys) = false := decide_eq_false (fun e => hxy (by rw [HX.out, HY.out]; simp [e]))
        have Hv := Lib.hid hv
        clear hxy hv
        go_wp2_with fail
        go_quiet (fail)
        go_wp2_with fail
        go_ret
        exact ⟨ret_bool Hv.out.symm, ((Kept.refl _ _).drewN _).drewN _⟩
    · have hv : decide (xs = ys) = true := by
        have e1 : xs.take k = xs := List.take_of_length_le (by omega)
        have e2 : ys.take k = ys := List.take_of_length_le (by have := HL.out; omega)
        have := hp.out
        rw [e1, e2] at this
        exact decide_eq_true this
      have Hv := Lib.hid hv
      clear hv
      go_wp2_with fail
      go_ret
      exact ⟨ret_bool Hv.out.symm, (Kept.refl _ _).drewN _⟩
theorem same_src (w : World) (a b : Value) (xs ys : List UInt8) (S T : List Nat) (hx1 : xs.length ≤ 1152921504606) (ha : Hid (Seg w a xs S)) (hb : Hid (Src w b ys T)) :
    Calls Try.prog 15 #[a, b] w fun e w' => e = .returned (.bool (decide (xs = ys))) ∧ Kept [] w w' := by
  by_cases hl : xs.length = ys.length
  · by_cases h0 : 0 < xs.length
    · obtain ⟨b1, o1, c1, rfl, d1⟩ := seg_cells ha.out h0
      obtain ⟨b2, o2, c2, rfl, d2⟩ := src_cells hb.out (by omega)
      rw [← hl]
      exact same_long w xs ys b1 o1 c1 b2 o2 c2 hx1 hl d1 d2
    · obtain ⟨aa, ac, rfl⟩ := ha.out.slice
      obtain ⟨ba, bc, rfl⟩ := src_slice hb.out
      have e1 : xs = [] := List.eq_nil_of_length_eq_zero (by omega)
      have e2 : ys = [] := List.eq_nil_of_length_eq_zero (by omega)
      subst e1 e2
      clear hl h0 hx1 ha hb
      go_enter Try.func15, Try.ntmps15
      go_wp2_with fail
      refine wp_loop_rounds 1 ?_
      rw [rounds_succ]
      go_wp2_with fail
      go_ret
      exact ⟨rfl, Kept.refl _ _⟩
  · obtain ⟨aa, ac, rfl⟩ := ha.out.slice
    obtain ⟨ba, bc, rfl⟩ := src_slice hb.out
    have hne : ((xs.length : Int) != (ys.length : Int)) = true := by rw [bne_iff_ne]; omega
    have hv : decide (xs = ys) = false := decide_eq_false (fun e => hl (by rw [e]))
    have Hv := Lib.hid hv
    clear hl hv
    go_enter Try.func15, Try.ntmps15
    go_wp2_with fail
    go_ret
    exact ⟨ret_bool Hv.out.symm, Kept.refl _ _⟩
theorem same_any (w : World) (a b : Value) (xs ys : List UInt8) (S T : List Nat) (hx1 : xs.length ≤ 1152921504606) (ha : Hid (Seg w a xs S)) (hb : Hid (Seg w b ys T)) :
    Calls Try.prog 15 #[a, b] w fun e w' => e = .returned (.bool (decide (xs = ys))) ∧ Kept [] w w' := same_src w a b xs ys S T hx1 ha hb.out.src
end Lst
end Go.Proofs.Ytgdaiajjnfnomaa
