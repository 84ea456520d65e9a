/- users: whom an account names. -/
import Derived.Test.YteeheapenfklcaaGreatDoorUad
namespace Go.Proofs.YteeheapenfklcaaGreatDoor
set_option linter.unusedVariables false
open Go.RowKit Go.Shelf
attribute [local go_sem] Oper.semAt_some
namespace Us
open Go.Proofs.YteeheapenfklcaaGreatDoor.Utf Go.Proofs.YteeheapenfklcaaGreatDoor.Txt Go.PlainAid Go.Proofs.YteeheapenfklcaaGreatDoor.Mpf
section
variable {w : World} {B p : Nat} {sl : Value} {m1 m2 n2 : Nat} {f : ByteArray × ByteArray → Bool} {L : List (Acc × Value)}
/-- Is everybody there whom an account names? -/
def OutK (w : World) (ok : Bool) (e : Ending) (w' : World) : Prop := (ok = true ∧ e = .returned (.tuple #[]) ∧ Kept [] w w') ∨ (ok = false ∧ e = fell 62 ∧ Kept [] w w')
set_option maxHeartbeats 8000000 in
set_option maxRecDepth 100000 in
theorem mustKnow_x (h : TbX w B p sl m1 m2 n2 f L) (a : Acc) (v : Value) (hm : Mem w v a.members) (hl : a.leader.size ≤ 32) (hz : ∀ m ∈ a.members, m.size ≤ 32) (hlen : a.members.length ≤ 1048576) :
    Calls Tryz.prog 49 #[.pointer (some ⟨p, 0, none⟩), accV a.name a.leader a.key v] w (OutK w (knows (accs L) a)) := by
  obtain ⟨name, leader, ms, key⟩ := a
  simp only at hm hl hz hlen ⊢
  obtain ⟨va, vc, rfl⟩ := hm.slice
  unfold accV
  obtain ⟨z, hz0⟩ : ∃ z, z = knows (accs L) ⟨name, leader, ms, key⟩ := ⟨_, rfl⟩
  have FZ : Hid (z = ((decide (leader.size = 0) || known (accs L) leader) && ms.all (known (accs L)))) := hz0
  rw [← hz0]
  clear hz0
  have hlm : leader.size ≤ maxLen := by unfold maxLen; omega
  have KN : Hid (∀ (n : ByteArray), n.size ≤ maxLen → ∀ (w' : World) (k : Kept [] w w'), _) := fun n hn w' k => known_x (h.kept k) n hn
  have HM := Lib.hid hm
  have HZ : Hid (∀ x ∈ ms, x.size ≤ maxLen) := fun x hx => by have := hz x hx; unfold maxLen; omega
  have K1 : Hid (Kept [] w (w.alloc (.cells #[.string name, .string leader, .slice va ms.length vc, .string key] 35))) := (Kept.refl _ _).alloc _
  obtain ⟨w1, hw1⟩ : ∃ w1, w1 = w.alloc (.cells #[.string name, .string leader, .slice va ms.length vc, .string key] 35) := ⟨_, rfl⟩
  obtain ⟨R3, hR3⟩ : ∃ R, R = w.heap.size := ⟨_, rfl⟩
  have B3 : Hid (w1.heap[R3]? = some (.cells #[.string name, .string leader, .slice va ms.length vc, .string key] 35 (0, 0))) := by rw [hw1, hR3]; exact (MapKept.heap_alloc w _).1
  rw [← hw1] at K1
  have HW1 := Lib.hid hw1
  have HR3 := Lib.hid hR3
  obtain ⟨c0, c1, c2, c3, -⟩ := four B3.out
  rw [hw1, hR3] at c0 c1 c2 c3
  clear hw1 hR3 h hm hz
  by_cases h0 : leader.size = 0
  · have h1 := lead_eq h0
    have hld : (decide (leader.size = 0) || known (accs L) leader) = true := by rw [decide_eq_true h0]; rfl
    have HLD := Lib.hid hld
    clear h0 hld
    go_enter Tryz.func49, Tryz.ntmps49
    go_wp2_with fail
    rw [← HW1.out, ← HR3.out]
    have hld := HLD.out
    clear c0 c1 c2 c3 HW1 HLD
    go_loopw [20] (fun iv wr => ∃ k : Nat, iv = .int .i64 k ∧ k ≤ ms.length ∧ Hid ((ms.take k).all (known (accs L)) = true) ∧ wr = w1) (fun iv _ => ms.length - (intOf iv).toNat)
    case atStart => exact ⟨0, rfl, by omega, rfl, rfl⟩
    case round =>
      obtain ⟨k, rfl, hkl, hA, rfl⟩ := hrel
      by_cases hlt : k < ms.length
      · have j1 : (k : Int) < (ms.length : Int) := by omega
        obtain ⟨g, hg, cg, hgl⟩ := (HM.out.kept0 K1.out).at' hlt
        subst hg
        have hs1 := HZ.out ms[k] (List.getElem_mem hlt)
        have TK := Lib.hid (fun h => take_all (p := known (accs L)) hlt hA.out h)
        have NA := Lib.hid (fun h => not_all (p := known (accs L)) hlt h)
        obtain ⟨x, hx⟩ : ∃ x, x = ms[k] := ⟨_, rfl⟩
        rw [← hx] at cg hs1 TK NA
        have KX := Lib.hid (KN.out x hs1 wr K1.out)
        obtain ⟨q, hq⟩ : ∃ q, q = known (accs L) x := ⟨_, rfl⟩
        rw [← hq] at KX TK NA
        clear hx hq
        cases q with
        | false =>
          have hz : z = false := by rw [FZ.out, NA.out rfl]; simp
          subst hz
          clear TK NA
          go_wp2_with (first | (go_at_call 13; refine KX.out.mono ?_; rintro e w3 ⟨rfl, rfl⟩) | (go_at_call 62; refine (giveUp_any _ 62).mono ?_; rintro e w4 ⟨rfl, rfl⟩))
          exact ⟨rfl, Or.inr ⟨rfl, rfl, K1.out⟩⟩
        | true =>
          have TK2 := Lib.hid (TK.out rfl)
          clear TK NA
          go_wp2_with (first | (go_at_call 13; refine KX.out.mono ?_; rintro e w3 ⟨rfl, rfl⟩))
          go_roundw
          case rel => exact ⟨k + 1, by go_num, by omega, TK2.out, trivial⟩
          case measure => simp [intOf]; omega
      · have j1 : ¬ (k : Int) < (ms.length : Int) := by omega
        have hall : ms.all (known (accs L)) = true := by have := hA.out; rwa [List.take_of_length_le (by omega)] at this
        have hz : z = true := by rw [FZ.out, hall, hld]; rfl
        subst hz
        clear hall
        go_wp2_with fail
        go_end0
        exact Or.inl ⟨rfl, rfl, K1.out⟩
  · have h1 := lead_ne h0
    have b1 : leader.toList.isEmpty = false := by rw [List.isEmpty_eq_false_iff]; exact h1
    have b0 : (leader.toList == []) = false := by rw [beq_eq_false_iff_ne]; exact h1
    have KL := Lib.hid (KN.out leader hlm w1 K1.out)
    obtain ⟨q, hq⟩ : ∃ q, q = known (accs L) leader := ⟨_, rfl⟩
    have FL : Hid ((decide (leader.size = 0) || known (accs L) leader) = q) := by show _ = _; rw [hq, decide_eq_false h0, Bool.false_or]
    rw [← hq] at KL
    clear h0 h1 hq
    rw [HW1.out] at KL
    cases q with
    | false =>
      have hz : z = false := by rw [FZ.out]; rw [FL.out]; rfl
      subst hz
      rw [HW1.out] at K1
      clear HW1
      go_enter Tryz.func49, Tryz.ntmps49
      go_wp2_with (first | (go_at_call 13; refine KL.out.mono ?_; rintro e w3 ⟨rfl, rfl⟩) | (go_at_call 62; refine (giveUp_any _ 62).mono ?_; rintro e w4 ⟨rfl, rfl⟩))
      exact ⟨rfl, Or.inr ⟨rfl, rfl, K1.out⟩⟩
    | true =>
    go_enter Tryz.func49, Tryz.ntmps49
    go_wp2_with (first | (go_at_call 13; refine KL.out.mono ?_; rintro e w3 ⟨rfl, rfl⟩))
    rw [← HW1.out, ← HR3.out]
    have hld := FL.out
    clear c0 c1 c2 c3 HW1 FL KL
    go_loopw [20] (fun iv wr => ∃ k : Nat, iv = .int .i64 k ∧ k ≤ ms.length ∧ Hid ((ms.take k).all (known (accs L)) = true) ∧ wr = w1) (fun iv _ => ms.length - (intOf iv).toNat)
    case atStart => exact ⟨0, rfl, by omega, rfl, rfl⟩
    case round =>
      obtain ⟨k, rfl, hkl, hA, rfl⟩ := hrel
      by_cases hlt : k < ms.length
      · have j1 : (k : Int) < (ms.length : Int) := by omega
        obtain ⟨g, hg, cg, hgl⟩ := (HM.out.kept0 K1.out).at' hlt
        subst hg
        have hs1 := HZ.out ms[k] (List.getElem_mem hlt)
        have TK := Lib.hid (fun h => take_all (p := known (accs L)) hlt hA.out h)
        have NA := Lib.hid (fun h => not_all (p := known (accs L)) hlt h)
        obtain ⟨x, hx⟩ : ∃ x, x = ms[k] := ⟨_, rfl⟩
        rw [← hx] at cg hs1 TK NA
        have KX := Lib.hid (KN.out x hs1 wr K1.out)
        obtain ⟨q, hq⟩ : ∃ q, q = known (accs L) x := ⟨_, rfl⟩
        rw [← hq] at KX TK NA
        clear hx hq
        cases q with
        | false =>
          have hz : z = false := by rw [FZ.out, NA.out rfl]; simp
          subst hz
          clear TK NA
          go_wp2_with (first | (go_at_call 13; refine KX.out.mono ?_; rintro e w3 ⟨rfl, rfl⟩) | (go_at_call 62; refine (giveUp_any _ 62).mono ?_; rintro e w4 ⟨rfl, rfl⟩))
          exact ⟨rfl, Or.inr ⟨rfl, rfl, K1.out⟩⟩
        | true =>
          have TK2 := Lib.hid (TK.out rfl)
          clear TK NA
          go_wp2_with (first | (go_at_call 13; refine KX.out.mono ?_; rintro e w3 ⟨rfl, rfl⟩))
          go_roundw
          case rel => exact ⟨k + 1, by go_num, by omega, TK2.out, trivial⟩
          case measure => simp [intOf]; omega
      · have j1 : ¬ (k : Int) < (ms.length : Int) := by omega
        have hall : ms.all (known (accs L)) = true := by have := hA.out; rwa [List.take_of_length_le (by omega)] at this
        have hz : z = true := by rw [FZ.out, hall, hld]; rfl
        subst hz
        clear hall
        go_wp2_with fail
        go_end0
        exact Or.inl ⟨rfl, rfl, K1.out⟩
end
end Us
end Go.Proofs.YteeheapenfklcaaGreatDoor
