/- WHAT EACH FUNCTION OF TEXTS DOES (Bad, Good, Cut of the reference; firstBad, Good, Cut of wire): for every text and number; no block that was there is turned. -/
import Derived.Test.YteeheapenfklcaaGreatDoorChr
import Derived.Lib.Hide
namespace Go.Proofs.YteeheapenfklcaaGreatDoor.Txt
set_option linter.unusedVariables false
open Go.RowKit Go.PlainAid Go.Proofs.YteeheapenfklcaaGreatDoor.Utf

theorem ret_int {k : IntKind} {a b : Int} (h : a = b) : Ending.returned (.int k a) = .returned (.int k b) := by rw [h]
theorem ret_str {a b : ByteArray} (h : a = b) : Ending.returned (.string a) = .returned (.string b) := by rw [h]
theorem ret_bool {a b : Bool} (h : a = b) : Ending.returned (.bool a) = .returned (.bool b) := by rw [h]

theorem three_of {l : List UInt8} {a : Nat} (h : a + 2 < l.length) : (l.drop a).take 3 = [l[a], l[a + 1], l[a + 2]] := by
  rw [List.drop_eq_getElem_cons (by omega), List.drop_eq_getElem_cons (by omega), List.drop_eq_getElem_cons (by omega)]
  rfl
theorem bt_list (s : ByteArray) (k : Nat) (h : k < s.size) : bt s k = ((s.data.toList[k]'(by simpa using h)).toNat : Int) := by
  rw [← get_bt s k h]
  rfl
theorem spelt_eq (s : ByteArray) (a : Nat) (h : a + 2 < s.size) : (((s.extract a s.size).extract 0 3).toList == [239, 191, 189]) = spelt s a := by
  have e : ((s.extract a s.size).extract 0 3).toList = (s.data.toList.drop a).take 3 := by
    rw [ByteArray.toList_eq]
    simp only [ByteArray.data_extract, Array.toList_extract, List.extract_eq_take_drop]
    rw [List.drop_zero, List.take_take]
    congr 1
    omega
  have hl : s.data.toList.length = s.size := by simp
  rw [e, three_of (by omega)]
  have b0 := bt_list s a (by omega)
  have b1 := bt_list s (a + 1) (by omega)
  have b2 := bt_list s (a + 2) (by omega)
  rw [Bool.eq_iff_iff]
  unfold spelt
  simp only [beq_iff_eq, List.cons.injEq, and_true, Bool.and_eq_true, inn_iff, UInt8.toNat_inj.symm]
  have t0 : (239 : UInt8).toNat = 239 := rfl
  have t1 : (191 : UInt8).toNat = 191 := rfl
  have t2 : (189 : UInt8).toNat = 189 := rfl
  rw [t0, t1, t2]
  constructor
  · rintro ⟨p0, p1, p2⟩; omega
  · rintro ⟨⟨⟨_, p0, p0'⟩, _, p1, p1'⟩, _, p2, p2'⟩
    exact ⟨by omega, by omega, by omega⟩

/-- 'Do the bytes of U+FFFD begin this text?' -/
theorem spells_any (s : ByteArray) (a : Nat) (w : World) (hs : s.size ≤ 140737488355328) (ha : a < s.size) :
    Calls Tryz.prog 161 #[.string (s.extract a s.size)] w fun e w' => e = .returned (.bool (spelt s a)) ∧ w = w' := by
  by_cases h3 : 3 ≤ s.size - a
  · have h3' : (3 : Int) ≤ ((s.size - a : Nat) : Int) := by omega
    go_enter Tryz.func161, Tryz.ntmps161
    go_wp2
    go_ret
    exact ⟨ret_bool (spelt_eq s a (by omega)), rfl⟩
  · have h3' : ¬ (3 : Int) ≤ ((s.size - a : Nat) : Int) := by omega
    have hv : spelt s a = false := by unfold spelt; rw [inn_no (a := a + 2) (by omega)]; simp
    have Hv := Lib.hid hv
    clear hv
    go_enter Tryz.func161, Tryz.ntmps161
    go_wp2
    go_ret
    exact ⟨ret_bool Hv.out.symm, rfl⟩

theorem below_iter (w : World) (s : ByteArray) (p : Nat) : Below w.heap.size w (w.iter s p) := (Below.refl _ _).alloc (Nat.le_refl _) _

theorem ret_two {a b : Int} {x y : Bool} (h : a = b) (k : x = y) : Ending.returned (.tuple #[.int .i64 a, .bool x]) = .returned (.tuple #[.int .i64 b, .bool y]) := by rw [h, k]

set_option maxHeartbeats 800000 in
/-- wire's firstBad. -/
theorem first_any (s : ByteArray) (w : World) (hs : s.size ≤ 140737488355328) (B : Int) (F : Bool) (hF : Hid ((bad s < s.size ∧ B = bad s ∧ F = true) ∨ (bad s = s.size ∧ B = 0 ∧ F = false))) :
    Calls Tryz.prog 137 #[.string s] w fun e w' => e = .returned (.tuple #[.int .i64 B, .bool F]) ∧ Below w.heap.size w w' := by
  go_enter Tryz.func137, Tryz.ntmps137
  go_wp2
  go_loopw [] (fun w' => ∃ a b : Nat, a ≤ s.size ∧ s.size ≤ a + b ∧ Bd s b a = bad s ∧ w' = w.iter s a) (fun w' => s.size - w'.iterPos w.heap.size)
  case atStart => exact ⟨0, s.size, by omega, by omega, rfl, rfl⟩
  case round =>
    obtain ⟨a, b, ha, hab, hB, rfl⟩ := hrel
    have HB := Lib.hid hB
    clear hB
    by_cases hlt : a < s.size
    · have hnx : ∀ ty, (Instr.next (.pointer (some ⟨w.heap.size, 0, none⟩)) true ty).run Tryz.prog (w.iter s a) = _ := fun ty => run_next_any w s a ty hlt
      have hm := Ch_max s a
      have hc := Ch_le s a
      obtain ⟨q1, q2, q3⟩ := step_facts s a hlt
      by_cases h0 : Ch s a = 0
      · have hv : bad s = a := by rw [← HB.out]; exact Bd_here hlt hab (Or.inl h0)
        have hr := (q3.1 h0)
        have D0 : (((Utf8.decode s a).1 : Int) == 0) = false := by rw [hr.1]; rfl
        have D1 : (((Utf8.decode s a).1 : Int) == 65533) = true := by rw [hr.1]; rfl
        have D2 : spelt s a = false := hr.2
        have hB : B = a ∧ F = true := by
            rcases hF.out with ⟨_, p, q⟩ | ⟨p, _, _⟩
            · exact ⟨by omega, q⟩
            · omega
        obtain ⟨hB, hF'⟩ := hB
        have HBB := Lib.hid hB
        have HFF := Lib.hid hF'
        clear hv hr q1 q2 q3 h0 hc hm hB hF' hab
        go_wp2_with (go_at_call 161; refine (spells_any s a _ hs hlt).mono ?_; rintro e w' ⟨rfl, rfl⟩)
        go_ret2
        exact ⟨ret_two HBB.out.symm HFF.out.symm, below_iter _ _ _⟩
      · by_cases h1 : bt s a = 0
        · have hv : bad s = a := by rw [← HB.out]; exact Bd_here hlt hab (Or.inr h1)
          have D0 : (((Utf8.decode s a).1 : Int) == 0) = true := by rw [q2.2 h1]; rfl
          have hB : B = a ∧ F = true := by
            rcases hF.out with ⟨_, p, q⟩ | ⟨p, _, _⟩
            · exact ⟨by omega, q⟩
            · omega
          obtain ⟨hB, hF'⟩ := hB
          have HBB := Lib.hid hB
          have HFF := Lib.hid hF'
          clear hv q1 q2 q3 h0 hc hm hB hF' hab h1
          go_wp2
          go_ret2
          exact ⟨ret_two HBB.out.symm HFF.out.symm, below_iter _ _ _⟩
        · have D0 : (((Utf8.decode s a).1 : Int) == 0) = false := by
            rw [beq_eq_false_iff_ne]; intro q; exact h1 (q2.1 (by omega))
          have hw : (Utf8.decode s a).2 = Ch s a := by omega
          have HW := Lib.hid hw
          have H0 := Lib.hid h0
          have H1 := Lib.hid h1
          by_cases h2 : (Utf8.decode s a).1 = 65533
          · have D1 : (((Utf8.decode s a).1 : Int) == 65533) = true := by rw [h2]; rfl
            have D2 : spelt s a = true := by
              by_cases q : spelt s a = true
              · exact q
              · exact absurd (q3.2 ⟨h2, by simpa using q⟩) h0
            clear q1 q2 q3 h0 h1 hw h2
            go_wp2_with (go_at_call 161; refine (spells_any s a _ hs hlt).mono ?_; rintro e w' ⟨rfl, rfl⟩)
            go_roundw
            case rel =>
              cases b with
              | zero => omega
              | succ b =>
                rw [HW.out]
                have := H0.out
                exact ⟨a + Ch s a, b, by omega, by omega, by rw [← Bd_next hlt H0.out H1.out]; exact HB.out, rfl⟩
            case measure =>
              have := HW.out; have := H0.out
              simp
              omega
          · have D1 : (((Utf8.decode s a).1 : Int) == 65533) = false := by rw [beq_eq_false_iff_ne]; omega
            clear q1 q2 q3 h0 h1 hw h2
            go_wp2
            go_roundw
            case rel =>
              cases b with
              | zero => omega
              | succ b =>
                rw [HW.out]
                have := H0.out
                exact ⟨a + Ch s a, b, by omega, by omega, by rw [← Bd_next hlt H0.out H1.out]; exact HB.out, rfl⟩
            case measure =>
              have := HW.out; have := H0.out
              simp
              omega
    · have hnx : ∀ ty, (Instr.next (.pointer (some ⟨w.heap.size, 0, none⟩)) true ty).run Tryz.prog (w.iter s a) = _ := fun ty => run_next_end w s a ty hlt
      have hv : bad s = s.size := by rw [← HB.out]; exact Bd_end s b a (by omega)
      have hB : B = 0 ∧ F = false := by
        rcases hF.out with ⟨p, _, _⟩ | ⟨_, p, q⟩
        · omega
        · exact ⟨p, q⟩
      obtain ⟨hB, hF'⟩ := hB
      have HBB := Lib.hid hB
      have HFF := Lib.hid hF'
      clear hv hB hF'
      go_wp2
      go_ret2
      exact ⟨ret_two HBB.out.symm HFF.out.symm, below_iter _ _ _⟩

/-- wire's Good. -/
theorem good_any (s : ByteArray) (w : World) (hs : s.size ≤ 140737488355328) :
    Calls Tryz.prog 95 #[.string s] w fun e w' => e = .returned (.bool (good s)) ∧ Below w.heap.size w w' := by
  have hl := bad_le s
  by_cases h : bad s < s.size
  · have hv : good s = false := by unfold good; exact decide_eq_false (by omega)
    have Hv := Lib.hid hv
    have hF : Hid ((bad s < s.size ∧ (bad s : Int) = bad s ∧ true = true) ∨ (bad s = s.size ∧ (bad s : Int) = 0 ∧ true = false)) := Or.inl ⟨h, rfl, rfl⟩
    clear hv h hl
    go_enter Tryz.func95, Tryz.ntmps95
    go_wp2_with (go_at_call 137; refine (first_any s _ hs (bad s) true hF).mono ?_; rintro e w' ⟨rfl, hb⟩)
    go_ret
    exact ⟨ret_bool Hv.out.symm, hb⟩
  · have hv : good s = true := by unfold good; exact decide_eq_true (by omega)
    have Hv := Lib.hid hv
    have hF : Hid ((bad s < s.size ∧ (0 : Int) = bad s ∧ false = true) ∨ (bad s = s.size ∧ (0 : Int) = 0 ∧ false = false)) := Or.inr ⟨by omega, rfl, rfl⟩
    clear hv h hl
    go_enter Tryz.func95, Tryz.ntmps95
    go_wp2_with (go_at_call 137; refine (first_any s _ hs 0 false hF).mono ?_; rintro e w' ⟨rfl, hb⟩)
    go_ret
    exact ⟨ret_bool Hv.out.symm, hb⟩

theorem step_ct {s : ByteArray} {most : Int} {n e p : Nat} (hp : p = e + max 1 (Ch s e)) (h : most < (p : Int)) : Ct s most n e = e := Ct_stop (by omega)

end Go.Proofs.YteeheapenfklcaaGreatDoor.Txt
