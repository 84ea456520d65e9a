/- internal/strconv.ParseUint at base 16 and 32 bits: every string. -/
import Derived.Test.YtkilomaangdmdaaDoorHxf
import Derived.Lib.Strings
import Derived.Lib.Walk
import Derived.Lib.ConvBytes
import Derived.Lib.AtoiErrMem
import Derived.Laws.Strings3
import Derived.Laws.Closers25
import Derived.Laws.Closers25b
import Derived.BigCall
import Derived.BigGuard
namespace Go.Proofs.YtkilomaangdmdaaDoor
set_option linter.unusedVariables false
open Go.RowKit

/-- What a byte tells as a digit at base 16. -/
def dv (c : Nat) : Option Nat := if 48 ≤ c ∧ c ≤ 57 then some (c - 48) else if 97 ≤ c ||| 32 ∧ c ||| 32 ≤ 102 then some ((c ||| 32) - 87) else none
/-- The number that a row of digits makes, going on from a. -/
def pu : Nat → List UInt8 → Option Nat
  | a, [] => some a
  | a, c :: l => match dv c.toNat with
    | none => none
    | some d => if 4294967295 < a * 16 + d then none else pu (a * 16 + d) l
/-- What ParseUint tells. -/
def PuOut (T : TypeId) (r : Option Nat) (e : Ending) : Prop := match r with
  | some n => e = .returned (.tuple #[.int .u64 n, .nilIface])
  | none => ∃ v k : Int, e = .returned (.tuple #[.int .u64 v, .iface T (.int .i64 k)]) ∧ (k = 1 ∨ k = 2)

theorem lower_any (c : Int) (w : World) : Calls Tryd.prog 35 #[.int .u8 c] w fun e w' => e = .returned (.int .u8 (bits .or .u8 c 32)) ∧ w = w' := by
  go_enter Tryd.func35, Tryd.ntmps35
  go_wp2
  go_ret
  exact ⟨rfl, rfl⟩
theorem or32 (c : Nat) (h : c < 256) : bits .or .u8 (c : Int) 32 = ((c ||| 32 : Nat) : Int) ∧ c ||| 32 < 256 := by
  refine ⟨?_, Nat.or_lt_two_pow (n := 8) (by omega) (by omega)⟩
  have : ∀ x : Fin 256, bits .or .u8 (x.val : Int) 32 = ((x.val ||| 32 : Nat) : Int) := by decide +kernel
  exact this ⟨c, h⟩

set_option maxHeartbeats 8000000 in
set_option maxRecDepth 100000 in
theorem puint (t : ByteArray) (hmax : t.size ≤ 1152921504) (w : World) :
    Calls Tryd.prog 24 #[.string t, .int .i64 16, .int .i64 32] w fun e w' => PuOut 68 (if t.size = 0 then none else pu 0 t.data.toList) e ∧ Kept [] w w' := by
  by_cases hne : t.size = 0
  · rw [if_pos hne]
    have hemp : t.toList.isEmpty = true := by
      rw [← decide_eq_emptyBytes]
      exact decide_eq_true (by obtain ⟨⟨l⟩⟩ := t; cases l with | nil => rfl | cons _ _ => simp [ByteArray.size] at hne)
    clear hne
    go_enter Tryd.func24, Tryd.ntmps24
    go_wp2
    go_ret2
    exact ⟨⟨0, 2, rfl, Or.inr rfl⟩, Kept.refl _ _⟩
  · rw [if_neg hne]
    have hemp : t.toList.isEmpty = false := by
      rw [← decide_eq_emptyBytes]
      exact decide_eq_false (fun h => hne (by rw [h]; rfl))
    have hcv := Lib.run_convert_string_bytes (P := Tryd.prog) w 9 29 5 t (u := .string) Tryd.underlying9 Tryd.underlying29 Tryd.underlying5
    have hB : ∀ j, j < t.size → (Lib.bytesWorld w 5 t).cell? ⟨w.heap.size, j, none⟩ = some (.int .u8 (t.data.toList.getD j 0).toNat) := fun j hj => Lib.bytesWorld_cell w 5 t j hj
    have KW : Hid (Kept [] w (Lib.bytesWorld w 5 t)) := by exact Kept.of_below (Lib.bytesWorld_below w 5 t) []
    obtain ⟨W1, hW1⟩ : ∃ W1, W1 = Lib.bytesWorld w 5 t := ⟨_, rfl⟩
    rw [← hW1] at hcv hB KW
    clear hW1
    obtain ⟨bs, hL⟩ : ∃ bs, bs = t.data.toList := ⟨_, rfl⟩
    have hLn : bs.length = t.size := by rw [hL, Lib.size_eq]
    rw [← hL] at hB ⊢
    have hB2 : Hid (∀ j, j < t.size → W1.cell? ⟨w.heap.size, j, none⟩ = some (.int .u8 (bs.getD j 0).toNat)) := hB
    obtain ⟨B, hBB⟩ : ∃ B, B = w.heap.size := ⟨_, rfl⟩
    rw [← hBB] at hB2 hcv
    have HBB := Lib.hid hBB
    clear hL hB hBB
    go_enter Tryd.func24, Tryd.ntmps24
    go_wp2
    clear hcv
    go_loop [12, 13, 101] (fun vu vn vi => ∃ (k acc : Nat) (a : Int), vu = .bool false ∧ vn = .int .u64 a ∧ vi = .int .i64 k ∧ k ≤ t.size ∧ Hid (a = (acc : Int) ∧ acc ≤ 4294967295 ∧ pu 0 bs = pu acc (bs.drop k))) (fun _ _ vi => t.size - (intOf vi).toNat)
    case atStart => exact ⟨0, 0, 0, rfl, rfl, rfl, by omega, rfl, by omega, rfl⟩
    case round =>
      obtain ⟨k, acc, a, rfl, rfl, rfl, hk, hh⟩ := hrel
      obtain ⟨ha, hacc, hdec⟩ := hh.out
      clear hh
      have a0 : 0 ≤ a := by omega
      have a1 : a ≤ 4294967295 := by omega
      by_cases hkn : k < t.size
      · have hc := hB2.out k hkn
        have hdrop : bs.drop k = bs[k]'(by omega) :: bs.drop (k + 1) := List.drop_eq_getElem_cons (by omega)
        have hget : bs.getD k 0 = bs[k]'(by omega) := by simp [List.getD, List.getElem?_eq_getElem (show k < bs.length by omega)]
        rw [hdrop] at hdec
        rw [hget] at hc
        obtain ⟨c8, hc8⟩ : ∃ c, c = bs[k]'(by omega) := ⟨_, rfl⟩
        rw [← hc8] at hc hdec
        obtain ⟨c, hcc⟩ : ∃ c, c = c8.toNat := ⟨_, rfl⟩
        rw [← hcc] at hc
        have hc256 : c < 256 := by rw [hcc]; exact c8.toNat_lt
        obtain ⟨hor, hm256⟩ := or32 c hc256
        obtain ⟨m, hm⟩ : ∃ m, m = c ||| 32 := ⟨_, rfl⟩
        rw [← hm] at hor hm256
        have LOW : Hid (∀ w, Calls Tryd.prog 35 #[.int .u8 (c : Int)] w fun e w' => e = .returned (.int .u8 (m : Int)) ∧ w = w') := fun w => by rw [← hor]; exact lower_any c w
        have NEXT : Hid (∀ d, dv c = some d → pu 0 bs = if 4294967295 < acc * 16 + d then none else pu (acc * 16 + d) (bs.drop (k + 1))) := fun d hd => by
          rw [hdec, pu, ← hcc, hd]
        have NONE : Hid (dv c = none → pu 0 bs = none) := fun hd => by
          rw [hdec, pu, ← hcc, hd]
        have HM : Hid (m = c ||| 32) := hm
        have HACC : Hid (a = (acc : Int)) := ha
        clear hdrop hget hc8 hcc hdec hor hm ha
        by_cases hdig : 48 ≤ c ∧ c ≤ 57
        · obtain ⟨hd0, hd1⟩ := hdig
          have N1 := Lib.hid (NEXT.out (c - 48) (by unfold dv; rw [if_pos ⟨hd0, hd1⟩]))
          by_cases hov : 4294967295 < acc * 16 + (c - 48)
          · have iov : 4294967295 < a * 16 + ((c : Int) - 48) := by have := HACC.out; omega
            have N2 : Hid (pu 0 bs = none) := by have h := N1.out; rw [if_pos hov] at h; exact h
            clear hov hacc N1 NEXT NONE
            go_wp2
            go_ret2
            exact ⟨by rw [N2.out]; exact ⟨_, 1, rfl, Or.inl rfl⟩, KW.out⟩
          · have iov : a * 16 + ((c : Int) - 48) ≤ 4294967295 := by have := HACC.out; omega
            have N2 : Hid (pu 0 bs = pu (acc * 16 + (c - 48)) (bs.drop (k + 1))) := by have h := N1.out; rw [if_neg hov] at h; exact h
            have HN : Hid (a * 16 + ((c : Int) - 48) = ((acc * 16 + (c - 48) : Nat) : Int) ∧ acc * 16 + (c - 48) ≤ 4294967295 ∧ pu 0 bs = pu (acc * 16 + (c - 48)) (bs.drop (k + 1))) := ⟨by have := HACC.out; omega, by omega, N2.out⟩
            clear hov hacc N1 NEXT NONE N2
            go_wp2
            refine ⟨⟨k + 1, acc * 16 + (c - 48), a * 16 + ((c : Int) - 48), rfl, (by first | rfl | (congr 1; omega)), (by first | rfl | (congr 1; omega)), by omega, HN⟩, by simp [intOf]; omega⟩
        · have DV : Hid (dv c = if 97 ≤ m ∧ m ≤ 102 then some (m - 87) else none) := by show _ = _; unfold dv; rw [if_neg hdig, ← HM.out]
          have H95 : Hid (c = 95 → m = 127) := fun h => by have := HM.out; rw [h] at this; exact this
          by_cases hlet : 97 ≤ m ∧ m ≤ 102
          · have N1 := Lib.hid (NEXT.out (m - 87) (by rw [DV.out, if_pos hlet]))
            obtain ⟨hm1, hm2⟩ := hlet
            have h95 : ((c : Int) == 95) = false := by
              have : c ≠ 95 := fun h => by have := H95.out h; omega
              simp; omega
            have i1 : (97 : Int) ≤ (m : Int) := by omega
            have i2 : (m : Int) ≤ 122 := by omega
            by_cases hov : 4294967295 < acc * 16 + (m - 87)
            · have iov : 4294967295 < a * 16 + ((m : Int) - 97 + 10) := by have := HACC.out; omega
              have N2 : Hid (pu 0 bs = none) := by have h := N1.out; rw [if_pos hov] at h; exact h
              rcases (by omega : c < 48 ∨ 57 < c) with hd | hd
              all_goals
                clear hov hacc N1 NEXT NONE hdig
                go_wp2_with (go_at_call 35; refine (LOW.out _).mono ?_; rintro e w' ⟨rfl, rfl⟩)
                go_ret2
                exact ⟨by rw [N2.out]; exact ⟨_, 1, rfl, Or.inl rfl⟩, KW.out⟩
            · have iov : a * 16 + ((m : Int) - 97 + 10) ≤ 4294967295 := by have := HACC.out; omega
              have N2 : Hid (pu 0 bs = pu (acc * 16 + (m - 87)) (bs.drop (k + 1))) := by have h := N1.out; rw [if_neg hov] at h; exact h
              have HN : Hid (a * 16 + ((m : Int) - 97 + 10) = ((acc * 16 + (m - 87) : Nat) : Int) ∧ acc * 16 + (m - 87) ≤ 4294967295 ∧ pu 0 bs = pu (acc * 16 + (m - 87)) (bs.drop (k + 1))) := ⟨by have := HACC.out; omega, by omega, N2.out⟩
              rcases (by omega : c < 48 ∨ 57 < c) with hd | hd
              all_goals
                clear hov hacc N1 NEXT NONE hdig N2
                go_wp2_with (go_at_call 35; refine (LOW.out _).mono ?_; rintro e w' ⟨rfl, rfl⟩)
                refine ⟨⟨k + 1, acc * 16 + (m - 87), a * 16 + ((m : Int) - 97 + 10), rfl, (by first | rfl | (congr 1; omega)), (by first | rfl | (congr 1; omega)), by omega, HN⟩, by simp [intOf]; omega⟩
          · have N2 := Lib.hid (NONE.out (by rw [DV.out, if_neg hlet]))
            by_cases c95 : c = 95
            · have L95 : Hid (∀ w, Calls Tryd.prog 35 #[.int .u8 95] w fun e w' => e = .returned (.int .u8 127) ∧ w = w') := fun w => by
                have h := lower_any 95 w
                have e : bits .or .u8 95 32 = 127 := by decide
                rw [e] at h
                exact h
              subst c95
              have hc95 : W1.cell? ⟨B, k, none⟩ = some (.int .u8 95) := hc
              clear hacc NEXT NONE hdig hlet LOW hc
              go_wp2_with (go_at_call 35; refine (L95.out _).mono ?_; rintro e w' ⟨rfl, rfl⟩)
              all_goals go_ret2
              all_goals exact ⟨by rw [N2.out]; exact ⟨_, 2, rfl, Or.inr rfl⟩, KW.out⟩
            · have h95 : ((c : Int) == 95) = false := by simp; omega
              rcases (by omega : c < 48 ∨ 57 < c) with hd | hd
              all_goals
                rcases (by omega : m < 97 ∨ (103 ≤ m ∧ m ≤ 122) ∨ 122 < m) with hm3 | ⟨hm3, hm4⟩ | hm3
                all_goals
                  clear hacc NEXT NONE hdig hlet
                  go_wp2_with (go_at_call 35; refine (LOW.out _).mono ?_; rintro e w' ⟨rfl, rfl⟩)
                  all_goals go_ret2
                  all_goals exact ⟨by rw [N2.out]; exact ⟨_, 2, rfl, Or.inr rfl⟩, KW.out⟩
      · have hkk : k = t.size := by omega
        subst hkk
        have hF : pu 0 bs = some acc := by rw [hdec, List.drop_eq_nil_of_le (by omega)]; rfl
        have HF := Lib.hid hF
        subst ha
        clear hacc hF a0 a1 hdec
        go_wp2
        go_ret2
        exact ⟨by rw [HF.out]; rfl, KW.out⟩
end Go.Proofs.YtkilomaangdmdaaDoor
