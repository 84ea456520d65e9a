/- What names' Check does. -/
import Derived.Test.YteeheapenfklcaaGreatDoorUac
import Derived.Test.YteeheapenfklcaaGreatDoorShf
import Derived.Lib.Strings
import Derived.Lib.IndexLaws
import Derived.Deep.RegionWith
namespace Go.Proofs.YteeheapenfklcaaGreatDoor
set_option linter.unusedVariables false
open Go.RowKit

namespace Nm
open Go.Proofs.YteeheapenfklcaaGreatDoor.Utf Go.Proofs.YteeheapenfklcaaGreatDoor.Txt Go.PlainAid
def dl (s : ByteArray) : List UInt8 := s.data.toList
theorem dl_length (t : ByteArray) : (dl t).length = t.size := by unfold dl; simp
theorem ret_int {k : IntKind} {a b : Int} (h : a = b) : Ending.returned (.int k a) = .returned (.int k b) := by rw [h]
/-- May a file be called so? -/
def chk (p : ByteArray) : Bool := decide (dl p ≠ [] ∧ dl p ≠ [46] ∧ dl p ≠ [46, 46] ∧ (dl p).length ≤ 255 ∧ (47 : UInt8) ∉ dl p ∧ good p = true)
theorem toList_dl (p : ByteArray) : p.toList = dl p := ByteArray.toList_eq p
theorem check_any (w : World) (p : ByteArray) (hs : p.size ≤ 140737488355328) :
    Calls Tryz.prog 97 #[.string p] w fun e w' => e = .returned (.int .i64 (if chk p = true then 0 else 50)) ∧ Kept [] w w' := by
  obtain ⟨z, hz⟩ : ∃ z : Int, z = if chk p = true then 0 else 50 := ⟨_, rfl⟩
  have HZ := Lib.hid hz
  rw [← hz]
  have NO : Hid (¬ (chk p = true) → (50 : Int) = z) := fun h => by rw [HZ.out, if_neg h]
  have YES : Hid (chk p = true → (0 : Int) = z) := fun h => by rw [HZ.out, if_pos h]
  have hl := dl_length p
  have T := toList_dl p
  have HT := Lib.hid T
  have HL := Lib.hid hl
  have CON := Lib.hid (Tryz.strings_Contains_one p 47 w)
  have GOOD := Lib.hid (fun w => good_any p w hs)
  clear hz T hl
  by_cases h1 : p.toList = []
  · have hv : (50 : Int) = z := NO.out (fun h => by unfold chk at h; have := of_decide_eq_true h; exact this.1 (by rw [← HT.out]; exact h1))
    have HV := Lib.hid hv
    clear hv
    go_enter Tryz.func97, Tryz.ntmps97
    go_wp2_with fail
    go_ret
    exact ⟨ret_int HV.out, Kept.refl _ _⟩
  by_cases h2 : p.toList = [46]
  · have hv : (50 : Int) = z := NO.out (fun h => by unfold chk at h; have := of_decide_eq_true h; exact this.2.1 (by rw [← HT.out]; exact h2))
    have HV := Lib.hid hv
    clear hv
    go_enter Tryz.func97, Tryz.ntmps97
    go_wp2_with fail
    go_ret
    exact ⟨ret_int HV.out, Kept.refl _ _⟩
  by_cases h3 : p.toList = [46, 46]
  · have hv : (50 : Int) = z := NO.out (fun h => by unfold chk at h; have := of_decide_eq_true h; exact this.2.2.1 (by rw [← HT.out]; exact h3))
    have HV := Lib.hid hv
    clear hv
    go_enter Tryz.func97, Tryz.ntmps97
    go_wp2_with fail
    go_ret
    exact ⟨ret_int HV.out, Kept.refl _ _⟩
  have b1 : p.toList.isEmpty = false := by rw [List.isEmpty_eq_false_iff]; exact h1
  have b2 : (p.toList == [46]) = false := by rw [beq_eq_false_iff_ne]; exact h2
  have b3 : (p.toList == [46, 46]) = false := by rw [beq_eq_false_iff_ne]; exact h3
  have b0 : (p.toList == []) = false := by rw [beq_eq_false_iff_ne]; exact h1
  by_cases h4 : p.size ≤ 255
  · have h4' : ¬ (255 : Int) < (p.size : Int) := by omega
    by_cases h5 : 0 ≤ Lib.indexByte p.data.toList 47
    · have hv : (50 : Int) = z := NO.out (fun h => by
        unfold chk at h
        have := of_decide_eq_true h
        obtain ⟨i, hi⟩ : ∃ i : Nat, Lib.indexByte p.data.toList 47 = i := ⟨(Lib.indexByte p.data.toList 47).toNat, by omega⟩
        exact this.2.2.2.2.1 (List.mem_of_getElem? (Lib.indexByte_some hi).1))
      have HV := Lib.hid hv
      rw [decide_eq_true h5] at CON
      clear hv h5 h1 h2 h3
      go_enter Tryz.func97, Tryz.ntmps97
      go_wp2_with (go_at_call 139; refine CON.out.mono ?_; rintro e w1 ⟨rfl, rfl⟩)
      go_ret
      exact ⟨ret_int HV.out, Kept.refl _ _⟩
    · have h5' : Lib.indexByte p.data.toList 47 = -1 := by have := Lib.indexByte_ge p.data.toList 47; omega
      have hv : Hid ((if good p = true then (0 : Int) else 50) = z) := by
        show _ = _
        by_cases hg : good p = true
        · rw [if_pos hg]
          refine YES.out ?_
          unfold chk
          refine decide_eq_true ⟨by rw [← HT.out]; exact h1, by rw [← HT.out]; exact h2, by rw [← HT.out]; exact h3, by rw [HL.out]; exact h4, fun hm => ?_, hg⟩
          obtain ⟨k, hk, e⟩ := List.mem_iff_getElem.1 hm
          exact Lib.indexByte_none h5' k (by show (dl p)[k]? = _; rw [List.getElem?_eq_getElem hk, e])
        · rw [if_neg hg]
          exact NO.out (fun h => by unfold chk at h; have := of_decide_eq_true h; exact hg this.2.2.2.2.2)
      rw [decide_eq_false h5] at CON
      obtain ⟨q, hq⟩ : ∃ q, q = good p := ⟨_, rfl⟩
      rw [← hq] at GOOD hv
      clear hq h5 h5' h1 h2 h3
      go_enter Tryz.func97, Tryz.ntmps97
      cases q
      · go_wp2_with (first | (go_at_call 139; refine CON.out.mono ?_; rintro e w1 ⟨rfl, rfl⟩) | (go_at_call 95; refine (GOOD.out _).mono ?_; rintro e w2 ⟨rfl, kb⟩))
        go_ret
        exact ⟨ret_int hv.out, Kept.of_below kb []⟩
      · go_wp2_with (first | (go_at_call 139; refine CON.out.mono ?_; rintro e w1 ⟨rfl, rfl⟩) | (go_at_call 95; refine (GOOD.out _).mono ?_; rintro e w2 ⟨rfl, kb⟩))
        go_ret
        exact ⟨ret_int hv.out, Kept.of_below kb []⟩
  · have hv : (50 : Int) = z := NO.out (fun h => by unfold chk at h; have := of_decide_eq_true h; have h2 := this.2.2.2.1; rw [HL.out] at h2; exact h4 h2)
    have HV := Lib.hid hv
    have h4' : (255 : Int) < (p.size : Int) := by omega
    clear hv h1 h2 h3
    go_enter Tryz.func97, Tryz.ntmps97
    go_wp2_with fail
    go_ret
    exact ⟨ret_int HV.out, Kept.refl _ _⟩
end Nm
end Go.Proofs.YteeheapenfklcaaGreatDoor
