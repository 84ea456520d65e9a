/- vergerlaw06: among; who belongs to whom in a table whose names differ. -/
import Derived.Test.YteeheapenfklcaaDoorUgh
import Derived.Test.YteeheapenfklcaaDoorUmg
namespace Go.Proofs.YteeheapenfklcaaDoor
set_option linter.unusedVariables false
open Go.RowKit Go.Shelf
attribute [local go_sem] Oper.semAt_some
namespace Us
open Go.Proofs.YteeheapenfklcaaDoor.Utf Go.Proofs.YteeheapenfklcaaDoor.Txt Go.PlainAid Go.Proofs.YteeheapenfklcaaDoor.Mpf
theorem memB_take {s : ByteArray} {l : List ByteArray} {k : Nat} (hk : k < l.length) (h : memB s (l.take k) = false) (hn : ¬ l[k] = s) : memB s (l.take (k + 1)) = false := by
  rw [List.take_succ_eq_append_getElem hk, memB_append, h, memB_one, decide_eq_false hn]
  rfl
theorem toList_eq {x s : ByteArray} (h : x.toList = s.toList) : x = s := by
  rw [ByteArray.toList_eq, ByteArray.toList_eq] at h
  exact dl_inj h
theorem memB_yes {s : ByteArray} {l : List ByteArray} {k : Nat} (hk : k < l.length) (h : l[k] = s) : memB s l = true := memB_iff.2 (h ▸ List.getElem_mem hk)
set_option maxHeartbeats 4000000 in
set_option maxRecDepth 100000 in
theorem among_any (w : World) (l : List ByteArray) (s : ByteArray) (a1 : Option Addr) (c1 : Nat) (h1 : Mem w (.slice a1 l.length c1) l) (hl : l.length ≤ 140737488355328) :
    Calls Tryd.prog 18 #[.slice a1 l.length c1, .string s] w fun e w' => e = .returned (.bool (memB s l)) ∧ Kept [] w w' := by
  obtain ⟨r, hr⟩ : ∃ r, r = memB s l := ⟨_, rfl⟩
  rw [← hr]
  have H1 := Lib.hid h1
  have HR := Lib.hid hr
  clear h1 hr
  go_enter Tryd.func18, Tryd.ntmps18
  go_wp2_with fail
  go_loopw [5] (fun iv wr => ∃ k : Nat, iv = .int .i64 k ∧ k ≤ l.length ∧ Hid (memB s (l.take k) = false) ∧ Hid (Kept [] w wr)) (fun iv _ => l.length - (intOf iv).toNat)
  case atStart => exact ⟨0, rfl, by omega, rfl, Kept.refl [] w⟩
  case round =>
    obtain ⟨k, rfl, hk, HM, KK⟩ := hrel
    by_cases hlt : k < l.length
    · have j1 : (k : Int) < (l.length : Int) := by omega
      obtain ⟨g1, rfl, x1, -⟩ := (H1.out.kept0 KK.out).at' hlt
      obtain ⟨x, hx⟩ : ∃ x, x = l[k] := ⟨_, rfl⟩
      rw [← hx] at x1
      have HX := Lib.hid hx
      have KD : Hid (Kept [] w wr.drew) := KK.out.drew
      clear hx
      by_cases hq : x = s
      · have HQ : Hid (true = r) := by show _ = _; rw [HR.out]; exact (memB_yes hlt (HX.out ▸ hq)).symm
        subst hq
        go_wp2_with fail
        all_goals (try go_region)
        all_goals (try go_wp2_with fail)
        go_ret
        exact ⟨by rw [← HQ.out]; rfl, KK.out⟩
      · have HN : Hid (memB s (l.take (k + 1)) = false) := memB_take hlt HM.out (fun h => hq (HX.out.trans h))
        have hq2 : (x.toList == s.toList) = false := by
          rw [Bool.eq_false_iff]
          intro h
          exact hq (toList_eq (eq_of_beq h))
        go_wp2_with fail
        go_roundw
        case rel => exact ⟨k + 1, by go_num, by omega, HN, KK⟩
        case measure => simp [intOf]; omega
    · have j1 : ¬ (k : Int) < (l.length : Int) := by omega
      have HQ : Hid (false = r) := by
        show _ = _
        have := HM.out
        rw [List.take_of_length_le (by omega)] at this
        rw [HR.out, this]
      go_wp2_with fail
      go_ret
      exact ⟨by rw [← HQ.out]; rfl, KK.out⟩
end Us
end Go.Proofs.YteeheapenfklcaaDoor
