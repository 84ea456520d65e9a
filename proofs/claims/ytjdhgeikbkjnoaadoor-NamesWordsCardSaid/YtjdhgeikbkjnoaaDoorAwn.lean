/- names' laws: awake. -/
import Derived.Test.YtjdhgeikbkjnoaaDoorWdw
import Derived.Test.YtjdhgeikbkjnoaaDoorMat
import Derived.Test.YtjdhgeikbkjnoaaDoorMpt
namespace Go.Proofs.YtjdhgeikbkjnoaaDoor
set_option linter.unusedVariables false
open Go.RowKit Go.Shelf
attribute [local go_sem] Oper.semAt_some
namespace Nm
open Go.Proofs.YtjdhgeikbkjnoaaDoor.Utf Go.Proofs.YtjdhgeikbkjnoaaDoor.Txt Go.PlainAid

def exP : ByteArray := ⟨#[47, 97, 47, 46, 47, 98, 47, 46, 46, 47, 99]⟩
def exN : ByteArray := ⟨#[109, 97, 105, 110, 46, 99]⟩
def exL : ByteArray := ⟨#[97, 32, 39, 98, 32, 99, 39]⟩
theorem ex_clean (w : World) : Calls Tryd.prog 11 #[.string exP] w fun e w' => e = .returned (.tuple #[.string ⟨#[47, 97, 47, 99]⟩, .int .i64 0]) ∧ Kept [] w w' := by
  refine (clean_any w exP (by decide)).mono ?_
  rintro e w' (⟨ho, ps, hps, rfl, k⟩ | ⟨ho, -, -⟩)
  · have e1 := pt_of hps
    subst e1
    have e2 : cln exP (pt exP) = ⟨#[47, 97, 47, 99]⟩ := by decide +kernel
    rw [e2]
    exact ⟨rfl, k⟩
  · have : okl (dl exP) = true := by decide +kernel
    rw [this] at ho
    cases ho
theorem ex_match (w : World) : Calls Tryd.prog 19 #[.string pat, .string exN] w fun e w' => e = .returned (.tuple #[.bool true, .int .i64 0]) ∧ Kept [] w w' := by
  refine match_ok w pat exN true (by decide) (fun w => (piecesOf_pat w).mono ?_)
  rintro e w' ⟨v, v1, v2, v3, rfl, h1, h2, k⟩
  refine ⟨v, [⟨true, true, v1, []⟩, ⟨false, false, v2, [(46, 46)]⟩, ⟨false, false, v3, [(99, 99), (104, 104)]⟩], rfl, ⟨h1.out, ?_⟩, k, (by simp : ([_, _, _] : List Pz).length ≤ 255), ?_, ?_⟩
  · have h := h2.out
    intro p hp
    simp at hp
    rcases hp with rfl | rfl | rfl
    · exact h ⟨true, true, v1, 0, []⟩ (by simp)
    · exact h ⟨false, false, v2, 1, spc 46⟩ (by simp)
    · exact h ⟨false, false, v3, 2, spc 99 ++ spc 104⟩ (by simp)
  · intro p hp
    simp at hp
    rcases hp with rfl | rfl | rfl <;> simp
  · show _ = _
    kernel_rfl
theorem ex_wds : Wds (dl exL) [[97], [98, 32, 99]] := by
  refine .word (dl exL) [32, 39, 98, 32, 99, 39] [97] _ (by decide) ?_ (.word _ [] [98, 32, 99] [] (by decide) ?_ (.done _ (by decide)))
  · exact .byte _ _ _ 97 (by decide) (by decide) (.stop 32 _ (by decide))
  · exact .quo _ [] [] [98, 32, 99] [] (.byte _ _ _ 98 (by decide) (by decide) (.byte _ _ _ 32 (by decide) (by decide) (.byte _ _ _ 99 (by decide) (by decide) (.stop _)))) .nil
set_option maxHeartbeats 8000000 in
set_option maxRecDepth 100000 in
theorem awake_any (w : World) : Calls Tryd.prog 10 #[] w fun e w' => e = .returned (.bool true) ∧ Kept [] w w' := by
  have C := Lib.hid (fun w => ex_clean w)
  have M := Lib.hid (fun w => ex_match w)
  have W := Lib.hid (fun w => words_ok w exL _ ex_wds (by decide))
  go_enter Tryd.func10, Tryd.ntmps10
  go_wp2_with fail
  refine (C.out w).mono ?_
  rintro e w2 ⟨rfl, k2⟩
  go_wp2_with fail
  refine (M.out w2).mono ?_
  rintro e w3 ⟨rfl, k3⟩
  have K3 : Hid (Kept [] w w3) := k2.trans k3 (fun i hi => by simp at hi)
  clear k2 k3
  go_wp2_with fail
  refine (W.out w3).mono ?_
  rintro e w4 ⟨v, rfl, hR, k4⟩
  have K4 : Hid (Kept [] w w4) := K3.out.trans k4.out (fun i hi => by simp at hi)
  obtain ⟨g, cap, e1, h1, h2, h3, h4⟩ := row_at hR.out (by simp)
  have c1 := h4 1 _ rfl
  have e2 : toB [98, 32, 99] = ⟨#[98, 32, 99]⟩ := rfl
  rw [e2] at c1
  subst e1
  clear h4 e2 k4
  go_wp2_with fail
  go_ret
  exact ⟨rfl, K4.out⟩
end Nm
end Go.Proofs.YtjdhgeikbkjnoaaDoor
