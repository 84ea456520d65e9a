/- Two lists alike: equal ones. -/
import Derived.Test.YtjdhgeikbkjnoaaDoorQtm
import Derived.Test.YtjdhgeikbkjnoaaDoorLdt
namespace Go.Proofs.YtjdhgeikbkjnoaaDoor
set_option linter.unusedVariables false
open Go.RowKit Go.Shelf
attribute [local go_sem] Oper.semAt_some
namespace Nm
open Go.Proofs.YtjdhgeikbkjnoaaDoor.Utf Go.Proofs.YtjdhgeikbkjnoaaDoor.Txt Go.PlainAid

set_option maxHeartbeats 8000000 in
set_option maxRecDepth 100000 in
theorem alike_any (w : World) (l : List ByteArray) (a1 a2 : Option Addr) (c1 c2 : Nat) (h1 : Lst w (.slice a1 l.length c1) l) (h2 : Lst w (.slice a2 l.length c2) l) (hl : l.length ≤ 140737488355328) :
    Calls Tryd.prog 24 #[.slice a1 l.length c1, .slice a2 l.length c2] w fun e w' => e = .returned (.bool true) ∧ Kept [] w w' := by
  have H1 := Lib.hid h1
  have H2 := Lib.hid h2
  clear h1 h2
  go_enter Tryd.func24, Tryd.ntmps24
  go_wp2_with fail
  go_loopw [5] (fun iv wr => ∃ k : Nat, iv = .int .i64 k ∧ k ≤ l.length ∧ Hid (Kept [] w wr)) (fun iv _ => l.length - (intOf iv).toNat)
  case atStart => exact ⟨0, rfl, by omega, Kept.refl [] w⟩
  case round =>
    obtain ⟨k, rfl, hk, KK⟩ := hrel
    by_cases hlt : k < l.length
    · have j1 : (k : Int) < (l.length : Int) := by omega
      obtain ⟨za, zc, ez, -, hh⟩ := Lst.kept H1.out KK.out (fun _ _ _ _ hm => by simp at hm)
      cases ez
      rcases hh with e | ⟨b1, o1, rfl, -, g1⟩
      · rw [e] at hlt; simp at hlt
      obtain ⟨za, zc, ez, -, hh⟩ := Lst.kept H2.out KK.out (fun _ _ _ _ hm => by simp at hm)
      cases ez
      rcases hh with e | ⟨b2, o2, rfl, -, g2⟩
      · rw [e] at hlt; simp at hlt
      have x1 := g1 k _ (List.getElem?_eq_getElem hlt)
      have x2 := g2 k _ (List.getElem?_eq_getElem hlt)
      obtain ⟨x, hx⟩ : ∃ x, x = l[k] := ⟨_, rfl⟩
      rw [← hx] at x1 x2
      have KD : Hid (Kept [] w wr.drew) := KK.out.drew
      clear g1 g2 hx
      go_wp2_with fail
      go_region
      go_wp2_with fail
      go_roundw
      case rel => exact ⟨k + 1, by go_num, by omega, KD⟩
      case measure => simp [intOf]; omega
    · have j1 : ¬ (k : Int) < (l.length : Int) := by omega
      go_wp2_with fail
      go_ret
      exact ⟨rfl, KK.out⟩
end Nm
end Go.Proofs.YtjdhgeikbkjnoaaDoor
