/- UsersGroups, UsersOrder: the law's table of accounts that may be. -/
import Derived.Test.YteeheapenfklcaaDoorUpr
namespace Go.Proofs.YteeheapenfklcaaDoor
set_option linter.unusedVariables false
open Go.RowKit Go.Shelf
attribute [local go_sem] Oper.semAt_some
namespace Us
open Go.Proofs.YteeheapenfklcaaDoor.Utf Go.Proofs.YteeheapenfklcaaDoor.Txt Go.PlainAid Go.Proofs.YteeheapenfklcaaDoor.Mpf
set_option maxRecDepth 100000 in
theorem table_ok {w : World} (hm : Ml w) {a : Option Addr} {c : Nat} {L : List (Acc × Value)} (hR : RowsA w (.slice a L.length c) L) (g : Good (accs L)) :
    Calls Tryd.prog 16 #[.slice a L.length c] w fun e w' => ∃ B p, e = .returned (.pointer (some ⟨p, 0, none⟩)) ∧ Tb w' B p (accs L) ∧ Kept [] w w' := by
  have PR := Lib.hid (Print_ok hR g)
  have sz : (bA (textL (accs L))).size ≤ 140737488355328 := by
    have h1 : (bA (textL (accs L))).size = (textL (accs L)).length := by rw [← dl_length, dl_bA]
    have := g.text
    omega
  have PAR : Hid (∀ w', Kept [] w w' → Calls Tryd.prog 10 #[.string (bA (textL (accs L)))] w' fun e w'' => ∃ B p, e = .returned (.tuple #[.pointer (some ⟨p, 0, none⟩), .int .i64 0, .int .i64 0]) ∧ Tb w'' B p (accs L) ∧ Kept [] w' w'') := fun w' k => by
    refine (parse_any w' _ (hm.kept0 k) sz).mono ?_
    have hp : parse (bA (textL (accs L))) = (some (accs L), 0, 0) := g.parse
    rintro e w2 (⟨T, B, p, h1, rfl, h3, -, -, h4⟩ | ⟨er, ln, h1, h2, rfl, h4⟩)
    · rw [hp] at h1
      simp only [Prod.mk.injEq, Option.some.injEq, and_true] at h1
      subst h1
      exact ⟨B, p, rfl, h3, h4⟩
    · rw [hp] at h1
      simp at h1
  obtain ⟨z, hz⟩ : ∃ z, z = bA (textL (accs L)) := ⟨_, rfl⟩
  rw [← hz] at PR PAR
  clear hz sz hR g hm
  go_enter Tryd.func16, Tryd.ntmps16
  go_wp2_with (first | (go_at_call 9; refine PR.out.mono ?_; rintro e w2 ⟨rfl, k2⟩; have K2 := Lib.hid k2; clear k2) | (go_at_call 10; refine (PAR.out _ K2.out).mono ?_; rintro e w3 ⟨B, p, rfl, t3, k3⟩; have T3 := Lib.hid t3; have K3 := Lib.hid (K2.out.trans k3 (fun i hi => by cases hi)); clear t3 k3))
  go_ret
  exact ⟨B, p, rfl, T3.out, K3.out⟩
end Us
end Go.Proofs.YteeheapenfklcaaDoor
