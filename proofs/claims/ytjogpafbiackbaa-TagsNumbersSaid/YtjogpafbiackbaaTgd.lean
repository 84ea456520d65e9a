/- tags: a message copied; flushOf; New. -/
import Derived.Test.YtjogpafbiackbaaTgc
import Derived.Deep.MidRow
namespace Go.Proofs.Ytjogpafbiackbaa
set_option linter.unusedVariables false
open Go.RowKit
namespace Tg
open Go.Proofs.Ytjogpafbiackbaa.Mpf Go.PlainAid

theorem size_msg : (Try.prog.info? 57).map (·.size) = some 36 := by kernel_rfl
theorem size_rep : (Try.prog.info? 84).map (·.size) = some 38 := by kernel_rfl
section
variable {w : World} {ops : Array Oper} {rest : List Oper} {o : Oper} {a : Act} {Q : Exit → Act → World → Prop}
theorem wpList_lmsg (hgd : o.guard = none) (x : Operand) (ho : o.op = .load 57 x) (B : Nat) (V : Array Value) (hs : V.size = 36) (h : Bx w B 57 V) (hx : a.eval x = .pointer (some ⟨B, 0, none⟩))
    (hK : wpList Try.prog ops Q rest (a.put o.dst (.agg V)) w) : wpList Try.prog ops Q (o :: rest) a w :=
  wpList_plain hgd fun K hK' => wp_load_row 57 x ho B hx 57 _ (0, 0) _ h Try.underlying57 rfl (by rw [hs]; exact size_msg) (hK' _ _ hK)
theorem wpList_smsg (hgd : o.guard = none) (x y : Operand) (ho : o.op = .store 57 x y) (g : Nat) (hx : a.eval x = .pointer (some ⟨g, 0, none⟩)) (old cs : Array Value)
    (hy : a.eval y = .agg cs) (hg : Bx w g 57 old) (hs : old.size = 36) (hc : cs.size = 36) (h1 : cs.all (·.oneCell') = true)
    (h : ∀ w', Bx w' g 57 cs → Kept [g] w w' → wpList Try.prog ops Q rest (a.put o.dst undef) w') : wpList Try.prog ops Q (o :: rest) a w :=
  wpList_plain hgd fun K hK => by
    have := run_storeVar_row (P := Try.prog) w g 57 57 old cs hg (by rw [hc]; exact size_msg) (by rw [hs, hc]) h1
    unfold Oper.wp execOp
    simp only [ho, hx, hy, Instr.storeAt, Instr.sureAddr, Sem.run_bind, Sem.run_pure, Result.andThen_ok, this]
    exact hK _ _ (h _ (setRow_heap w g old cs 57 (0, 0) hg) ⟨rfl, rfl, rfl, by simp [World.setRow], fun k _ hk => setRow_other w g k _ (by simpa using hk)⟩)
theorem wpList_lrep (hgd : o.guard = none) (x : Operand) (ho : o.op = .load 84 x) (B : Nat) (V : Array Value) (hs : V.size = 38) (h : Bx w B 84 V) (hx : a.eval x = .pointer (some ⟨B, 0, none⟩))
    (hK : wpList Try.prog ops Q rest (a.put o.dst (.agg V)) w) : wpList Try.prog ops Q (o :: rest) a w :=
  wpList_plain hgd fun K hK' => wp_load_row 84 x ho B hx 84 _ (0, 0) _ h Try.underlying84 rfl (by rw [hs]; exact size_rep) (hK' _ _ hK)
theorem wpList_srep (hgd : o.guard = none) (x y : Operand) (ho : o.op = .store 84 x y) (g : Nat) (hx : a.eval x = .pointer (some ⟨g, 0, none⟩)) (old cs : Array Value)
    (hy : a.eval y = .agg cs) (hg : Bx w g 84 old) (hs : old.size = 38) (hc : cs.size = 38) (h1 : cs.all (·.oneCell') = true)
    (h : ∀ w', Bx w' g 84 cs → Kept [g] w w' → wpList Try.prog ops Q rest (a.put o.dst undef) w') : wpList Try.prog ops Q (o :: rest) a w :=
  wpList_plain hgd fun K hK => by
    have := run_storeVar_row (P := Try.prog) w g 84 84 old cs hg (by rw [hc]; exact size_rep) (by rw [hs, hc]) h1
    unfold Oper.wp execOp
    simp only [ho, hx, hy, Instr.storeAt, Instr.sureAddr, Sem.run_bind, Sem.run_pure, Result.andThen_ok, this]
    exact hK _ _ (h _ (setRow_heap w g old cs 84 (0, 0) hg) ⟨rfl, rfl, rfl, by simp [World.setRow], fun k _ hk => setRow_other w g k _ (by simpa using hk)⟩)
end
theorem eqlNil1 (w : World) : (binOp .eql 48 (.slice none 0 0) (.slice none 0 0)).run Try.prog w = .ok (.bool true) w := by kernel_rfl
set_option maxRecDepth 100000 in
theorem clone1 (w : World) : Calls Try.prog 41 #[.slice none 0 0] w fun e w' => e = .returned (.slice none 0 0) ∧ Kept [] w w' := by
  have EQ := eqlNil1
  go_enter Try.func41, Try.ntmps41
  go_wp2_with fail
  go_ret
  exact ⟨rfl, Kept.refl _ _⟩
theorem eqlNil2 (w : World) : (binOp .eql 49 (.slice none 0 0) (.slice none 0 0)).run Try.prog w = .ok (.bool true) w := by kernel_rfl
set_option maxRecDepth 100000 in
theorem clone2 (w : World) : Calls Try.prog 42 #[.slice none 0 0] w fun e w' => e = .returned (.slice none 0 0) ∧ Kept [] w w' := by
  have EQ := eqlNil2
  go_enter Try.func42, Try.ntmps42
  go_wp2_with fail
  go_ret
  exact ⟨rfl, Kept.refl _ _⟩
theorem eqlNil3 (w : World) : (binOp .eql 53 (.slice none 0 0) (.slice none 0 0)).run Try.prog w = .ok (.bool true) w := by kernel_rfl
set_option maxRecDepth 100000 in
theorem clone3 (w : World) : Calls Try.prog 43 #[.slice none 0 0] w fun e w' => e = .returned (.slice none 0 0) ∧ Kept [] w w' := by
  have EQ := eqlNil3
  go_enter Try.func43, Try.ntmps43
  go_wp2_with fail
  go_ret
  exact ⟨rfl, Kept.refl _ _⟩
end Tg
end Go.Proofs.Ytjogpafbiackbaa
