/- rules: Step, modeIn, Remove, Closes of whatever arguments. -/
import Derived.Test.YteeheapenfklcaaGreatDoorRmc
import Derived.Deep.MidRow
import Derived.Test.YteeheapenfklcaaGreatDoorRu5
namespace Go.Proofs.YteeheapenfklcaaGreatDoor
set_option linter.unusedVariables false
open Go.RowKit Go.Shelf
attribute [local go_sem] Oper.semAt_some
namespace Ru
open Go.Proofs.YteeheapenfklcaaGreatDoor.Utf Go.Proofs.YteeheapenfklcaaGreatDoor.Txt Go.PlainAid Go.Proofs.YteeheapenfklcaaGreatDoor.Mpf Go.Proofs.YteeheapenfklcaaGreatDoor.Us

/-- What a directory leaves of a mode. -/
def modeInV (md pm : Int) : Int := bits .and .u32 pm (bits .or .u32 (bits .or .u32 4294966784 (if bits .and .u32 pm 2147483648 = 0 then 73 else 0)) md)
theorem modeIn_any (w : World) (d : Nd) (pm : Int) : Calls Tryz.prog 65 #[.agg #[.int .u64 d.path, .int .u64 d.parent, .string d.name, .int .u32 d.mode, .string d.uid, .string d.gid, .string d.muid, .int .u32 d.atime, .int .u32 d.mtime, .int .u32 d.vers, .int .u64 d.length, .int .i64 d.opens, .int .i64 d.kids], .int .u32 pm] w fun e w' => e = .returned (.int .u32 (modeInV d.mode pm)) ∧ Kept [] w w' := by
  unfold modeInV
  obtain ⟨b, hb⟩ : ∃ x, bits .and .u32 pm 2147483648 = x := ⟨_, rfl⟩
  rw [hb]
  by_cases h0 : b = 0
  · subst h0
    rw [if_pos rfl]
    go_enter Tryz.func65, Tryz.ntmps65
    go_wp2_with fail
    go_ret
    exact ⟨rfl, (Kept.refl _ _).alloc _⟩
  · have e1 : (b == 0) = false := by simpa using h0
    have e2 : (b != 0) = true := by simp [h0]
    rw [if_neg h0]
    clear h0
    go_enter Tryz.func65, Tryz.ntmps65
    go_wp2_with fail
    go_ret
    exact ⟨rfl, (Kept.refl _ _).alloc _⟩
/-- The error of Step. -/
def stepE (T : List Acc) (u : ByteArray) (d : Nd) : Int := if dirV d = false then 93 else if mayV T u d 1 = false then 90 else 0
theorem size_node9 : (Tryz.prog.info? 46).map (·.size) = some 13 := by kernel_rfl
theorem wpAnyH_one {P : Program} {md : Region.Mode} {ops : Array Oper} {Q : Exit → Act → World → Prop} {S : World → Prop} {fuel : Nat} {listed : Array Bool} {a : Act} {w : World} {i : Nat} (hr : Region.ready md ops listed = [i])
    (h : wpOp P ops Q i (fun a' w' => S w' ∧ wpAnyH P md ops Q S fuel (listed.setIfInBounds i true) a' w') a w) : wpAnyH P md ops Q S (fuel + 1) listed a w :=
  wpAnyH_all hr (by simp) (by
    intro j hj
    obtain rfl : j = i := by simpa using hj
    exact h)
theorem any_skip {P : Program} {ops : Array Oper} {Q : Exit → Act → World → Prop} {K : Act → World → Prop} {a : Act} {w : World} {o : Oper} {i : Nat} (hi : ops[i]? = some o) (hw : Region.wanted o (yielded ops a.tmps) = false) (h : K (a.put o.dst undef) w) : wpOp P ops Q i K a w := by
  unfold wpOp
  rw [hi]
  simp only [hw]
  exact h
/-- The error of Remove. -/
def removeE (T : List Acc) (u : ByteArray) (n p : Nd) : Int := if ((n.path : Int) == 1) = true ∨ mayV T u p 2 = false then 90 else if dirV n = true ∧ 0 < n.kids then 96 else 0
end Ru
end Go.Proofs.YteeheapenfklcaaGreatDoor
