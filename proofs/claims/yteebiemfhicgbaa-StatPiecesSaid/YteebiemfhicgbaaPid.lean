/- What StatPieces' walk asks: numbers that come in, sizes, rows. -/
import Derived.Test.YteebiemfhicgbaaPwl
namespace Go.Proofs.Yteebiemfhicgbaa
set_option linter.unusedVariables false
open Go.RowKit
/-- A list of numbers that can be read. -/
def InInts (w : World) (v : Value) (xs : List Int) (T : List Nat) : Prop := ∃ a c, v = .slice a xs.length c ∧ (0 < xs.length → ∃ g o, a = some ⟨g, o, none⟩ ∧ g ∈ T ∧ ∀ (i : Nat) (x : Int), xs[i]? = some x → w.cell? ⟨g, o + i, none⟩ = some (.int .i64 x))
def lenOf : Value → Nat
  | .slice _ n _ => n
  | _ => 0
theorem size_of_one (M : Nat) (y : Int) (hM : M ≤ 65537) : ∃ room : Nat, wrap64 ((M : Int) + wrap64 ((IntKind.u16.wrap y).tmod 1000)) = room ∧ M ≤ room ∧ room ≤ 70000 := by
  have h0 : 0 ≤ IntKind.u16.wrap y ∧ IntKind.u16.wrap y < 65536 := by
    simp [IntKind.wrap, IntKind.bits, IntKind.signed] 
    omega
  obtain ⟨q, hq⟩ : ∃ q : Nat, IntKind.u16.wrap y = q := ⟨(IntKind.u16.wrap y).toNat, by omega⟩
  have e1 : (IntKind.u16.wrap y).tmod 1000 = ((q % 1000 : Nat) : Int) := by
    rw [hq, Int.tmod_eq_emod_of_nonneg (by omega)]
    rfl
  rw [e1]
  have hlt : q % 1000 < 1000 := Nat.mod_lt _ (by decide)
  generalize q % 1000 = z at hlt
  refine ⟨M + z, ?_, by omega, by omega⟩
  unfold wrap64
  omega
theorem cells_one : ∀ (l : List Rec), ∀ u ∈ rowl l, u.oneCell' = true
  | [], u, h => by cases h
  | s :: l, u, h => by
    rcases List.mem_append.1 h with h | h
    · simp [Rec.cells] at h
      rcases h with rfl | rfl | rfl | rfl | rfl | rfl | rfl | rfl | rfl | rfl | rfl | rfl | rfl <;> rfl
    · exact cells_one l u h
theorem RowAt0 {w4 w5 : World} {base n cap g : Nat} {l : List Rec} (h : w4.ownsRow base 30 13 (.slice (some ⟨g, 0, none⟩) n cap) n (rowl l)) (hk : Kept [] w4 w5) (m : Nat) : RowAt w5 g (m * 13) (l.drop m) := by
  have h1 := (RowAt.of (ownsRow_kept h hk (fun k e hm => by simp at hm))).drop m
  rwa [Nat.zero_add] at h1
theorem rowl_one (s : Rec) : rowl [s] = s.cells.toList := by
  show s.cells.toList ++ [] = _
  rw [List.append_nil]
end Go.Proofs.Yteebiemfhicgbaa
