/- locks: the law's sameInts, one; the example's states; known; LocksNames walked. -/
import Derived.Test.YtpiiccomkfcifaaLkk
namespace Go.Proofs.Ytpiiccomkfcifaa
set_option linter.unusedVariables false
open Go.RowKit
namespace Lk
open Go.Proofs.Ytpiiccomkfcifaa.Mpf Go.PlainAid
set_option maxHeartbeats 4000000 in
set_option maxRecDepth 100000 in
theorem same_any {w : World} {l : List Nat} {g1 g2 c1 c2 : Nat} (h1 : Nu w (.slice (some ⟨g1, 0, none⟩) l.length c1) l) (h2 : Nu w (.slice (some ⟨g2, 0, none⟩) l.length c2) l) (hl : l.length ≤ 1000) :
    Calls Try.prog 15 #[.slice (some ⟨g1, 0, none⟩) l.length c1, .slice (some ⟨g2, 0, none⟩) l.length c2] w fun e w' => e = .returned (.bool true) ∧ Kept [] w w' := by
  have CE : ∀ {g c : Nat}, Nu w (.slice (some ⟨g, 0, none⟩) l.length c) l → ∀ w', Kept [] w w' → ∀ j (hj : j < l.length), w'.cell? ⟨g, j, none⟩ = some (.int .i64 l[j]) := fun {g c} h w' k j hj => by
    obtain ⟨g', c', cur, e, hg, -, -, r⟩ := h.kept k
    cases e
    rw [cell_of_row w' g j cur _ (0, 0) hg]
    exact r j _ (List.getElem?_eq_getElem hj)
  have C1 := Lib.hid (CE h1)
  have C2 := Lib.hid (CE h2)
  clear h1 h2 CE
  go_enter Try.func15, Try.ntmps15
  go_wp2_with fail
  go_loopw [5] (fun iv wr => ∃ j : Nat, iv = .int .i64 j ∧ j ≤ l.length ∧ Hid (Kept [] w wr)) (fun iv _ => l.length - (intOf iv).toNat)
  case atStart => exact ⟨0, rfl, Nat.zero_le _, Kept.refl _ _⟩
  case round =>
    obtain ⟨j, rfl, hj, KJ⟩ := hrel
    by_cases hlt : j < l.length
    · have j1 : (j : Int) < (l.length : Int) := by omega
      have x1 := C1.out wr KJ.out j hlt
      have x2 := C2.out wr KJ.out j hlt
      obtain ⟨x, hx⟩ : ∃ x, x = l[j] := ⟨_, rfl⟩
      rw [← hx] at x1 x2
      have KD : Hid (Kept [] w wr.drew) := KJ.out.drew
      clear hx
      go_wp2_with fail
      go_region
      go_wp2_with fail
      go_roundw
      case rel => exact ⟨j + 1, by go_num, by omega, KD⟩
      case measure => simp [intOf]; omega
    · have j1 : ¬ (j : Int) < (l.length : Int) := by omega
      go_wp2_with fail
      go_ret
      exact ⟨rfl, KJ.out⟩
theorem one_any (w : World) : Calls Try.prog 18 #[.int .i64 5] w fun e w' => e = .returned aV ∧ Kept [] w w' := by
  have K1 : Hid (Kept [] w (w.alloc (.cells #[.int .u8 3, .int .i64 0, .int .u64 5] 26))) := (Kept.refl _ _).alloc _
  have B1 : Bx (w.alloc (.cells #[.int .u8 3, .int .i64 0, .int .u64 5] 26)) w.heap.size 26 #[.int .u8 3, .int .i64 0, .int .u64 5] := Bx.made _ _ _
  have hl := run_loadVar_row (P := Try.prog) _ w.heap.size 26 26 _ (0, 0) _ B1 Try.underlying26 rfl (by kernel_rfl)
  clear B1
  go_enter Try.func18, Try.ntmps18
  go_wp2_with fail
  refine bodyPost_ret (v := aV) (by simp [results, Try.results18, asAddr, hl]; rfl) rfl ⟨rfl, K1.out⟩
end Lk
end Go.Proofs.Ytpiiccomkfcifaa
