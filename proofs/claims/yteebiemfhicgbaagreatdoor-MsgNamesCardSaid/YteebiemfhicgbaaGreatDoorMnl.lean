/- MsgNames walked, and its row's step: it returns true. It has no input and no condition; the package-level variables that its row lists are never read. -/
import Derived.Test.YteebiemfhicgbaaGreatDoorRows
import Derived.Test.YteebiemfhicgbaaGreatDoorCards
import Derived.Test.YteebiemfhicgbaaGreatDoorTie
import Derived.Test.YteebiemfhicgbaaGreatDoorKnd
import Derived.WalkKit
import Derived.ProofKit
import Derived.LaidMore
import Derived.OpenShut
import Derived.Stop.Joined
import Derived.SevenTiedAt
namespace Go.Proofs.YteebiemfhicgbaaGreatDoor.msgNames
open Go.ChangeShapes Go.WideShapes Go.ChangeAt Go.RowKit Go.WideMaps Go.WideElems
set_option linter.unusedVariables false

theorem own : ownKnob Tryz.prog.godebug = none := by kernel_rfl

/-- What the loop's round asks of the two lists. -/
def Lists (w : World) (b : Nat) : Prop := ∀ i : Nat, i < 28 → w.cell? ⟨b, i, none⟩ = some (.string (nameOf (100 + i))) ∧ w.cell? ⟨b + 1, i, none⟩ = some (.int .u8 ((100 + i : Nat) : Int))
theorem Lists.kept {w w' : World} {b : Nat} (h : Lists w b) (hk : Kept [] w w') : Lists w' b := fun i hi => by
  obtain ⟨h1, h2⟩ := h i hi
  exact ⟨(World.cell?_of_block (hk.block _ (World.block_lt_of_cell? w _ h1) (by simp))).trans h1, (World.cell?_of_block (hk.block _ (World.block_lt_of_cell? w _ h2) (by simp))).trans h2⟩
theorem lists_in : ∀ i : Nat, i < 28 → (#[.string ⟨#[84, 118, 101, 114, 115, 105, 111, 110]⟩, .string ⟨#[82, 118, 101, 114, 115, 105, 111, 110]⟩, .string ⟨#[84, 97, 117, 116, 104]⟩, .string ⟨#[82, 97, 117, 116, 104]⟩, .string ⟨#[84, 97, 116, 116, 97, 99, 104]⟩, .string ⟨#[82, 97, 116, 116, 97, 99, 104]⟩, .string ⟨#[]⟩, .string ⟨#[82, 101, 114, 114, 111, 114]⟩, .string ⟨#[84, 102, 108, 117, 115, 104]⟩, .string ⟨#[82, 102, 108, 117, 115, 104]⟩, .string ⟨#[84, 119, 97, 108, 107]⟩, .string ⟨#[82, 119, 97, 108, 107]⟩, .string ⟨#[84, 111, 112, 101, 110]⟩, .string ⟨#[82, 111, 112, 101, 110]⟩, .string ⟨#[84, 99, 114, 101, 97, 116, 101]⟩, .string ⟨#[82, 99, 114, 101, 97, 116, 101]⟩, .string ⟨#[84, 114, 101, 97, 100]⟩, .string ⟨#[82, 114, 101, 97, 100]⟩, .string ⟨#[84, 119, 114, 105, 116, 101]⟩, .string ⟨#[82, 119, 114, 105, 116, 101]⟩, .string ⟨#[84, 99, 108, 117, 110, 107]⟩, .string ⟨#[82, 99, 108, 117, 110, 107]⟩, .string ⟨#[84, 114, 101, 109, 111, 118, 101]⟩, .string ⟨#[82, 114, 101, 109, 111, 118, 101]⟩, .string ⟨#[84, 115, 116, 97, 116]⟩, .string ⟨#[82, 115, 116, 97, 116]⟩, .string ⟨#[84, 119, 115, 116, 97, 116]⟩, .string ⟨#[82, 119, 115, 116, 97, 116]⟩] : Array Value)[i]? = some (.string (nameOf (100 + i))) ∧ (#[.int .u8 100, .int .u8 101, .int .u8 102, .int .u8 103, .int .u8 104, .int .u8 105, .int .u8 106, .int .u8 107, .int .u8 108, .int .u8 109, .int .u8 110, .int .u8 111, .int .u8 112, .int .u8 113, .int .u8 114, .int .u8 115, .int .u8 116, .int .u8 117, .int .u8 118, .int .u8 119, .int .u8 120, .int .u8 121, .int .u8 122, .int .u8 123, .int .u8 124, .int .u8 125, .int .u8 126, .int .u8 127] : Array Value)[i]? = some (.int .u8 ((100 + i : Nat) : Int)) := by
  intro i h
  match i, h with
  | 0, h => exact ⟨by kernel_rfl, by kernel_rfl⟩
  | 1, h => exact ⟨by kernel_rfl, by kernel_rfl⟩
  | 2, h => exact ⟨by kernel_rfl, by kernel_rfl⟩
  | 3, h => exact ⟨by kernel_rfl, by kernel_rfl⟩
  | 4, h => exact ⟨by kernel_rfl, by kernel_rfl⟩
  | 5, h => exact ⟨by kernel_rfl, by kernel_rfl⟩
  | 6, h => exact ⟨by kernel_rfl, by kernel_rfl⟩
  | 7, h => exact ⟨by kernel_rfl, by kernel_rfl⟩
  | 8, h => exact ⟨by kernel_rfl, by kernel_rfl⟩
  | 9, h => exact ⟨by kernel_rfl, by kernel_rfl⟩
  | 10, h => exact ⟨by kernel_rfl, by kernel_rfl⟩
  | 11, h => exact ⟨by kernel_rfl, by kernel_rfl⟩
  | 12, h => exact ⟨by kernel_rfl, by kernel_rfl⟩
  | 13, h => exact ⟨by kernel_rfl, by kernel_rfl⟩
  | 14, h => exact ⟨by kernel_rfl, by kernel_rfl⟩
  | 15, h => exact ⟨by kernel_rfl, by kernel_rfl⟩
  | 16, h => exact ⟨by kernel_rfl, by kernel_rfl⟩
  | 17, h => exact ⟨by kernel_rfl, by kernel_rfl⟩
  | 18, h => exact ⟨by kernel_rfl, by kernel_rfl⟩
  | 19, h => exact ⟨by kernel_rfl, by kernel_rfl⟩
  | 20, h => exact ⟨by kernel_rfl, by kernel_rfl⟩
  | 21, h => exact ⟨by kernel_rfl, by kernel_rfl⟩
  | 22, h => exact ⟨by kernel_rfl, by kernel_rfl⟩
  | 23, h => exact ⟨by kernel_rfl, by kernel_rfl⟩
  | 24, h => exact ⟨by kernel_rfl, by kernel_rfl⟩
  | 25, h => exact ⟨by kernel_rfl, by kernel_rfl⟩
  | 26, h => exact ⟨by kernel_rfl, by kernel_rfl⟩
  | 27, h => exact ⟨by kernel_rfl, by kernel_rfl⟩
  | n + 28, h => omega
theorem Lists.start (w : World) : Lists ((w.alloc (.cells #[.string ⟨#[84, 118, 101, 114, 115, 105, 111, 110]⟩, .string ⟨#[82, 118, 101, 114, 115, 105, 111, 110]⟩, .string ⟨#[84, 97, 117, 116, 104]⟩, .string ⟨#[82, 97, 117, 116, 104]⟩, .string ⟨#[84, 97, 116, 116, 97, 99, 104]⟩, .string ⟨#[82, 97, 116, 116, 97, 99, 104]⟩, .string ⟨#[]⟩, .string ⟨#[82, 101, 114, 114, 111, 114]⟩, .string ⟨#[84, 102, 108, 117, 115, 104]⟩, .string ⟨#[82, 102, 108, 117, 115, 104]⟩, .string ⟨#[84, 119, 97, 108, 107]⟩, .string ⟨#[82, 119, 97, 108, 107]⟩, .string ⟨#[84, 111, 112, 101, 110]⟩, .string ⟨#[82, 111, 112, 101, 110]⟩, .string ⟨#[84, 99, 114, 101, 97, 116, 101]⟩, .string ⟨#[82, 99, 114, 101, 97, 116, 101]⟩, .string ⟨#[84, 114, 101, 97, 100]⟩, .string ⟨#[82, 114, 101, 97, 100]⟩, .string ⟨#[84, 119, 114, 105, 116, 101]⟩, .string ⟨#[82, 119, 114, 105, 116, 101]⟩, .string ⟨#[84, 99, 108, 117, 110, 107]⟩, .string ⟨#[82, 99, 108, 117, 110, 107]⟩, .string ⟨#[84, 114, 101, 109, 111, 118, 101]⟩, .string ⟨#[82, 114, 101, 109, 111, 118, 101]⟩, .string ⟨#[84, 115, 116, 97, 116]⟩, .string ⟨#[82, 115, 116, 97, 116]⟩, .string ⟨#[84, 119, 115, 116, 97, 116]⟩, .string ⟨#[82, 119, 115, 116, 97, 116]⟩] 9 (0, 0))).alloc (.cells #[.int .u8 100, .int .u8 101, .int .u8 102, .int .u8 103, .int .u8 104, .int .u8 105, .int .u8 106, .int .u8 107, .int .u8 108, .int .u8 109, .int .u8 110, .int .u8 111, .int .u8 112, .int .u8 113, .int .u8 114, .int .u8 115, .int .u8 116, .int .u8 117, .int .u8 118, .int .u8 119, .int .u8 120, .int .u8 121, .int .u8 122, .int .u8 123, .int .u8 124, .int .u8 125, .int .u8 126, .int .u8 127] 23 (0, 0))) w.heap.size := fun i hi => by
  obtain ⟨h1, h2⟩ := lists_in i hi
  have b1 : ((w.alloc (.cells #[.string ⟨#[84, 118, 101, 114, 115, 105, 111, 110]⟩, .string ⟨#[82, 118, 101, 114, 115, 105, 111, 110]⟩, .string ⟨#[84, 97, 117, 116, 104]⟩, .string ⟨#[82, 97, 117, 116, 104]⟩, .string ⟨#[84, 97, 116, 116, 97, 99, 104]⟩, .string ⟨#[82, 97, 116, 116, 97, 99, 104]⟩, .string ⟨#[]⟩, .string ⟨#[82, 101, 114, 114, 111, 114]⟩, .string ⟨#[84, 102, 108, 117, 115, 104]⟩, .string ⟨#[82, 102, 108, 117, 115, 104]⟩, .string ⟨#[84, 119, 97, 108, 107]⟩, .string ⟨#[82, 119, 97, 108, 107]⟩, .string ⟨#[84, 111, 112, 101, 110]⟩, .string ⟨#[82, 111, 112, 101, 110]⟩, .string ⟨#[84, 99, 114, 101, 97, 116, 101]⟩, .string ⟨#[82, 99, 114, 101, 97, 116, 101]⟩, .string ⟨#[84, 114, 101, 97, 100]⟩, .string ⟨#[82, 114, 101, 97, 100]⟩, .string ⟨#[84, 119, 114, 105, 116, 101]⟩, .string ⟨#[82, 119, 114, 105, 116, 101]⟩, .string ⟨#[84, 99, 108, 117, 110, 107]⟩, .string ⟨#[82, 99, 108, 117, 110, 107]⟩, .string ⟨#[84, 114, 101, 109, 111, 118, 101]⟩, .string ⟨#[82, 114, 101, 109, 111, 118, 101]⟩, .string ⟨#[84, 115, 116, 97, 116]⟩, .string ⟨#[82, 115, 116, 97, 116]⟩, .string ⟨#[84, 119, 115, 116, 97, 116]⟩, .string ⟨#[82, 119, 115, 116, 97, 116]⟩] 9 (0, 0))).alloc (.cells #[.int .u8 100, .int .u8 101, .int .u8 102, .int .u8 103, .int .u8 104, .int .u8 105, .int .u8 106, .int .u8 107, .int .u8 108, .int .u8 109, .int .u8 110, .int .u8 111, .int .u8 112, .int .u8 113, .int .u8 114, .int .u8 115, .int .u8 116, .int .u8 117, .int .u8 118, .int .u8 119, .int .u8 120, .int .u8 121, .int .u8 122, .int .u8 123, .int .u8 124, .int .u8 125, .int .u8 126, .int .u8 127] 23 (0, 0))).heap[w.heap.size]? = some (.cells #[.string ⟨#[84, 118, 101, 114, 115, 105, 111, 110]⟩, .string ⟨#[82, 118, 101, 114, 115, 105, 111, 110]⟩, .string ⟨#[84, 97, 117, 116, 104]⟩, .string ⟨#[82, 97, 117, 116, 104]⟩, .string ⟨#[84, 97, 116, 116, 97, 99, 104]⟩, .string ⟨#[82, 97, 116, 116, 97, 99, 104]⟩, .string ⟨#[]⟩, .string ⟨#[82, 101, 114, 114, 111, 114]⟩, .string ⟨#[84, 102, 108, 117, 115, 104]⟩, .string ⟨#[82, 102, 108, 117, 115, 104]⟩, .string ⟨#[84, 119, 97, 108, 107]⟩, .string ⟨#[82, 119, 97, 108, 107]⟩, .string ⟨#[84, 111, 112, 101, 110]⟩, .string ⟨#[82, 111, 112, 101, 110]⟩, .string ⟨#[84, 99, 114, 101, 97, 116, 101]⟩, .string ⟨#[82, 99, 114, 101, 97, 116, 101]⟩, .string ⟨#[84, 114, 101, 97, 100]⟩, .string ⟨#[82, 114, 101, 97, 100]⟩, .string ⟨#[84, 119, 114, 105, 116, 101]⟩, .string ⟨#[82, 119, 114, 105, 116, 101]⟩, .string ⟨#[84, 99, 108, 117, 110, 107]⟩, .string ⟨#[82, 99, 108, 117, 110, 107]⟩, .string ⟨#[84, 114, 101, 109, 111, 118, 101]⟩, .string ⟨#[82, 114, 101, 109, 111, 118, 101]⟩, .string ⟨#[84, 115, 116, 97, 116]⟩, .string ⟨#[82, 115, 116, 97, 116]⟩, .string ⟨#[84, 119, 115, 116, 97, 116]⟩, .string ⟨#[82, 119, 115, 116, 97, 116]⟩] 9 (0, 0)) := (((Kept.refl [] (w.alloc (.cells #[.string ⟨#[84, 118, 101, 114, 115, 105, 111, 110]⟩, .string ⟨#[82, 118, 101, 114, 115, 105, 111, 110]⟩, .string ⟨#[84, 97, 117, 116, 104]⟩, .string ⟨#[82, 97, 117, 116, 104]⟩, .string ⟨#[84, 97, 116, 116, 97, 99, 104]⟩, .string ⟨#[82, 97, 116, 116, 97, 99, 104]⟩, .string ⟨#[]⟩, .string ⟨#[82, 101, 114, 114, 111, 114]⟩, .string ⟨#[84, 102, 108, 117, 115, 104]⟩, .string ⟨#[82, 102, 108, 117, 115, 104]⟩, .string ⟨#[84, 119, 97, 108, 107]⟩, .string ⟨#[82, 119, 97, 108, 107]⟩, .string ⟨#[84, 111, 112, 101, 110]⟩, .string ⟨#[82, 111, 112, 101, 110]⟩, .string ⟨#[84, 99, 114, 101, 97, 116, 101]⟩, .string ⟨#[82, 99, 114, 101, 97, 116, 101]⟩, .string ⟨#[84, 114, 101, 97, 100]⟩, .string ⟨#[82, 114, 101, 97, 100]⟩, .string ⟨#[84, 119, 114, 105, 116, 101]⟩, .string ⟨#[82, 119, 114, 105, 116, 101]⟩, .string ⟨#[84, 99, 108, 117, 110, 107]⟩, .string ⟨#[82, 99, 108, 117, 110, 107]⟩, .string ⟨#[84, 114, 101, 109, 111, 118, 101]⟩, .string ⟨#[82, 114, 101, 109, 111, 118, 101]⟩, .string ⟨#[84, 115, 116, 97, 116]⟩, .string ⟨#[82, 115, 116, 97, 116]⟩, .string ⟨#[84, 119, 115, 116, 97, 116]⟩, .string ⟨#[82, 119, 115, 116, 97, 116]⟩] 9 (0, 0)))).alloc _).block _ (by simp) (by simp)).trans (heap_alloc_new w _)
  have b2 : ((w.alloc (.cells #[.string ⟨#[84, 118, 101, 114, 115, 105, 111, 110]⟩, .string ⟨#[82, 118, 101, 114, 115, 105, 111, 110]⟩, .string ⟨#[84, 97, 117, 116, 104]⟩, .string ⟨#[82, 97, 117, 116, 104]⟩, .string ⟨#[84, 97, 116, 116, 97, 99, 104]⟩, .string ⟨#[82, 97, 116, 116, 97, 99, 104]⟩, .string ⟨#[]⟩, .string ⟨#[82, 101, 114, 114, 111, 114]⟩, .string ⟨#[84, 102, 108, 117, 115, 104]⟩, .string ⟨#[82, 102, 108, 117, 115, 104]⟩, .string ⟨#[84, 119, 97, 108, 107]⟩, .string ⟨#[82, 119, 97, 108, 107]⟩, .string ⟨#[84, 111, 112, 101, 110]⟩, .string ⟨#[82, 111, 112, 101, 110]⟩, .string ⟨#[84, 99, 114, 101, 97, 116, 101]⟩, .string ⟨#[82, 99, 114, 101, 97, 116, 101]⟩, .string ⟨#[84, 114, 101, 97, 100]⟩, .string ⟨#[82, 114, 101, 97, 100]⟩, .string ⟨#[84, 119, 114, 105, 116, 101]⟩, .string ⟨#[82, 119, 114, 105, 116, 101]⟩, .string ⟨#[84, 99, 108, 117, 110, 107]⟩, .string ⟨#[82, 99, 108, 117, 110, 107]⟩, .string ⟨#[84, 114, 101, 109, 111, 118, 101]⟩, .string ⟨#[82, 114, 101, 109, 111, 118, 101]⟩, .string ⟨#[84, 115, 116, 97, 116]⟩, .string ⟨#[82, 115, 116, 97, 116]⟩, .string ⟨#[84, 119, 115, 116, 97, 116]⟩, .string ⟨#[82, 119, 115, 116, 97, 116]⟩] 9 (0, 0))).alloc (.cells #[.int .u8 100, .int .u8 101, .int .u8 102, .int .u8 103, .int .u8 104, .int .u8 105, .int .u8 106, .int .u8 107, .int .u8 108, .int .u8 109, .int .u8 110, .int .u8 111, .int .u8 112, .int .u8 113, .int .u8 114, .int .u8 115, .int .u8 116, .int .u8 117, .int .u8 118, .int .u8 119, .int .u8 120, .int .u8 121, .int .u8 122, .int .u8 123, .int .u8 124, .int .u8 125, .int .u8 126, .int .u8 127] 23 (0, 0))).heap[w.heap.size + 1]? = some (.cells #[.int .u8 100, .int .u8 101, .int .u8 102, .int .u8 103, .int .u8 104, .int .u8 105, .int .u8 106, .int .u8 107, .int .u8 108, .int .u8 109, .int .u8 110, .int .u8 111, .int .u8 112, .int .u8 113, .int .u8 114, .int .u8 115, .int .u8 116, .int .u8 117, .int .u8 118, .int .u8 119, .int .u8 120, .int .u8 121, .int .u8 122, .int .u8 123, .int .u8 124, .int .u8 125, .int .u8 126, .int .u8 127] 23 (0, 0)) := by
    have := heap_alloc_new (w.alloc (.cells #[.string ⟨#[84, 118, 101, 114, 115, 105, 111, 110]⟩, .string ⟨#[82, 118, 101, 114, 115, 105, 111, 110]⟩, .string ⟨#[84, 97, 117, 116, 104]⟩, .string ⟨#[82, 97, 117, 116, 104]⟩, .string ⟨#[84, 97, 116, 116, 97, 99, 104]⟩, .string ⟨#[82, 97, 116, 116, 97, 99, 104]⟩, .string ⟨#[]⟩, .string ⟨#[82, 101, 114, 114, 111, 114]⟩, .string ⟨#[84, 102, 108, 117, 115, 104]⟩, .string ⟨#[82, 102, 108, 117, 115, 104]⟩, .string ⟨#[84, 119, 97, 108, 107]⟩, .string ⟨#[82, 119, 97, 108, 107]⟩, .string ⟨#[84, 111, 112, 101, 110]⟩, .string ⟨#[82, 111, 112, 101, 110]⟩, .string ⟨#[84, 99, 114, 101, 97, 116, 101]⟩, .string ⟨#[82, 99, 114, 101, 97, 116, 101]⟩, .string ⟨#[84, 114, 101, 97, 100]⟩, .string ⟨#[82, 114, 101, 97, 100]⟩, .string ⟨#[84, 119, 114, 105, 116, 101]⟩, .string ⟨#[82, 119, 114, 105, 116, 101]⟩, .string ⟨#[84, 99, 108, 117, 110, 107]⟩, .string ⟨#[82, 99, 108, 117, 110, 107]⟩, .string ⟨#[84, 114, 101, 109, 111, 118, 101]⟩, .string ⟨#[82, 114, 101, 109, 111, 118, 101]⟩, .string ⟨#[84, 115, 116, 97, 116]⟩, .string ⟨#[82, 115, 116, 97, 116]⟩, .string ⟨#[84, 119, 115, 116, 97, 116]⟩, .string ⟨#[82, 119, 115, 116, 97, 116]⟩] 9 (0, 0))) (.cells #[.int .u8 100, .int .u8 101, .int .u8 102, .int .u8 103, .int .u8 104, .int .u8 105, .int .u8 106, .int .u8 107, .int .u8 108, .int .u8 109, .int .u8 110, .int .u8 111, .int .u8 112, .int .u8 113, .int .u8 114, .int .u8 115, .int .u8 116, .int .u8 117, .int .u8 118, .int .u8 119, .int .u8 120, .int .u8 121, .int .u8 122, .int .u8 123, .int .u8 124, .int .u8 125, .int .u8 126, .int .u8 127] 23 (0, 0))
    rwa [World.size_alloc] at this
  exact ⟨by rw [cell_of_row _ _ _ _ 9 (0, 0) b1]; exact h1, by rw [cell_of_row _ _ _ _ 23 (0, 0) b2]; exact h2⟩

set_option maxHeartbeats 2000000 in
set_option maxRecDepth 100000 in
theorem walk (w : World) : Calls Tryz.prog 3 #[] w fun e w' => e = .returned (.bool true) ∧ Below w.heap.size w w' := by
  have L0 := Lib.hid (Lists.start w)
  have K0 : Hid (Kept [] w ((w.alloc (.cells #[.string ⟨#[84, 118, 101, 114, 115, 105, 111, 110]⟩, .string ⟨#[82, 118, 101, 114, 115, 105, 111, 110]⟩, .string ⟨#[84, 97, 117, 116, 104]⟩, .string ⟨#[82, 97, 117, 116, 104]⟩, .string ⟨#[84, 97, 116, 116, 97, 99, 104]⟩, .string ⟨#[82, 97, 116, 116, 97, 99, 104]⟩, .string ⟨#[]⟩, .string ⟨#[82, 101, 114, 114, 111, 114]⟩, .string ⟨#[84, 102, 108, 117, 115, 104]⟩, .string ⟨#[82, 102, 108, 117, 115, 104]⟩, .string ⟨#[84, 119, 97, 108, 107]⟩, .string ⟨#[82, 119, 97, 108, 107]⟩, .string ⟨#[84, 111, 112, 101, 110]⟩, .string ⟨#[82, 111, 112, 101, 110]⟩, .string ⟨#[84, 99, 114, 101, 97, 116, 101]⟩, .string ⟨#[82, 99, 114, 101, 97, 116, 101]⟩, .string ⟨#[84, 114, 101, 97, 100]⟩, .string ⟨#[82, 114, 101, 97, 100]⟩, .string ⟨#[84, 119, 114, 105, 116, 101]⟩, .string ⟨#[82, 119, 114, 105, 116, 101]⟩, .string ⟨#[84, 99, 108, 117, 110, 107]⟩, .string ⟨#[82, 99, 108, 117, 110, 107]⟩, .string ⟨#[84, 114, 101, 109, 111, 118, 101]⟩, .string ⟨#[82, 114, 101, 109, 111, 118, 101]⟩, .string ⟨#[84, 115, 116, 97, 116]⟩, .string ⟨#[82, 115, 116, 97, 116]⟩, .string ⟨#[84, 119, 115, 116, 97, 116]⟩, .string ⟨#[82, 119, 115, 116, 97, 116]⟩] 9 (0, 0))).alloc (.cells #[.int .u8 100, .int .u8 101, .int .u8 102, .int .u8 103, .int .u8 104, .int .u8 105, .int .u8 106, .int .u8 107, .int .u8 108, .int .u8 109, .int .u8 110, .int .u8 111, .int .u8 112, .int .u8 113, .int .u8 114, .int .u8 115, .int .u8 116, .int .u8 117, .int .u8 118, .int .u8 119, .int .u8 120, .int .u8 121, .int .u8 122, .int .u8 123, .int .u8 124, .int .u8 125, .int .u8 126, .int .u8 127] 23 (0, 0)))) := ((Kept.refl [] w).alloc _).alloc _
  go_enter Tryz.func3, Tryz.ntmps3
  go_wp2_with fail
  go_loopw [3] (fun iv wr => ∃ i : Nat, i ≤ 28 ∧ iv = .int .i64 i ∧ Hid (Lists wr w.heap.size) ∧ Hid (Kept [] w wr)) (fun iv _ => 28 - (intOf iv).toNat)
  case atStart => exact ⟨0, by omega, rfl, L0, K0⟩
  case round =>
    obtain ⟨i, hi, rfl, hL, hK⟩ := hrel
    clear L0 K0
    by_cases hlt : i < 28
    · have hlt' : (i : Int) < 28 := by omega
      have YteebiemfhicgbaaGreatDoor := fun (w1 : World) => Knd.name_any w1 (100 + (i : Int)) (100 + i) (by omega)
      obtain ⟨c1, c2⟩ := hL.out i hlt
      rw [show ((100 + i : Nat) : Int) = 100 + (i : Int) by omega] at c2
      obtain ⟨s, hs⟩ : ∃ s, s = nameOf (100 + i) := ⟨_, rfl⟩
      rw [← hs] at YteebiemfhicgbaaGreatDoor c1
      have YteebiemfhicgbaaGreatDoorh := Lib.hid YteebiemfhicgbaaGreatDoor
      clear YteebiemfhicgbaaGreatDoor hs
      go_wp2_with fail
      refine (YteebiemfhicgbaaGreatDoorh.out _).mono ?_
      rintro e w2 ⟨rfl, k2⟩
      have L2 := Lib.hid (hL.out.kept k2)
      have K2 : Hid (Kept [] w w2) := hK.out.trans k2 (fun i hi => by simp at hi)
      have d1 := (World.cell?_of_block (k2.block _ (World.block_lt_of_cell? wr _ c1) (by simp))).trans c1
      have d2 := (World.cell?_of_block (k2.block _ (World.block_lt_of_cell? wr _ c2) (by simp))).trans c2
      clear k2 c1 c2 YteebiemfhicgbaaGreatDoorh
      go_wp2_with fail
      go_roundw
      case rel => exact ⟨i + 1, by omega, by go_num, L2, K2⟩
      case measure => simp [intOf]; omega
    · have hi28 : i = 28 := by omega
      subst hi28
      have K3 : Hid (Kept [] w (wr.alloc (.cells #[.int .i64 30, .int .i64 31, .int .i64 32, .int .i64 33, .int .i64 34] 26 (0, 0)))) := hK.out.alloc _
      go_wp2_with fail
      go_loopw [6] (fun iv wz => ∃ i : Nat, i ≤ 5 ∧ iv = .int .i64 i ∧ wz = wr.alloc (.cells #[.int .i64 30, .int .i64 31, .int .i64 32, .int .i64 33, .int .i64 34] 26 (0, 0))) (fun iv _ => 5 - (intOf iv).toNat)
      case atStart => exact ⟨0, by omega, rfl, rfl⟩
      case round =>
        obtain ⟨i, hi, rfl, rfl⟩ := hrel
        obtain rfl | rfl | rfl | rfl | rfl | rfl : i = 0 ∨ i = 1 ∨ i = 2 ∨ i = 3 ∨ i = 4 ∨ i = 5 := by omega
        all_goals go_wp2_with fail
        · exact ⟨⟨1, by omega, rfl, trivial⟩, by decide⟩
        · exact ⟨⟨2, by omega, rfl, trivial⟩, by decide⟩
        · exact ⟨⟨3, by omega, rfl, trivial⟩, by decide⟩
        · exact ⟨⟨4, by omega, rfl, trivial⟩, by decide⟩
        · exact ⟨⟨5, by omega, rfl, trivial⟩, by decide⟩
        · go_ret
          exact ⟨rfl, K3.out.below (fun i hi => by simp at hi) (Nat.le_refl _)⟩

/-! ### THE ROW: what it lists stands as the door's own run leaves it -/
def laid5 : List (String × DataW Unit) := [("math/bits.deBruijn32tab", Rows.laid_math_bits_deBruijn32tab), ("math/bits.deBruijn64tab", Rows.laid_math_bits_deBruijn64tab), ("internal/strconv.uint64pow10", Rows.laid_internal_strconv_uint64pow10), ("strconv.ErrRange", Rows.laid_strconv_ErrRange), ("strconv.ErrSyntax", Rows.laid_strconv_ErrSyntax)]
theorem door_met (os : Os) (args : Array Value) : laidMetH Tryz.prog laid5 ((World.doorLaid Tryz.prog 400 os).forCall (fun _ _ => 0) ⟨#[], args, []⟩).memory :=
  laidMetH_of_parts3 (fuel := 8) (laidMet_of_run' 8 (by kernel_rfl) (by kernel_rfl)) (by kernel_rfl) (by kernel_rfl)

set_option maxRecDepth 100000 in
theorem lifted (os : Os) (started : os.Started) (H : Type) (enc : TypeId × Value → H) :
    ReturnsInHanded {} Tryz.checked os 3 .any (fun w args => (Rows.msgNamesSpec.pre enc Tryz.prog Tryz.f3 [] false w args ∧ laidMetH Tryz.prog laid5 w) ∧ sizedMet enc Tryz.prog Tryz.f3 (OpenSpec.ofChange Rows.msgNamesSpec) false w args)
      (Rows.msgNamesSpec.post enc Tryz.prog Tryz.f3 false true false false) := by
  refine returnsInHanded_of_change_and (C := Tryz.checked) (X := fun w _ => laidMetH Tryz.prog laid5 w) (fun _ _ _ hh h => h.of_heap hh) own started (by kernel_rfl) Tryz.func3
    (ChangeSpec.witness_shaped (enc := enc) (C := Tryz.checked) (os := os) (X := fun w _ => laidMetH Tryz.prog laid5 w) false (World.doorLaid Tryz.prog 400 os) #[] 8 rfl (World.shaped_of_RefB (by kernel_rfl) (by kernel_rfl)) (by kernel_rfl) (by kernel_rfl) (by kernel_rfl) (door_met os _)) ?_
  intro W base args ds gs before hval0 hW _ _ hL _
  have hW' := hW
  obtain ⟨p, q, hA0, hV, rfl, hfz, hnd⟩ := hW
  have hA : DataW.TrodAll enc Tryz.prog W 0 (fun _ => true) true Tryz.f3.params.toList args.toList ds p := hA0
  rw [Tryz.params3] at hA
  obtain ⟨rfl, rfl, rfl⟩ := trodAll_none hA
  obtain ⟨rfl, rfl⟩ := trodVars_none hV
  clear hA0 hval0
  simp only [List.append_nil] at hW'
  refine (walk W).mono fun e W' ⟨he, hg⟩ => ?_
  subst he
  exact ⟨_, rfl, _, _, _, [], [], [], hW', trodAll_mk1 (shut_bool Tryz.underlying4 _), trodAll_mk0, rfl, hg.frame _, fun h => by cases h⟩

end Go.Proofs.YteebiemfhicgbaaGreatDoor.msgNames
