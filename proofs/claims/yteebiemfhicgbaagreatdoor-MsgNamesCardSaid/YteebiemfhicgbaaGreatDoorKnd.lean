/- The kinds' names: the table, and Name. -/
import Derived.Test.YteebiemfhicgbaaGreatDoorKept
import Derived.Laws.EntriesVeiled
import Derived.WalkKit
import Derived.Lib.Hide
import Derived.Handy
import Derived.PlainAid
import Derived.Test.YteebiemfhicgbaaGreatDoorProg
namespace Go.Proofs.YteebiemfhicgbaaGreatDoor
set_option linter.unusedVariables false
open Go.RowKit

/-- The table of kinds: numbers, names. -/
def kn : List (Nat × ByteArray) := [(100, ⟨#[84, 118, 101, 114, 115, 105, 111, 110]⟩), (101, ⟨#[82, 118, 101, 114, 115, 105, 111, 110]⟩), (102, ⟨#[84, 97, 117, 116, 104]⟩), (103, ⟨#[82, 97, 117, 116, 104]⟩), (104, ⟨#[84, 97, 116, 116, 97, 99, 104]⟩), (105, ⟨#[82, 97, 116, 116, 97, 99, 104]⟩), (107, ⟨#[82, 101, 114, 114, 111, 114]⟩), (108, ⟨#[84, 102, 108, 117, 115, 104]⟩), (109, ⟨#[82, 102, 108, 117, 115, 104]⟩), (110, ⟨#[84, 119, 97, 108, 107]⟩), (111, ⟨#[82, 119, 97, 108, 107]⟩), (112, ⟨#[84, 111, 112, 101, 110]⟩), (113, ⟨#[82, 111, 112, 101, 110]⟩), (114, ⟨#[84, 99, 114, 101, 97, 116, 101]⟩), (115, ⟨#[82, 99, 114, 101, 97, 116, 101]⟩), (116, ⟨#[84, 114, 101, 97, 100]⟩), (117, ⟨#[82, 114, 101, 97, 100]⟩), (118, ⟨#[84, 119, 114, 105, 116, 101]⟩), (119, ⟨#[82, 119, 114, 105, 116, 101]⟩), (120, ⟨#[84, 99, 108, 117, 110, 107]⟩), (121, ⟨#[82, 99, 108, 117, 110, 107]⟩), (122, ⟨#[84, 114, 101, 109, 111, 118, 101]⟩), (123, ⟨#[82, 114, 101, 109, 111, 118, 101]⟩), (124, ⟨#[84, 115, 116, 97, 116]⟩), (125, ⟨#[82, 115, 116, 97, 116]⟩), (126, ⟨#[84, 119, 115, 116, 97, 116]⟩), (127, ⟨#[82, 119, 115, 116, 97, 116]⟩)]
def nameFrom (i k : Nat) : ByteArray := match (kn.drop i).find? (fun p => p.1 == k) with | some p => p.2 | none => ⟨#[]⟩
def nameOf (k : Nat) : ByteArray := nameFrom 0 k
theorem nameFrom_at {i k : Nat} {p : Nat × ByteArray} (h : kn[i]? = some p) : nameFrom i k = if p.1 = k then p.2 else nameFrom (i + 1) k := by
  unfold nameFrom
  obtain ⟨hl, he⟩ := List.getElem?_eq_some_iff.1 h
  rw [List.drop_eq_getElem_cons hl, List.find?_cons, he]
  by_cases hk : p.1 = k
  · have e : (p.1 == k) = true := by rw [beq_iff_eq]; exact hk
    rw [if_pos hk, e]
  · have e : (p.1 == k) = false := by rw [beq_eq_false_iff_ne]; exact hk
    rw [if_neg hk, e]
theorem nameFrom_end (k : Nat) : nameFrom 27 k = ⟨#[]⟩ := rfl
/-- The table's rows in memory. -/
def RowsAt (w : World) (g : Nat) : Prop := ∀ (i : Nat) (p : Nat × ByteArray), kn[i]? = some p → ∃ a n c, w.cell? ⟨g, i * 3, none⟩ = some (.int .u8 p.1) ∧ w.cell? ⟨g, i * 3 + 1, none⟩ = some (.string p.2) ∧ w.cell? ⟨g, i * 3 + 2, none⟩ = some (.slice a n c)
theorem RowsAt.kept {w w' : World} {g : Nat} (h : RowsAt w g) (hk : Kept [] w w') : RowsAt w' g := fun i p hp => by
  obtain ⟨a, n, c, h1, h2, h3⟩ := h i p hp
  exact ⟨a, n, c, (World.cell?_of_block (hk.block _ (World.block_lt_of_cell? w _ h1) (by simp))).trans h1, (World.cell?_of_block (hk.block _ (World.block_lt_of_cell? w _ h2) (by simp))).trans h2, (World.cell?_of_block (hk.block _ (World.block_lt_of_cell? w _ h3) (by simp))).trans h3⟩
theorem RowsAt.of {w : World} {g : Nat} {cs : Array Value} {t : TypeId} (hb : w.heap[g]? = some (.cells cs t (0, 0))) (h : ∀ (i : Nat) (p : Nat × ByteArray), kn[i]? = some p → ∃ a n c, cs[i * 3]? = some (.int .u8 p.1) ∧ cs[i * 3 + 1]? = some (.string p.2) ∧ cs[i * 3 + 2]? = some (.slice a n c)) : RowsAt w g := fun i p hp => by
  obtain ⟨a, n, c, h1, h2, h3⟩ := h i p hp
  exact ⟨a, n, c, by rw [cell_of_row w g _ _ t (0, 0) hb]; exact h1, by rw [cell_of_row w g _ _ t (0, 0) hb]; exact h2, by rw [cell_of_row w g _ _ t (0, 0) hb]; exact h3⟩
theorem RowsAt.of' {w : World} {g : Nat} {cs : Array Value} {t : TypeId} (hg : g = w.heap.size) (h : ∀ (i : Nat) (p : Nat × ByteArray), kn[i]? = some p → ∃ a n c, cs[i * 3]? = some (.int .u8 p.1) ∧ cs[i * 3 + 1]? = some (.string p.2) ∧ cs[i * 3 + 2]? = some (.slice a n c)) : RowsAt (w.alloc (.cells cs t (0, 0))) g := by
  subst hg
  exact RowsAt.of (heap_alloc_new w _) h
/-- Each row in turn. -/
theorem rows_in (u0 u1 u2 u3 u4 u5 u6 u7 u8 u9 u10 u11 u12 u13 u14 u15 u16 u17 u18 u19 u20 u21 u22 u23 u24 u25 u26 : Option Addr) (n0 n1 n2 n3 n4 n5 n6 n7 n8 n9 n10 n11 n12 n13 n14 n15 n16 n17 n18 n19 n20 n21 n22 n23 n24 n25 n26 : Nat) : ∀ (i : Nat) (p : Nat × ByteArray), kn[i]? = some p → ∃ a n c, (#[.int .u8 100, .string ⟨#[84, 118, 101, 114, 115, 105, 111, 110]⟩, .slice u0 n0 n0, .int .u8 101, .string ⟨#[82, 118, 101, 114, 115, 105, 111, 110]⟩, .slice u1 n1 n1, .int .u8 102, .string ⟨#[84, 97, 117, 116, 104]⟩, .slice u2 n2 n2, .int .u8 103, .string ⟨#[82, 97, 117, 116, 104]⟩, .slice u3 n3 n3, .int .u8 104, .string ⟨#[84, 97, 116, 116, 97, 99, 104]⟩, .slice u4 n4 n4, .int .u8 105, .string ⟨#[82, 97, 116, 116, 97, 99, 104]⟩, .slice u5 n5 n5, .int .u8 107, .string ⟨#[82, 101, 114, 114, 111, 114]⟩, .slice u6 n6 n6, .int .u8 108, .string ⟨#[84, 102, 108, 117, 115, 104]⟩, .slice u7 n7 n7, .int .u8 109, .string ⟨#[82, 102, 108, 117, 115, 104]⟩, .slice u8 n8 n8, .int .u8 110, .string ⟨#[84, 119, 97, 108, 107]⟩, .slice u9 n9 n9, .int .u8 111, .string ⟨#[82, 119, 97, 108, 107]⟩, .slice u10 n10 n10, .int .u8 112, .string ⟨#[84, 111, 112, 101, 110]⟩, .slice u11 n11 n11, .int .u8 113, .string ⟨#[82, 111, 112, 101, 110]⟩, .slice u12 n12 n12, .int .u8 114, .string ⟨#[84, 99, 114, 101, 97, 116, 101]⟩, .slice u13 n13 n13, .int .u8 115, .string ⟨#[82, 99, 114, 101, 97, 116, 101]⟩, .slice u14 n14 n14, .int .u8 116, .string ⟨#[84, 114, 101, 97, 100]⟩, .slice u15 n15 n15, .int .u8 117, .string ⟨#[82, 114, 101, 97, 100]⟩, .slice u16 n16 n16, .int .u8 118, .string ⟨#[84, 119, 114, 105, 116, 101]⟩, .slice u17 n17 n17, .int .u8 119, .string ⟨#[82, 119, 114, 105, 116, 101]⟩, .slice u18 n18 n18, .int .u8 120, .string ⟨#[84, 99, 108, 117, 110, 107]⟩, .slice u19 n19 n19, .int .u8 121, .string ⟨#[82, 99, 108, 117, 110, 107]⟩, .slice u20 n20 n20, .int .u8 122, .string ⟨#[84, 114, 101, 109, 111, 118, 101]⟩, .slice u21 n21 n21, .int .u8 123, .string ⟨#[82, 114, 101, 109, 111, 118, 101]⟩, .slice u22 n22 n22, .int .u8 124, .string ⟨#[84, 115, 116, 97, 116]⟩, .slice u23 n23 n23, .int .u8 125, .string ⟨#[82, 115, 116, 97, 116]⟩, .slice u24 n24 n24, .int .u8 126, .string ⟨#[84, 119, 115, 116, 97, 116]⟩, .slice u25 n25 n25, .int .u8 127, .string ⟨#[82, 119, 115, 116, 97, 116]⟩, .slice u26 n26 n26] : Array Value)[i * 3]? = some (.int .u8 p.1) ∧ (#[.int .u8 100, .string ⟨#[84, 118, 101, 114, 115, 105, 111, 110]⟩, .slice u0 n0 n0, .int .u8 101, .string ⟨#[82, 118, 101, 114, 115, 105, 111, 110]⟩, .slice u1 n1 n1, .int .u8 102, .string ⟨#[84, 97, 117, 116, 104]⟩, .slice u2 n2 n2, .int .u8 103, .string ⟨#[82, 97, 117, 116, 104]⟩, .slice u3 n3 n3, .int .u8 104, .string ⟨#[84, 97, 116, 116, 97, 99, 104]⟩, .slice u4 n4 n4, .int .u8 105, .string ⟨#[82, 97, 116, 116, 97, 99, 104]⟩, .slice u5 n5 n5, .int .u8 107, .string ⟨#[82, 101, 114, 114, 111, 114]⟩, .slice u6 n6 n6, .int .u8 108, .string ⟨#[84, 102, 108, 117, 115, 104]⟩, .slice u7 n7 n7, .int .u8 109, .string ⟨#[82, 102, 108, 117, 115, 104]⟩, .slice u8 n8 n8, .int .u8 110, .string ⟨#[84, 119, 97, 108, 107]⟩, .slice u9 n9 n9, .int .u8 111, .string ⟨#[82, 119, 97, 108, 107]⟩, .slice u10 n10 n10, .int .u8 112, .string ⟨#[84, 111, 112, 101, 110]⟩, .slice u11 n11 n11, .int .u8 113, .string ⟨#[82, 111, 112, 101, 110]⟩, .slice u12 n12 n12, .int .u8 114, .string ⟨#[84, 99, 114, 101, 97, 116, 101]⟩, .slice u13 n13 n13, .int .u8 115, .string ⟨#[82, 99, 114, 101, 97, 116, 101]⟩, .slice u14 n14 n14, .int .u8 116, .string ⟨#[84, 114, 101, 97, 100]⟩, .slice u15 n15 n15, .int .u8 117, .string ⟨#[82, 114, 101, 97, 100]⟩, .slice u16 n16 n16, .int .u8 118, .string ⟨#[84, 119, 114, 105, 116, 101]⟩, .slice u17 n17 n17, .int .u8 119, .string ⟨#[82, 119, 114, 105, 116, 101]⟩, .slice u18 n18 n18, .int .u8 120, .string ⟨#[84, 99, 108, 117, 110, 107]⟩, .slice u19 n19 n19, .int .u8 121, .string ⟨#[82, 99, 108, 117, 110, 107]⟩, .slice u20 n20 n20, .int .u8 122, .string ⟨#[84, 114, 101, 109, 111, 118, 101]⟩, .slice u21 n21 n21, .int .u8 123, .string ⟨#[82, 114, 101, 109, 111, 118, 101]⟩, .slice u22 n22 n22, .int .u8 124, .string ⟨#[84, 115, 116, 97, 116]⟩, .slice u23 n23 n23, .int .u8 125, .string ⟨#[82, 115, 116, 97, 116]⟩, .slice u24 n24 n24, .int .u8 126, .string ⟨#[84, 119, 115, 116, 97, 116]⟩, .slice u25 n25 n25, .int .u8 127, .string ⟨#[82, 119, 115, 116, 97, 116]⟩, .slice u26 n26 n26] : Array Value)[i * 3 + 1]? = some (.string p.2) ∧ (#[.int .u8 100, .string ⟨#[84, 118, 101, 114, 115, 105, 111, 110]⟩, .slice u0 n0 n0, .int .u8 101, .string ⟨#[82, 118, 101, 114, 115, 105, 111, 110]⟩, .slice u1 n1 n1, .int .u8 102, .string ⟨#[84, 97, 117, 116, 104]⟩, .slice u2 n2 n2, .int .u8 103, .string ⟨#[82, 97, 117, 116, 104]⟩, .slice u3 n3 n3, .int .u8 104, .string ⟨#[84, 97, 116, 116, 97, 99, 104]⟩, .slice u4 n4 n4, .int .u8 105, .string ⟨#[82, 97, 116, 116, 97, 99, 104]⟩, .slice u5 n5 n5, .int .u8 107, .string ⟨#[82, 101, 114, 114, 111, 114]⟩, .slice u6 n6 n6, .int .u8 108, .string ⟨#[84, 102, 108, 117, 115, 104]⟩, .slice u7 n7 n7, .int .u8 109, .string ⟨#[82, 102, 108, 117, 115, 104]⟩, .slice u8 n8 n8, .int .u8 110, .string ⟨#[84, 119, 97, 108, 107]⟩, .slice u9 n9 n9, .int .u8 111, .string ⟨#[82, 119, 97, 108, 107]⟩, .slice u10 n10 n10, .int .u8 112, .string ⟨#[84, 111, 112, 101, 110]⟩, .slice u11 n11 n11, .int .u8 113, .string ⟨#[82, 111, 112, 101, 110]⟩, .slice u12 n12 n12, .int .u8 114, .string ⟨#[84, 99, 114, 101, 97, 116, 101]⟩, .slice u13 n13 n13, .int .u8 115, .string ⟨#[82, 99, 114, 101, 97, 116, 101]⟩, .slice u14 n14 n14, .int .u8 116, .string ⟨#[84, 114, 101, 97, 100]⟩, .slice u15 n15 n15, .int .u8 117, .string ⟨#[82, 114, 101, 97, 100]⟩, .slice u16 n16 n16, .int .u8 118, .string ⟨#[84, 119, 114, 105, 116, 101]⟩, .slice u17 n17 n17, .int .u8 119, .string ⟨#[82, 119, 114, 105, 116, 101]⟩, .slice u18 n18 n18, .int .u8 120, .string ⟨#[84, 99, 108, 117, 110, 107]⟩, .slice u19 n19 n19, .int .u8 121, .string ⟨#[82, 99, 108, 117, 110, 107]⟩, .slice u20 n20 n20, .int .u8 122, .string ⟨#[84, 114, 101, 109, 111, 118, 101]⟩, .slice u21 n21 n21, .int .u8 123, .string ⟨#[82, 114, 101, 109, 111, 118, 101]⟩, .slice u22 n22 n22, .int .u8 124, .string ⟨#[84, 115, 116, 97, 116]⟩, .slice u23 n23 n23, .int .u8 125, .string ⟨#[82, 115, 116, 97, 116]⟩, .slice u24 n24 n24, .int .u8 126, .string ⟨#[84, 119, 115, 116, 97, 116]⟩, .slice u25 n25 n25, .int .u8 127, .string ⟨#[82, 119, 115, 116, 97, 116]⟩, .slice u26 n26 n26] : Array Value)[i * 3 + 2]? = some (.slice a n c) := by
  intro i p h
  match i, h with
  | 0, h => cases h; exact ⟨u0, n0, n0, rfl, rfl, rfl⟩
  | 1, h => cases h; exact ⟨u1, n1, n1, rfl, rfl, rfl⟩
  | 2, h => cases h; exact ⟨u2, n2, n2, rfl, rfl, rfl⟩
  | 3, h => cases h; exact ⟨u3, n3, n3, rfl, rfl, rfl⟩
  | 4, h => cases h; exact ⟨u4, n4, n4, rfl, rfl, rfl⟩
  | 5, h => cases h; exact ⟨u5, n5, n5, rfl, rfl, rfl⟩
  | 6, h => cases h; exact ⟨u6, n6, n6, rfl, rfl, rfl⟩
  | 7, h => cases h; exact ⟨u7, n7, n7, rfl, rfl, rfl⟩
  | 8, h => cases h; exact ⟨u8, n8, n8, rfl, rfl, rfl⟩
  | 9, h => cases h; exact ⟨u9, n9, n9, rfl, rfl, rfl⟩
  | 10, h => cases h; exact ⟨u10, n10, n10, rfl, rfl, rfl⟩
  | 11, h => cases h; exact ⟨u11, n11, n11, rfl, rfl, rfl⟩
  | 12, h => cases h; exact ⟨u12, n12, n12, rfl, rfl, rfl⟩
  | 13, h => cases h; exact ⟨u13, n13, n13, rfl, rfl, rfl⟩
  | 14, h => cases h; exact ⟨u14, n14, n14, rfl, rfl, rfl⟩
  | 15, h => cases h; exact ⟨u15, n15, n15, rfl, rfl, rfl⟩
  | 16, h => cases h; exact ⟨u16, n16, n16, rfl, rfl, rfl⟩
  | 17, h => cases h; exact ⟨u17, n17, n17, rfl, rfl, rfl⟩
  | 18, h => cases h; exact ⟨u18, n18, n18, rfl, rfl, rfl⟩
  | 19, h => cases h; exact ⟨u19, n19, n19, rfl, rfl, rfl⟩
  | 20, h => cases h; exact ⟨u20, n20, n20, rfl, rfl, rfl⟩
  | 21, h => cases h; exact ⟨u21, n21, n21, rfl, rfl, rfl⟩
  | 22, h => cases h; exact ⟨u22, n22, n22, rfl, rfl, rfl⟩
  | 23, h => cases h; exact ⟨u23, n23, n23, rfl, rfl, rfl⟩
  | 24, h => cases h; exact ⟨u24, n24, n24, rfl, rfl, rfl⟩
  | 25, h => cases h; exact ⟨u25, n25, n25, rfl, rfl, rfl⟩
  | 26, h => cases h; exact ⟨u26, n26, n26, rfl, rfl, rfl⟩
  | n + 27, h => cases h
namespace Knd
set_option maxHeartbeats 4000000 in
set_option maxRecDepth 100000 in
theorem kinds_any (w : World) : Calls Tryz.prog 24 #[] w fun e w' => ∃ g, e = .returned (.slice (some ⟨g, 0, none⟩) 27 27) ∧ Hid (RowsAt w' g) ∧ Kept [] w w' := by
  go_enter Tryz.func24, Tryz.ntmps24
  go_wp2_with fail
  go_ret
  refine ⟨_, rfl, ?_, ?_⟩
  · show RowsAt _ _
    with_reducible refine RowsAt.of' ?_ ?_
    · simp only [World.size_alloc]
    · with_reducible exact rows_in _ _ _ _ _ _ _ _ _ _ _ _ _ _ _ _ _ _ _ _ _ _ _ _ _ _ _ _ _ _ _ _ _ _ _ _ _ _ _ _ _ _ _ _ _ _ _ _ _ _ _ _ _ _
  iterate 24 (with_reducible refine Kept.alloc ?_ _)
  with_reducible exact Kept.refl [] w

set_option maxHeartbeats 1000000 in
set_option maxRecDepth 100000 in
theorem name_any (w : World) (x : Int) (k : Nat) (hx : x = k) : Calls Tryz.prog 9 #[.int .u8 x] w fun e w' => e = .returned (.string (nameOf k)) ∧ Kept [] w w' := by
  subst hx
  go_enter Tryz.func9, Tryz.ntmps9
  go_wp2_with fail
  refine (kinds_any _).mono ?_
  rintro e w1 ⟨g, rfl, hR1, k1⟩
  go_wp2_with fail
  go_loopw [7] (fun iv wr => ∃ i : Nat, i ≤ 27 ∧ iv = .int .i64 i ∧ nameFrom i k = nameOf k ∧ Hid (RowsAt wr g) ∧ Hid (Kept [] w wr)) (fun iv _ => 27 - (intOf iv).toNat)
  case atStart => exact ⟨0, by omega, rfl, rfl, hR1, k1⟩
  case round =>
    obtain ⟨i, hi, rfl, hn, hR, hK⟩ := hrel
    by_cases hlt : i < 27
    · obtain ⟨p, hp⟩ : ∃ p, kn[i]? = some p := ⟨_, List.getElem?_eq_getElem (show i < kn.length from hlt)⟩
      rw [nameFrom_at hp] at hn
      obtain ⟨ua, un, uc, c0, c1, c2⟩ := hR.out i p hp
      obtain ⟨pk, pn⟩ := p
      simp only at hn c0 c1
      have hlt' : (i : Int) < 27 := by omega
      have K2 : Hid (Kept [] w (wr.alloc (.cells #[.int .u8 pk, .string pn, .slice ua un uc] 62 (0, 0)))) := hK.out.alloc _
      have R2 : Hid (RowsAt (wr.alloc (.cells #[.int .u8 pk, .string pn, .slice ua un uc] 62 (0, 0))) g) := hR.out.kept ((Kept.refl [] wr).alloc _)
      by_cases hpk : pk = k
      · rw [if_pos hpk] at hn
        have hnh := Lib.hid hn
        subst hpk
        clear hn hp
        go_wp2_with fail
        go_ret
        exact ⟨congrArg (fun s => Ending.returned (.string s)) hnh.out, K2.out⟩
      · rw [if_neg hpk] at hn
        have hnh := Lib.hid hn
        have hpk' : ((pk : Int) == (k : Int)) = false := by rw [beq_eq_false_iff_ne]; omega
        clear hn hp
        go_wp2_with fail
        go_roundw
        case rel => exact ⟨i + 1, by omega, by go_num, hnh.out, R2, K2⟩
        case measure => simp [intOf]; omega
    · have hi27 : i = 27 := by omega
      subst hi27
      rw [nameFrom_end] at hn
      have hnh := Lib.hid hn
      clear hn
      go_wp2_with fail
      go_ret
      exact ⟨congrArg (fun s => Ending.returned (.string s)) hnh.out, hK.out⟩
end Knd
end Go.Proofs.YteebiemfhicgbaaGreatDoor
