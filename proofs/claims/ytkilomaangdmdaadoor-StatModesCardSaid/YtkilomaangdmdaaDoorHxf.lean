/- Numbers at base 16: the digits; what internal/strconv.formatBits writes. -/
import Derived.Test.YtkilomaangdmdaaDoorProg
import Derived.Test.YtkilomaangdmdaaDoorKept
import Derived.WalkKit
import Derived.ProofKit
import Derived.IntWalk
import Derived.Laws.Bits64b
import Derived.Laws.IdiomStrings
import Derived.Lib.Hide
import Derived.Outline
import Derived.Deep.Cut
import Derived.Deep.CutBlock
import Derived.Deep.CutRange
namespace Go.Proofs.YtkilomaangdmdaaDoor
set_option linter.unusedVariables false
open Go.RowKit

def dgs : List UInt8 := [48, 49, 50, 51, 52, 53, 54, 55, 56, 57, 97, 98, 99, 100, 101, 102]
def dg (j : Nat) : UInt8 := dgs.getD j 0
/-- A number's digits at base 16. -/
def hx : Nat → Nat → List UInt8
  | 0, n => [dg n]
  | k + 1, n => if n < 16 then [dg n] else hx k (n / 16) ++ [dg (n % 16)]
theorem hx_small (k n : Nat) (h : n < 16) : hx k n = [dg n] := by
  cases k with
  | zero => rfl
  | succ k => unfold hx; rw [if_pos h]
theorem hx_more (k n : Nat) (h : 16 ≤ n) : hx (k + 1) n = hx k (n / 16) ++ [dg (n % 16)] := by
  rw [hx, if_neg (by omega)]

def bv (b : UInt8) : Value := .int .u8 b.toNat
/-- A row of 65, its end written. -/
def row65 (i : Nat) (ds : List UInt8) : List Value := List.replicate i (.int .u8 0) ++ ds.map bv
theorem row65_set (i : Nat) (ds : List UInt8) (c : UInt8) : (row65 (i + 1) ds).set i (bv c) = row65 i (c :: ds) := by
  unfold row65
  rw [List.replicate_succ', List.append_assoc, List.set_append_right _ _ (by simp)]
  simp

theorem zero65 (w : World) : (zeroValue 63).run Tryd.prog w = .ok (.agg (row65 65 []).toArray) w := by kernel_rfl
theorem pow16 (w : World) : Calls Tryd.prog 29 #[.int .i64 16] w fun e w' => e = .returned (.bool true) ∧ w = w' := by
  have hk : bits .and .i64 16 15 = 0 := by decide
  go_enter Tryd.func29, Tryd.ntmps29
  go_wp2
  go_ret
  exact ⟨rfl, rfl⟩
theorem tz64_16 (w : World) (h4 : w.cell? ⟨5, 15, none⟩ = some (.int .u8 4)) : Calls Tryd.prog 42 #[.int .u64 16] w fun e w' => e = .returned (.int .i64 4) ∧ w = w' := by
  have hk : IntKind.u64.wrap (bits .and .u64 16 (IntKind.u64.wrap (-16)) * 285870213051353865) / 288230376151711744 = 15 := by decide
  go_enter Tryd.func42, Tryd.ntmps42
  go_wp2_with (simp only [hk])
  go_ret
  exact ⟨rfl, rfl⟩
theorem tz16 (w : World) (h4 : w.cell? ⟨5, 15, none⟩ = some (.int .u8 4)) : Calls Tryd.prog 30 #[.int .u64 16] w fun e w' => e = .returned (.int .i64 4) ∧ w = w' := by
  have T := Lib.hid (tz64_16 w h4)
  go_enter Tryd.func30, Tryd.ntmps30
  go_wp2_with (go_at_call 42; refine T.out.mono ?_; rintro e w' ⟨rfl, rfl⟩)
  go_ret
  exact ⟨rfl, rfl⟩

theorem slice65 (p j : Nat) (h : j ≤ 64) (w : World) : (Instr.sliceAt 63 (.pointer (some ⟨p, 0, none⟩)) (some (.int .i64 (j : Int))) none none).run Tryd.prog w = .ok (.slice (some ⟨p, j, none⟩) (65 - j) (65 - j)) w := by
  have e65 : Tryd.prog.arrayLen 63 = 65 := by kernel_rfl
  rw [run_sliceAt_array_l w 63 ⟨p, 0, none⟩ (by kernel_rfl) .i64 j (by omega) (by rw [e65]; omega), e65]
  have e : ∀ w, (sizeOf (Tryd.prog.elem 63)).run Tryd.prog w = .ok 1 w := fun w => by kernel_rfl
  rw [e]
  simp only [Result.andThen, slicedAt, Int.toNat_natCast, Nat.mul_one]
  rw [if_neg (by omega)]
  simp [Addr.add]
  omega
theorem cells_row {w : World} {p i : Nat} {ds : List UInt8} {t : TypeId} (h : w.heap[p]? = some (.cells (row65 i ds).toArray t (0, 0))) (j : Nat) (v : Value) (hj : (row65 i ds)[j]? = some v) : w.cell? ⟨p, j, none⟩ = some v := by
  rw [cell_of_row w p j _ t (0, 0) h]
  simpa using hj

theorem row65_at (i j : Nat) (ds : List UInt8) (h : j < i) : (row65 i ds)[j]? = some (.int .u8 0) := by
  unfold row65
  rw [List.getElem?_append_left (by simpa using h), List.getElem?_replicate, if_pos h]
theorem frz {w : World} {p : Nat} {cs : Array Value} {t : TypeId} (h : w.heap[p]? = some (.cells cs t (0, 0))) (i : Nat) : w.frozen? ⟨p, i, none⟩ = false := by simp [World.frozen?, h]
theorem heap_row {w : World} {p j : Nat} {ds : List UInt8} {t : TypeId} (h : w.heap[p]? = some (.cells (row65 (j + 1) ds).toArray t (0, 0))) (c : UInt8) : (w.setCell ⟨p, j, none⟩ (bv c)).heap[p]? = some (.cells (row65 j (c :: ds)).toArray t (0, 0)) := by
  rw [heap_set (bv c) h, ← row65_set]
  simp
def s36 : ByteArray := { data := #[48, 49, 50, 51, 52, 53, 54, 55, 56, 57, 97, 98, 99, 100, 101, 102, 103, 104, 105, 106, 107, 108, 109, 110, 111, 112, 113, 114, 115, 116, 117, 118, 119, 120, 121, 122] }
theorem idx36 (m : Nat) (h : m < 16) (w : World) : (Instr.index 9 (.string { data := #[48, 49, 50, 51, 52, 53, 54, 55, 56, 57, 97, 98, 99, 100, 101, 102, 103, 104, 105, 106, 107, 108, 109, 110, 111, 112, 113, 114, 115, 116, 117, 118, 119, 120, 121, 122] }) (.int .u64 (m : Int))).run Tryd.prog w = .ok (.int .u8 ((dg m).toNat : Int)) w := by
  have : m = 0 ∨ m = 1 ∨ m = 2 ∨ m = 3 ∨ m = 4 ∨ m = 5 ∨ m = 6 ∨ m = 7 ∨ m = 8 ∨ m = 9 ∨ m = 10 ∨ m = 11 ∨ m = 12 ∨ m = 13 ∨ m = 14 ∨ m = 15 := by omega
  rcases this with rfl | rfl | rfl | rfl | rfl | rfl | rfl | rfl | rfl | rfl | rfl | rfl | rfl | rfl | rfl | rfl <;> rfl
theorem and15 (u : Nat) (hu : u < 4294967296) : bits .and .u64 (u : Int) 15 = ((u % 16 : Nat) : Int) := by
  have h := bits_and_u64_nat u 15 (by omega) (by omega)
  have h2 : u &&& 15 = u % 16 := Nat.and_two_pow_sub_one_eq_mod u 4
  rw [← h2]
  exact h

set_option maxRecDepth 100000 in
set_option maxHeartbeats 2000000 in
theorem bits16 (n : Nat) (hn : n < 4294967296) (w : World) (TZ : Hid (∀ w', Kept [] w w' → Calls Tryd.prog 30 #[.int .u64 16] w' fun e w2 => e = .returned (.int .i64 4) ∧ w' = w2)) :
    Calls Tryd.prog 22 #[.slice none 0 0, .int .u64 n, .int .i64 16, .bool false, .bool false] w fun e w' => e = .returned (.tuple #[.slice none 0 0, .string ⟨(hx 8 n).toArray⟩]) ∧ Kept [] w w' := by
  have hzv := zero65
  obtain ⟨r0, hr0⟩ : ∃ r, r = (row65 65 []).toArray := ⟨_, rfl⟩
  rw [← hr0] at hzv
  have HR0 := Lib.hid hr0
  clear hr0
  obtain ⟨W, hW⟩ : ∃ W, W = w.alloc (.cells r0 63) := ⟨_, rfl⟩
  have HW := Lib.hid hW
  have TZ2 : Hid (Calls Tryd.prog 30 #[.int .u64 16] W fun e w2 => e = .returned (.int .i64 4) ∧ W = w2) := TZ.out W (by rw [hW]; exact (Kept.refl [] w).alloc _)
  have BL : Hid (W.heap[w.heap.size]? = some (.cells (row65 65 []).toArray 63 (0, 0))) := by rw [hW, ← HR0.out]; exact heap_alloc_new w _
  have KW : Hid (Kept [] w W) := by rw [hW]; exact (Kept.refl [] w).alloc _
  obtain ⟨p, hp⟩ : ∃ p, p = w.heap.size := ⟨_, rfl⟩
  rw [← hp] at BL
  have HP := Lib.hid hp
  clear hW hp
  go_enter Tryd.func22, Tryd.ntmps22
  go_upto_region 4 with (fail)
  rw [← HW.out, ← HP.out]
  clear hzv HW
  go_wp2_with fail
  refine (pow16 _).mono ?_
  rintro e w2 ⟨rfl, rfl⟩
  go_wp2_with fail
  refine TZ2.out.mono ?_
  rintro e w2 ⟨rfl, rfl⟩
  clear TZ2
  go_wp2_with fail
  go_loopw [1, 13] (fun uv iv wr => ∃ (u i : Nat) (ds : List UInt8), 58 ≤ i ∧ ds.length + i = 65 ∧ uv = .int .u64 u ∧ iv = .int .i64 i ∧ u ≤ n ∧ u < 16 ^ (i - 57) ∧ Hid (wr.heap[p]? = some (.cells (row65 i ds).toArray 63 (0, 0))) ∧ Hid (hx (i - 57) u ++ ds = hx 8 n) ∧ Hid (Kept [p] W wr)) (fun uv _ _ => (intOf uv).toNat)
  case atStart => exact ⟨n, 65, [], by omega, rfl, rfl, rfl, by omega, by omega, BL, by show _ = _; simp, Kept.refl _ _⟩
  case round =>
    clear BL
    obtain ⟨u, i, ds, hi1, hi2, rfl, rfl, hun, hu, HB, HH, HK⟩ := hrel
    have hu32 : u < 4294967296 := by omega
    obtain ⟨j, rfl⟩ : ∃ j, i = j + 1 := ⟨i - 1, by omega⟩
    have f1 := frz HB.out j
    have q1 := cells_row HB.out j _ (row65_at (j + 1) j ds (by omega))
    have ej : ((j + 1 : Nat) : Int) = (j : Int) + 1 := by omega
    have HR := fun c => heap_row HB.out c
    have HRh := Lib.hid HR
    by_cases h16 : 16 ≤ u
    · obtain ⟨m, hm⟩ : ∃ m, m = u % 16 := ⟨_, rfl⟩
      have hm16 : m < 16 := by omega
      have ha := and15 u hu32
      rw [← hm] at ha
      have hix := fun w => idx36 m hm16 w
      have h58 : 59 ≤ j + 1 := by
        by_cases h : j = 57
        · subst h; simp at hu; omega
        · omega
      have HN : Hid (hx (j - 57) (u / 16) ++ (dg m :: ds) = hx 8 n) := by
        have h := HH.out
        rw [show j + 1 - 57 = (j - 57) + 1 by omega, hx_more _ _ h16, ← hm] at h
        show _ = _
        rw [← h]
        simp
      have hu2 : u / 16 < 16 ^ (j - 57) := by
        rw [show j + 1 - 57 = (j - 57) + 1 by omega, Nat.pow_succ] at hu
        omega
      have HU2 := Lib.hid hu2
      have HM := Lib.hid hm
      rw [ej]
      clear hm hu hu2 HR ej HH
      go_wp2_with fail
      go_roundw
      case rel => exact ⟨u / 16, j, dg m :: ds, by omega, by simp; omega, by go_num, by go_num, by omega, HU2.out, HRh.out (dg m), HN, HK.out.setCell (Or.inl (by simp)) _⟩
      case measure => simp [intOf]; omega
    · have hix := fun w => idx36 u (by omega) w
      have h57 : hx (j + 1 - 57) u = [dg u] := hx_small _ _ (by omega)
      have HN : Hid (dg u :: ds = hx 8 n) := by
        have h := HH.out
        rw [h57] at h
        exact h
      have hsl := fun w => slice65 p j (by omega) w
      obtain ⟨l, hl⟩ : ∃ l, l = dg u :: ds := ⟨_, rfl⟩
      have hll : 65 - j = l.length := by rw [hl]; simp; omega
      rw [hll] at hsl
      rw [← hl] at HN
      have HW2 : Hid ((wr.setCell ⟨p, j, none⟩ (bv (dg u))).heap[p]? = some (.cells (row65 j l).toArray 63 (0, 0))) := by rw [hl]; exact HR (dg u)
      have hcv : (convert 29 9 (.slice (some ⟨p, j, none⟩) l.length l.length)).run Tryd.prog (wr.setCell ⟨p, j, none⟩ (.int .u8 ((dg u).toNat : Int))) = .ok (.string ⟨l.toArray⟩) (wr.setCell ⟨p, j, none⟩ (.int .u8 ((dg u).toNat : Int))) := by
        refine run_convert_bytes_back _ 29 9 5 ⟨p, j, none⟩ l.length l Tryd.underlying29 Tryd.underlying5 Tryd.underlying9 (fun k hk => ?_)
        rw [Addr.add_lit]
        refine cells_row HW2.out (j + k) _ ?_
        unfold row65
        rw [List.getElem?_append_right (by simp)]
        simp [bv, List.getElem?_eq_getElem hk]
      have HL := Lib.hid hl
      rw [ej]
      clear hu h57 HR ej HH hl hll
      go_wp2_with fail
      go_ret2
      refine ⟨by rw [HN.out]; rfl, (KW.out.trans HK.out (fun b hb => ?_)).trans (((Kept.refl [p] wr).setCell (Or.inl (by simp)) _)) (fun b hb => ?_)⟩
      · have := HP.out; simp at hb; right; omega
      · have := HP.out; simp at hb; right; omega

theorem ufmt16i (n : Nat) (hn : n < 4294967296) (w : World) (TZ : Hid (∀ w', Kept [] w w' → Calls Tryd.prog 30 #[.int .u64 16] w' fun e w2 => e = .returned (.int .i64 4) ∧ w' = w2)) :
    Calls Tryd.prog 15 #[.int .u64 n, .int .i64 16] w fun e w' => e = .returned (.string ⟨(hx 8 n).toArray⟩) ∧ Kept [] w w' := by
  have B := Lib.hid (bits16 n hn w TZ)
  go_enter Tryd.func15, Tryd.ntmps15
  go_wp2_with fail
  refine B.out.mono ?_
  rintro e w' ⟨rfl, k1⟩
  go_wp2_with fail
  go_ret
  exact ⟨rfl, k1⟩
theorem ufmt16 (n : Nat) (hn : n < 4294967296) (w : World) (TZ : Hid (∀ w', Kept [] w w' → Calls Tryd.prog 30 #[.int .u64 16] w' fun e w2 => e = .returned (.int .i64 4) ∧ w' = w2)) :
    Calls Tryd.prog 9 #[.int .u64 n, .int .i64 16] w fun e w' => e = .returned (.string ⟨(hx 8 n).toArray⟩) ∧ Kept [] w w' := by
  have B := Lib.hid (ufmt16i n hn w TZ)
  go_enter Tryd.func9, Tryd.ntmps9
  go_wp2_with fail
  refine B.out.mono ?_
  rintro e w' ⟨rfl, k1⟩
  go_wp2_with fail
  go_ret
  exact ⟨rfl, k1⟩
end Go.Proofs.YtkilomaangdmdaaDoor
