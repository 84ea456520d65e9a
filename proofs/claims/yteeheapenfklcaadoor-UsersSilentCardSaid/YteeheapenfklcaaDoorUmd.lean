/- vergerlaw06: name, pick. -/
import Derived.Test.YteeheapenfklcaaDoorUtl
namespace Go.Proofs.YteeheapenfklcaaDoor
set_option linter.unusedVariables false
open Go.RowKit Go.Shelf
attribute [local go_sem] Oper.semAt_some
namespace Us
open Go.Proofs.YteeheapenfklcaaDoor.Utf Go.Proofs.YteeheapenfklcaaDoor.Txt Go.PlainAid Go.Proofs.YteeheapenfklcaaDoor.Mpf
/-- The i-th one's name. -/
def nameL (i : Nat) : ByteArray := ⟨#[117, UInt8.ofNat (97 + i % 26), UInt8.ofNat (97 + i / 26 % 26)]⟩
set_option maxHeartbeats 4000000 in
set_option maxRecDepth 100000 in
theorem name_any (w : World) (i : Nat) (hi : i < 676) : Calls Tryd.prog 45 #[.int .i64 i] w fun e w' => e = .returned (.string (nameL i)) ∧ Kept [] w w' := by
  obtain ⟨a, ha⟩ : ∃ a, a = i % 26 := ⟨_, rfl⟩
  obtain ⟨b, hb⟩ : ∃ b, b = i / 26 % 26 := ⟨_, rfl⟩
  have e1 : ((i : Int) % 26) = (a : Int) := by omega
  have e2 : (i : Int).tdiv (26 : Int) = ((i / 26 : Nat) : Int) := (Int.ofNat_tdiv i 26).symm
  have i0 : (0 : Int) ≤ (i : Int) := by omega
  have i1 : (i : Int) ≤ 675 := by omega
  have e3 : ((i / 26 : Nat) : Int) % 26 = (b : Int) := by omega
  have a1 : a < 26 := by omega
  have b1 : b < 26 := by omega
  unfold nameL
  rw [← ha, ← hb]
  obtain ⟨q, hq⟩ : ∃ q : Nat, q = i / 26 := ⟨_, rfl⟩
  have q0 : (0 : Int) ≤ (q : Int) := by omega
  have q1 : (q : Int) ≤ 25 := by omega
  rw [← hq] at e2 e3
  clear hq
  obtain ⟨w1, hw1⟩ : ∃ w1, w1 = w.alloc (.cells #[.int .u8 (97 + (a : Int)), .int .u8 (97 + (b : Int))] 5) := ⟨_, rfl⟩
  obtain ⟨R, hR⟩ : ∃ R, R = w.heap.size := ⟨_, rfl⟩
  have K1 : Hid (Kept [] w w1) := by rw [hw1]; exact (Kept.refl _ _).alloc _
  have b0 : w1.heap[R]? = some (.cells #[.int .u8 (97 + (a : Int)), .int .u8 (97 + (b : Int))] 5 (0, 0)) := by rw [hw1, hR]; exact (MapKept.heap_alloc w _).1
  have n1 : ((UInt8.ofNat (97 + a)).toNat : Int) = 97 + (a : Int) := by
    rw [UInt8.toNat_ofNat']; omega
  have n2 : ((UInt8.ofNat (97 + b)).toNat : Int) = 97 + (b : Int) := by
    rw [UInt8.toNat_ofNat']; omega
  have CV : (Go.convert 68 9 (.slice (some ⟨R, 0, none⟩) 2 2)).run Tryd.prog w1 = .ok (.string ⟨#[UInt8.ofNat (97 + a), UInt8.ofNat (97 + b)]⟩) w1 := by
    refine run_convert_bytes_back (P := Tryd.prog) w1 68 9 5 ⟨R, 0, none⟩ 2 [UInt8.ofNat (97 + a), UInt8.ofNat (97 + b)] Tryd.underlying68 Tryd.underlying5 Tryd.underlying9 (fun j hj => ?_)
    have hj2 : j < 2 := hj
    rcases (by omega : j = 0 ∨ j = 1) with rfl | rfl
    · show w1.cell? ⟨R, 0, none⟩ = some (.int .u8 ((UInt8.ofNat (97 + a)).toNat : Int))
      rw [n1, cell_of_row w1 R 0 _ _ (0, 0) b0]; rfl
    · show w1.cell? ⟨R, 1, none⟩ = some (.int .u8 ((UInt8.ofNat (97 + b)).toNat : Int))
      rw [n2, cell_of_row w1 R 1 _ _ (0, 0) b0]; rfl
  obtain ⟨z, hz⟩ : ∃ z : ByteArray, z = ⟨#[UInt8.ofNat (97 + a), UInt8.ofNat (97 + b)]⟩ := ⟨_, rfl⟩
  have NN : Hid ((⟨#[117]⟩ : ByteArray) ++ z = ⟨#[117, UInt8.ofNat (97 + a), UInt8.ofNat (97 + b)]⟩) := by
    show _ = _
    rw [hz]
    apply ByteArray.ext
    rw [ByteArray.data_append]
    rfl
  have zs : ¬ 9223372036854775807 < 1 + z.size := by rw [hz]; show ¬ 9223372036854775807 < 1 + 2; decide
  rw [← hz] at CV
  have HW1 := Lib.hid hw1
  have HR := Lib.hid hR
  have HCV := Lib.hid CV
  clear hw1 hR CV b0 n1 n2 hi ha hb hz
  go_enter Tryd.func45, Tryd.ntmps45
  go_wp2_with fail
  rw [← HW1.out, ← HR.out, HCV.out]
  go_wp2_with fail
  go_ret
  exact ⟨congrArg (fun s => Ending.returned (Value.string s)) NN.out, K1.out⟩
/-- Which one a raw number speaks of. -/
def pickN (c : Int) (n : Nat) : Nat := (if c < 0 then -(c + 1) else c).toNat % n
set_option maxHeartbeats 4000000 in
set_option maxRecDepth 100000 in
theorem pick_any (w : World) (c : Int) (n : Nat) (hn : 0 < n) (h1 : -9223372036854775808 ≤ c) (h2 : c ≤ 9223372036854775807) (hb : n ≤ 9223372036854775807) : Calls Tryd.prog 23 #[.int .i64 c, .int .i64 n] w fun e w' => e = .returned (.int .i64 (pickN c n)) ∧ w = w' := by
  have hn0 : (n : Int) ≠ 0 := by omega
  unfold pickN
  by_cases hc : c < 0
  · rw [if_pos hc]
    obtain ⟨d, hd⟩ : ∃ d : Nat, -(c + 1) = (d : Int) := ⟨(-(c + 1)).toNat, by omega⟩
    rw [hd]
    have q : (d : Int).tmod (n : Int) = ((d % n : Nat) : Int) := (Int.ofNat_tmod d n).symm
    have e9 : (((d : Int)).toNat % n) = d % n := by simp
    rw [e9]
    obtain ⟨r, hr⟩ : ∃ r, r = d % n := ⟨_, rfl⟩
    rw [← hr] at q ⊢
    clear hr e9
    have d0 : (0 : Int) ≤ (d : Int) := by omega
    have d1 : (d : Int) ≤ 9223372036854775807 := by omega
    go_enter Tryd.func23, Tryd.ntmps23
    go_wp2_with fail
    go_ret
    exact ⟨rfl, rfl⟩
  · rw [if_neg hc]
    obtain ⟨d, hd⟩ : ∃ d : Nat, c = (d : Int) := ⟨c.toNat, by omega⟩
    subst hd
    have q : (d : Int).tmod (n : Int) = ((d % n : Nat) : Int) := (Int.ofNat_tmod d n).symm
    have e9 : (((d : Int)).toNat % n) = d % n := by simp
    rw [e9]
    obtain ⟨r, hr⟩ : ∃ r, r = d % n := ⟨_, rfl⟩
    rw [← hr] at q ⊢
    clear hr e9
    have d0 : (0 : Int) ≤ (d : Int) := by omega
    have d1 : (d : Int) ≤ 9223372036854775807 := by omega
    go_enter Tryd.func23, Tryd.ntmps23
    go_wp2_with fail
    go_ret
    exact ⟨rfl, rfl⟩
end Us
end Go.Proofs.YteeheapenfklcaaDoor
