/- Steps as they come in, a list of them; what the law's much does. -/
import Derived.Test.YtfdbpbhihccgbaaWt2
namespace Go.Proofs.Ytfdbpbhihccgbaa
set_option linter.unusedVariables false
open Go.RowKit

/-- A list of steps lies there; T: the blocks of all of it. -/
structure Ops (w : World) (b off : Nat) (ops : List Stp) (bs : Nat → List UInt8) (T : List Nat) : Prop where
  t : ∀ i ∈ T, i < w.heap.size
  at' : ∀ i (hi : i < ops.length), b ∈ T ∧ (∀ j, j < 6 → w.cell? ⟨b, off + i * 6 + j, none⟩ = (ops[i].cells)[j]?) ∧ StpOk w ops[i] (bs i) T ∧ (bs i).length ≤ 1048576 ∧ ops[i].s.size ≤ 1048576
theorem StpOk.kept {w w' : World} {o : Stp} {bs : List UInt8} {T S : List Nat} (h : StpOk w o bs T) (hk : Kept S w w') (hd : ∀ i ∈ T, i ∉ S) : StpOk w' o bs T :=
  ⟨h.n, h.k1, h.k2, h.s, h.b.kept hk hd, h.bl, fun i hi => Nat.lt_of_lt_of_le (h.t i hi) hk.size⟩
theorem Ops.kept {w w' : World} {b off : Nat} {ops : List Stp} {bs : Nat → List UInt8} {T S : List Nat} (h : Ops w b off ops bs T) (hk : Kept S w w') (hd : ∀ i ∈ T, i ∉ S) : Ops w' b off ops bs T := by
  refine ⟨fun i hi => Nat.lt_of_lt_of_le (h.t i hi) hk.size, fun i hi => ?_⟩
  obtain ⟨h1, h2, h3, h4, h5⟩ := h.at' i hi
  refine ⟨h1, fun j hj => ?_, h3.kept hk hd, h4, h5⟩
  rw [← h2 j hj]
  exact World.cell?_of_block (hk.block b (h.t b h1) (hd b h1))

namespace Lst
open Go.Proofs.Ytfdbpbhihccgbaa.Txt

def MuchOut (w : World) (e : Ending) (w' : World) : Prop := ∃ m : Nat, e = .returned (.int .i64 m) ∧ m ≤ 3000000000000 ∧ Hid (Kept [] w w')

set_option maxHeartbeats 1000000 in
theorem much_any (w : World) (a : Option Addr) (cap b off : Nat) (ops : List Stp) (bs : Nat → List UInt8) (T : List Nat) (hn : ops.length ≤ 1048576) (ha : 0 < ops.length → a = some ⟨b, off, none⟩ ∧ ops.length ≤ cap) (h : Hid (Ops w b off ops bs T)) :
    Calls Try.prog 5 #[.slice a ops.length cap] w (MuchOut w) := by
  have HA := Lib.hid ha
  clear ha
  go_enter Try.func5, Try.ntmps5
  go_wp2_with fail
  go_loopw [3, 4, 5] (fun nv av iv' wr => ∃ (n m i : Nat), i ≤ ops.length ∧ iv' = .int .i64 i ∧ nv = .int .i64 n ∧ av = .int .i64 m ∧ m ≤ i * 2170000 ∧ n ≤ 33554432 + 2170000 * (i + 1) ∧ Hid (Kept [] w wr)) (fun _ _ iv' _ => ops.length - (intOf iv').toNat)
  case atStart => exact ⟨0, 0, 0, by omega, rfl, rfl, rfl, by omega, by omega, Kept.refl _ _⟩
  case round =>
    obtain ⟨n, m, i, hi, rfl, rfl, rfl, hm, hnn, hK⟩ := hrel
    have hi1 : i + 1 ≤ 1048577 := by omega
    have hbig0 : n ≤ 3000000000000 := Nat.le_trans hnn (Nat.le_trans (Nat.add_le_add_left (Nat.mul_le_mul_left _ hi1) _) (Nat.le_of_ble_eq_true (by kernel_rfl)))
    clear hi1
    have hbig := Lib.hid hbig0
    clear hbig0
    by_cases hlt : i < ops.length
    · by_cases hroom : n ≤ 33554432
      · obtain ⟨rfl, hcap⟩ := HA.out (by omega)
        have hO := (h.out.kept hK.out (fun i _ hm => by simp at hm)).at' i hlt
        obtain ⟨h1, h2, h3, h4, h5⟩ := hO
        obtain ⟨o, ho⟩ : ∃ o, o = ops[i] := ⟨_, rfl⟩
        rw [← ho] at h2 h3 h5
        clear ho
        obtain ⟨ba, bc, hob⟩ := Lst.src_slice h3.b
        have d1 : wr.cell? ⟨b, off + i * 6 + 1, none⟩ = some (.int .i64 o.kind) := h2 1 (by decide)
        have d4 : wr.cell? ⟨b, off + i * 6 + 4, none⟩ = some (.slice ba (bs i).length bc) := by rw [← hob]; exact h2 4 (by decide)
        have d5 : wr.cell? ⟨b, off + i * 6 + 5, none⟩ = some (.string o.s) := h2 5 (by decide)
        have j1 : (i : Int) < (ops.length : Int) := by omega
        have j2 : (n : Int) ≤ 33554432 := by omega
        obtain ⟨ln, hln⟩ : ∃ ln, ln = (bs i).length := ⟨_, rfl⟩
        rw [← hln] at d4 h4
        clear hln h2 h3 hob HA
        by_cases c12 : o.kind = 12
        · have t12 : (o.kind == 12) = true := by rw [c12]; rfl
          have t11 : (o.kind == 11) = false := by rw [c12]; rfl
          clear c12
          go_wp2_with fail
          go_quiet (fail)
          go_wp2_with fail
          go_roundw
          case rel => exact ⟨n + (16 + ln + o.s.size + 70000), m + (16 + ln + o.s.size + 70000), i + 1, by omega, by go_num, by go_num, by go_num, by omega, by omega, hK.out.drewN nq⟩
          case measure => simp [intOf]; omega
        · have t12 : (o.kind == 12) = false := beq_eq_false_iff_ne.2 c12
          by_cases c11 : o.kind = 11
          · have t11 : (o.kind == 11) = true := by rw [c11]; rfl
            clear c11 c12
            go_wp2_with fail
            go_quiet (fail)
            go_wp2_with fail
            go_roundw
            case rel => exact ⟨n + (16 + ln + o.s.size) + (m + (16 + ln + o.s.size)), m + (16 + ln + o.s.size), i + 1, by omega, by go_num, by go_num, by go_num, by omega, by omega, hK.out.drewN nq⟩
            case measure => simp [intOf]; omega
          · have t11 : (o.kind == 11) = false := beq_eq_false_iff_ne.2 c11
            clear c11 c12
            go_wp2_with fail
            go_quiet (fail)
            go_wp2_with fail
            go_roundw
            case rel => exact ⟨n + (16 + ln + o.s.size), m + (16 + ln + o.s.size), i + 1, by omega, by go_num, by go_num, by go_num, by omega, by omega, hK.out.drewN nq⟩
            case measure => simp [intOf]; omega
      · have j1 : (i : Int) < (ops.length : Int) := by omega
        have j2 : ¬ (n : Int) ≤ 33554432 := by omega
        go_wp2_with fail
        go_ret
        exact ⟨n, rfl, hbig.out, hK⟩
    · have j1 : ¬ (i : Int) < (ops.length : Int) := by omega
      go_wp2_with fail
      go_ret
      exact ⟨n, rfl, hbig.out, hK⟩
end Lst
end Go.Proofs.Ytfdbpbhihccgbaa
