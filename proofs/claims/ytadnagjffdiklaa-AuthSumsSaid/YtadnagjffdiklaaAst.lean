/- What step, Sum and Ours do: for every key and every list of numbers; no memory is turned but what is new. -/
import Derived.Test.YtadnagjffdiklaaKept
import Derived.Test.YtadnagjffdiklaaProg
import Derived.Test.YtadnagjffdiklaaAsm
import Derived.Laws.Bits64
import Derived.RegionTactic
import Derived.LoopTactic
import Derived.WalkKit
import Derived.WalkSmall
import Derived.Lib.Hide
import Derived.PlainAid
import Derived.Deep.RegionWith
namespace Go.Proofs.Ytadnagjffdiklaa.Ast
set_option linter.unusedVariables false
open Go.RowKit Go.PlainAid Go.Proofs.Ytadnagjffdiklaa.Asm

def uv (n : Nat) : Value := .int .u64 n
theorem xor_of {a b : Nat} (ha : a < top) (hb : b < top) : bits .xor .u64 (a : Int) (b : Int) = ((a ^^^ b : Nat) : Int) := bits_xor_u64_nat a b ha hb
theorem step_any (w : World) (h n : Nat) (hh : h < top) (hn : n < top) (z : Nat) (hz : Hid (z = stp h n)) :
    Calls Try.prog 7 #[.int .u64 h, .int .u64 n] w fun e w' => e = .returned (.int .u64 z) ∧ w' = w := by
  have X1 := xor_of hh hn
  obtain ⟨m, hm⟩ : ∃ m, m = (h ^^^ n) * 11800147728694460525 % top := ⟨_, rfl⟩
  have hmt : m < 18446744073709551616 := by rw [hm]; exact Nat.mod_lt _ (by decide)
  have X2 : IntKind.wrap .u64 (((h ^^^ n : Nat) : Int) * 11800147728694460525) = (m : Int) := by
    rw [IntKind.wrap_u64, hm]; unfold top; omega
  have hzz : z = m ^^^ (m / 536870912) := by rw [hz.out, hm]; rfl
  have X3 : bits .xor .u64 (m : Int) ((m : Int) / 536870912) = (z : Int) := by
    rw [hzz]; exact xorShift_u64 m 536870912 hmt
  clear hm hzz hz
  go_enter Try.func7, Try.ntmps7
  go_wp2_with fail
  go_ret
  exact ⟨rfl, rfl⟩

/-- What the key's steps are, up to a byte. -/
def kn (key : List UInt8) : List Nat := key.map fun b => b.toNat + 1
def init : Nat := 7880330927811272263
theorem sum_eq (key : List UInt8) (l : List Nat) : Hid (stp (run (stp (run init (kn key)) key.length) l) l.length = sum key l) := by
  unfold Hid Asm.sum nums
  rw [run_snoc, run_append, run_snoc]
  rfl
theorem kn_lt (b : UInt8) : b.toNat + 1 < top := by have := b.toNat_lt; unfold top; omega
/-- A list of numbers that can be read. -/
def Nums (w : World) (v : Value) (l : List Nat) : Prop := ∃ a c, v = .slice a l.length c ∧ ∀ i n, l[i]? = some n → ∃ ad, a = some ad ∧ w.cell? (ad.add i) = some (uv n)

set_option maxHeartbeats 1000000 in
theorem sum_any (w : World) (key : ByteArray) (v : Value) (l : List Nat) (z : Nat) (hk : key.size ≤ 140737488355328) (hl : l.length ≤ 140737488355328) (hlt : Hid (∀ x ∈ l, x < top)) (hv : Hid (Nums w v l)) (hz : Hid (z = sum key.data.toList l)) :
    Calls Try.prog 5 #[.string key, v] w fun e w' => e = .returned (.int .u64 z) ∧ w' = w := by
  obtain ⟨a, c, rfl, hat⟩ := hv.out
  have hath := Lib.hid hat
  clear hat hv
  have hb := get_bt key
  go_enter Try.func5, Try.ntmps5
  go_wp2_with fail
  go_loop [5, 11] (fun hv iv => ∃ (i x : Nat), i ≤ key.size ∧ iv = .int .i64 i ∧ hv = .int .u64 x ∧ x < top ∧ Hid (x = run init (kn (key.data.toList.take i)))) (fun _ iv => key.size - (intOf iv).toNat)
  case atStart => exact ⟨0, init, by omega, rfl, rfl, by decide, rfl⟩
  case round =>
    obtain ⟨i, x, hi, rfl, rfl, hx, hX⟩ := hrel
    have hlen : key.data.toList.length = key.size := by simp
    by_cases hlt1 : i < key.size
    · have hlt' : (i : Int) < (key.size : Int) := by omega
      obtain ⟨b, hbb⟩ : ∃ b, b = key.data.toList[i]'(by omega) := ⟨_, rfl⟩
      have hbt : bt key i = (b.toNat : Int) := by rw [← hb i hlt1, hbb]; rfl
      have hbn := b.toNat_lt
      have W1 : IntKind.wrap .u64 (IntKind.wrap .u64 (bt key i) + 1) = ((b.toNat + 1 : Nat) : Int) := by
        rw [IntKind.wrap_u64, IntKind.wrap_u64, hbt]; omega
      have HX2 : Hid (stp x (b.toNat + 1) = run init (kn (key.data.toList.take (i + 1)))) := by
        unfold Hid kn
        rw [List.take_succ_eq_append_getElem (by omega), List.map_append, hX.out, ← hbb]
        exact (run_snoc init (b.toNat + 1) _).symm
      clear hbt hbb
      go_wp2_with fail
      refine (step_any _ x (b.toNat + 1) hx (kn_lt b) _ rfl).mono ?_
      rintro e w2 ⟨rfl, rfl⟩
      go_wp2_with fail
      go_roundw
      case rel => exact ⟨i + 1, stp x (b.toNat + 1), by omega, by go_num, rfl, stp_lt _ _, HX2⟩
      case measure => simp [intOf]; omega
    · have hlt' : ¬ (i : Int) < (key.size : Int) := by omega
      have hie : i = key.size := by omega
      have hX1 : x = run init (kn key.data.toList) := by
        rw [hX.out, hie, ← hlen, List.take_length]
      have HX1 := Lib.hid hX1
      have HL := Lib.hid hlen
      have hkt : key.size < top := by unfold top; omega
      have W1 : IntKind.wrap .u64 (key.size : Int) = ((key.size : Nat) : Int) := by rw [IntKind.wrap_u64]; omega
      clear hX hX1 hie hlen
      go_wp2_with fail
      refine (step_any _ x key.size hx hkt _ rfl).mono ?_
      rintro e w2 ⟨rfl, rfl⟩
      obtain ⟨y, hy⟩ : ∃ y, y = stp x key.size := ⟨_, rfl⟩
      have HY : Hid (y = stp (run init (kn key.data.toList)) key.data.toList.length) := by unfold Hid; rw [hy, HX1.out, HL.out]
      have hyt : y < top := by rw [hy]; exact stp_lt _ _
      rw [← hy]
      clear hy
      go_wp2_with fail
      go_loop [5, 29] (fun hv iv => ∃ (j x : Nat), j ≤ l.length ∧ iv = .int .i64 j ∧ hv = .int .u64 x ∧ x < top ∧ Hid (x = run y (l.take j))) (fun _ iv => l.length - (intOf iv).toNat)
      case atStart => exact ⟨0, y, by omega, rfl, rfl, hyt, rfl⟩
      case round =>
        obtain ⟨j, x2, hj, rfl, rfl, hx2, hX2⟩ := hrel
        by_cases hlt2 : j < l.length
        · have hlt2' : (j : Int) < (l.length : Int) := by omega
          obtain ⟨n, hn⟩ : ∃ n, n = l[j] := ⟨_, rfl⟩
          obtain ⟨ad, rfl, hc⟩ := hath.out j n (by rw [hn]; exact List.getElem?_eq_getElem hlt2)
          unfold uv at hc
          have hnt : n < top := hlt.out n (by rw [hn]; exact List.getElem_mem hlt2)
          have HX3 : Hid (stp x2 n = run y (l.take (j + 1))) := by
            unfold Hid
            rw [List.take_succ_eq_append_getElem hlt2, hX2.out, ← hn]
            exact (run_snoc y n _).symm
          clear hn
          go_wp2_with fail
          refine (step_any _ x2 n hx2 hnt _ rfl).mono ?_
          rintro e w3 ⟨rfl, rfl⟩
          go_wp2_with fail
          go_roundw
          case rel => exact ⟨j + 1, stp x2 n, by omega, by go_num, rfl, stp_lt _ _, HX3⟩
          case measure => simp [intOf]; omega
        · have hlt2' : ¬ (j : Int) < (l.length : Int) := by omega
          have hje : j = l.length := by omega
          have HX3 : Hid (x2 = run y l) := by unfold Hid; rw [hX2.out, hje, List.take_length]
          have W2 : IntKind.wrap .u64 (l.length : Int) = ((l.length : Nat) : Int) := by rw [IntKind.wrap_u64]; omega
          have hlt3 : l.length < top := by unfold top; omega
          have HZ : Hid (z = stp x2 l.length) := by
            unfold Hid
            rw [hz.out, HX3.out, HY.out]
            exact (sum_eq key.data.toList l).out.symm
          clear hje hX2
          go_wp2_with fail
          refine (step_any _ x2 l.length hx2 hlt3 z HZ).mono ?_
          rintro e w3 ⟨rfl, rfl⟩
          go_wp2_with fail
          go_ret
          exact ⟨rfl, rfl⟩

/-- An int as the number that Go converts it to. -/
def u64 (x : Int) : Nat := (x % 18446744073709551616).toNat
theorem u64_lt (x : Int) : u64 x < top := by unfold u64 top; omega
theorem wrap_of (x : Int) : IntKind.wrap .u64 x = (u64 x : Int) := by rw [IntKind.wrap_u64]; unfold u64; omega
set_option maxHeartbeats 1000000 in
theorem ours_any (w : World) (s : Nat) (c n : Int) (hs : s < top) (z : Nat) (hz : Hid (z = sum [] [s, u64 c, u64 n])) :
    Calls Try.prog 6 #[.int .u64 s, .int .i64 c, .int .i64 n] w fun e w' => e = .returned (.int .u64 z) ∧ Kept [] w w' := by
  have W1 := wrap_of c
  have W2 := wrap_of n
  obtain ⟨x, hx⟩ : ∃ x, x = u64 c := ⟨_, rfl⟩
  obtain ⟨y, hy⟩ : ∃ y, y = u64 n := ⟨_, rfl⟩
  have hxt := u64_lt c
  have hyt := u64_lt n
  rw [← hx] at W1 hz hxt
  rw [← hy] at W2 hz hyt
  clear hx hy
  go_enter Try.func6, Try.ntmps6
  go_wp2_with fail
  have HN : Hid (Nums (w.alloc (.cells #[.int .u64 (s : Int), .int .u64 (x : Int), .int .u64 (y : Int)] 22)) (.slice (some ⟨w.heap.size, 0, none⟩) 3 3) [s, x, y]) := by
    refine ⟨_, _, rfl, fun i n hi => ⟨_, rfl, ?_⟩⟩
    rw [Addr.add_lit, cell_of_row _ w.heap.size (0 + i) _ 22 (0, 0) (heap_alloc_new w _), Nat.zero_add]
    match i, hi with
    | 0, hi => cases hi; rfl
    | 1, hi => cases hi; rfl
    | 2, hi => cases hi; rfl
    | i + 3, hi => simp at hi
  refine (sum_any _ ⟨#[]⟩ _ [s, x, y] z (by decide) (by simp) (by intro q hq; simp at hq; rcases hq with rfl | rfl | rfl <;> assumption) HN hz).mono ?_
  rintro e w1 ⟨rfl, rfl⟩
  go_wp2_with fail
  go_ret
  exact ⟨rfl, (Kept.refl _ _).alloc _⟩
end Go.Proofs.Ytadnagjffdiklaa.Ast
