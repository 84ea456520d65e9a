/- A record that comes in, opened. -/
import Derived.Test.YteebiemfhicgbaaRpt
import Derived.Test.YteebiemfhicgbaaRows
import Derived.WalkKit
import Derived.ProofKit
import Derived.OpenShut
import Derived.ShutString
import Derived.SizedLaws
namespace Go.Proofs.Yteebiemfhicgbaa.Ope
open Go.ChangeShapes Go.WideShapes Go.ChangeAt Go.RowKit
open Go.ChangeMaps (open_string shut_string)
set_option linter.unusedVariables false
theorem laidOut : laidOutB Try.prog = true := by kernel_rfl
theorem k13 : Try.prog.cellsOf 30 = 13 := by kernel_rfl
theorem k3 : Try.prog.cellsOf 28 = 3 := by kernel_rfl
theorem k_u16 : Try.prog.cellsOf 24 = 1 := by kernel_rfl
theorem k_u32 : Try.prog.cellsOf 25 = 1 := by kernel_rfl
theorem k_u8 : Try.prog.cellsOf 5 = 1 := by kernel_rfl
theorem k_u64 : Try.prog.cellsOf 26 = 1 := by kernel_rfl
theorem k_s : Try.prog.cellsOf 9 = 1 := by kernel_rfl
section
variable {H : Type} {enc : TypeId × Value → H} {w : World} {base : Nat} {spare : Nat → Bool} {held : Bool}
theorem nat_of {x : Int} {m : Nat} (h : 0 ≤ x ∧ x ≤ m) : ∃ n : Nat, x = n ∧ n ≤ m := ⟨x.toNat, by omega, by omega⟩
theorem qid {fuel : Nat} {a b c : Value} {x : DataW H × List MemPlace} (h : DataW.trod enc Try.prog w base spare held fuel 28 [a, b, c] = some x) :
    ∃ k v q : Nat, k ≤ 255 ∧ v ≤ 4294967295 ∧ q ≤ 18446744073709551615 ∧ a = .int .u8 k ∧ b = .int .u32 v ∧ c = .int .u64 q := by
  obtain ⟨xs, n, _, hx, _, hlen, hg⟩ := DataW.trod_struct Try.underlying28 h
  match xs, hlen with
  | [y0, y1, y2], _ =>
    have g0 : DataW.trod enc Try.prog w base spare held n 5 [a] = some y0 := by simpa [k_u8] using hg 0 _ rfl
    have g1 : DataW.trod enc Try.prog w base spare held n 25 [b] = some y1 := by simpa [k_u32] using hg 1 _ rfl
    have g2 : DataW.trod enc Try.prog w base spare held n 26 [c] = some y2 := by simpa [k_u64] using hg 2 _ rfl
    obtain ⟨n0, e0, -, w0⟩ := DataW.trod_int Try.underlying5 g0
    obtain ⟨n1, e1, -, w1⟩ := DataW.trod_int Try.underlying25 g1
    obtain ⟨n2, e2, -, w2⟩ := DataW.trod_int Try.underlying26 g2
    simp only [List.cons.injEq, and_true] at e0 e1 e2
    subst e0 e1 e2
    obtain ⟨m0, rfl, h0⟩ := nat_of (m := 255) (bounds_u8 w0)
    obtain ⟨m1, rfl, h1⟩ := nat_of (m := 4294967295) (bounds_u32 w1)
    obtain ⟨m2, rfl, h2⟩ := nat_of (m := 18446744073709551615) (bounds_u64 w2)
    exact ⟨m0, m1, m2, h0, h1, h2, rfl, rfl, rfl⟩

set_option maxRecDepth 100000 in
set_option maxHeartbeats 1000000 in
theorem record {r : Reach} {b0 : Nat} {v : Value} {d : DataW H} {p : List MemPlace} (hv : Value.okWide Try.prog w r b0 30 v) (h : DataW.Trod enc Try.prog w base spare held 30 v d p) (hw : ∀ x ∈ d.weights Try.prog 30, x ≤ 140737488355328) : ∃ s : Rec, s.Ok ∧ v = s.val := by
  obtain ⟨cs, rfl, hsz⟩ := okWide_struct Try.underlying30 hv
  obtain ⟨l⟩ := cs
  match l, hsz.trans k13 with
  | [c0, c1, c2, c3, c4, c5, c6, c7, c8, c9, c10, c11, c12], _ =>
    obtain ⟨fuel, hf⟩ := h
    obtain ⟨xs, n, _, hx, _, hlen, hg⟩ := DataW.trod_struct Try.underlying30 hf
    match xs, hlen with
    | [y0, y1, y2, y3, y4, y5, y6, y7, y8, y9, y10], _ =>
      have g0 : DataW.trod enc Try.prog w base spare held n 24 [c0] = some y0 := by simpa [Value.cells, k_u16] using hg 0 _ rfl
      have g1 : DataW.trod enc Try.prog w base spare held n 25 [c1] = some y1 := by simpa [Value.cells, k_u32] using hg 1 _ rfl
      have g3 : DataW.trod enc Try.prog w base spare held n 25 [c5] = some y3 := by simpa [Value.cells, k_u32] using hg 3 _ rfl
      have g4 : DataW.trod enc Try.prog w base spare held n 25 [c6] = some y4 := by simpa [Value.cells, k_u32] using hg 4 _ rfl
      have g5 : DataW.trod enc Try.prog w base spare held n 25 [c7] = some y5 := by simpa [Value.cells, k_u32] using hg 5 _ rfl
      have g6 : DataW.trod enc Try.prog w base spare held n 26 [c8] = some y6 := by simpa [Value.cells, k_u64] using hg 6 _ rfl
      have g2 : DataW.trod enc Try.prog w base spare held n 28 [c2, c3, c4] = some y2 := by simpa [Value.cells, k3] using hg 2 _ rfl
      have g7 : DataW.trod enc Try.prog w base spare held n 9 [c9] = some y7 := by simpa [Value.cells, k_s] using hg 7 _ rfl
      have g8 : DataW.trod enc Try.prog w base spare held n 9 [c10] = some y8 := by simpa [Value.cells, k_s] using hg 8 _ rfl
      have g9 : DataW.trod enc Try.prog w base spare held n 9 [c11] = some y9 := by simpa [Value.cells, k_s] using hg 9 _ rfl
      have g10 : DataW.trod enc Try.prog w base spare held n 9 [c12] = some y10 := by simpa [Value.cells, k_s] using hg 10 _ rfl
      obtain ⟨mk, mv, mq, hk, hvv, hq, rfl, rfl, rfl⟩ := qid g2
      obtain ⟨n0, e0, -, w0⟩ := DataW.trod_int Try.underlying24 g0
      simp only [List.cons.injEq, and_true] at e0
      subst e0
      obtain ⟨m0, rfl, h0⟩ := nat_of (m := 65535) (bounds_u16 w0)
      obtain ⟨n1, e1, -, w1⟩ := DataW.trod_int Try.underlying25 g1
      simp only [List.cons.injEq, and_true] at e1
      subst e1
      obtain ⟨m1, rfl, h1⟩ := nat_of (m := 4294967295) (bounds_u32 w1)
      obtain ⟨n3, e3, -, w3⟩ := DataW.trod_int Try.underlying25 g3
      simp only [List.cons.injEq, and_true] at e3
      subst e3
      obtain ⟨m3, rfl, h3⟩ := nat_of (m := 4294967295) (bounds_u32 w3)
      obtain ⟨n4, e4, -, w4⟩ := DataW.trod_int Try.underlying25 g4
      simp only [List.cons.injEq, and_true] at e4
      subst e4
      obtain ⟨m4, rfl, h4⟩ := nat_of (m := 4294967295) (bounds_u32 w4)
      obtain ⟨n5, e5, -, w5⟩ := DataW.trod_int Try.underlying25 g5
      simp only [List.cons.injEq, and_true] at e5
      subst e5
      obtain ⟨m5, rfl, h5⟩ := nat_of (m := 4294967295) (bounds_u32 w5)
      obtain ⟨n6, e6, -, w6⟩ := DataW.trod_int Try.underlying26 g6
      simp only [List.cons.injEq, and_true] at e6
      subst e6
      obtain ⟨m6, rfl, h6⟩ := nat_of (m := 18446744073709551615) (bounds_u64 w6)
      obtain ⟨s7, e7, x7, z7⟩ := DataW.trod_string Try.underlying9 g7
      simp only [List.cons.injEq, and_true] at e7
      subst e7
      obtain ⟨s8, e8, x8, z8⟩ := DataW.trod_string Try.underlying9 g8
      simp only [List.cons.injEq, and_true] at e8
      subst e8
      obtain ⟨s9, e9, x9, z9⟩ := DataW.trod_string Try.underlying9 g9
      simp only [List.cons.injEq, and_true] at e9
      subst e9
      obtain ⟨s10, e10, x10, z10⟩ := DataW.trod_string Try.underlying9 g10
      simp only [List.cons.injEq, and_true] at e10
      subst e10
      simp only [Prod.mk.injEq] at hx
      obtain ⟨hd, -⟩ := hx
      have q7 : s7.size ≤ 140737488355328 := by
        have e : s7.size = s7.data.toList.length := (Array.length_toList).symm
        rw [e]
        refine hw _ ?_
        rw [hd]
        unfold DataW.weights
        rw [Try.underlying30]
        exact DataW.weights_mem_each (j := 7) (t := 9) (d := y7.1) rfl rfl _ (by rw [x7]; simp [DataW.weights])
      have q8 : s8.size ≤ 140737488355328 := by
        have e : s8.size = s8.data.toList.length := (Array.length_toList).symm
        rw [e]
        refine hw _ ?_
        rw [hd]
        unfold DataW.weights
        rw [Try.underlying30]
        exact DataW.weights_mem_each (j := 8) (t := 9) (d := y8.1) rfl rfl _ (by rw [x8]; simp [DataW.weights])
      have q9 : s9.size ≤ 140737488355328 := by
        have e : s9.size = s9.data.toList.length := (Array.length_toList).symm
        rw [e]
        refine hw _ ?_
        rw [hd]
        unfold DataW.weights
        rw [Try.underlying30]
        exact DataW.weights_mem_each (j := 9) (t := 9) (d := y9.1) rfl rfl _ (by rw [x9]; simp [DataW.weights])
      have q10 : s10.size ≤ 140737488355328 := by
        have e : s10.size = s10.data.toList.length := (Array.length_toList).symm
        rw [e]
        refine hw _ ?_
        rw [hd]
        unfold DataW.weights
        rw [Try.underlying30]
        exact DataW.weights_mem_each (j := 10) (t := 9) (d := y10.1) rfl rfl _ (by rw [x10]; simp [DataW.weights])
      exact ⟨⟨m0, m1, mk, mv, mq, m3, m4, m5, m6, s7, s8, s9, s10⟩, ⟨h0, h1, hk, hvv, hq, h3, h4, h5, h6, q7, q8, q9, q10⟩, rfl⟩
end
end Go.Proofs.Yteebiemfhicgbaa.Ope
