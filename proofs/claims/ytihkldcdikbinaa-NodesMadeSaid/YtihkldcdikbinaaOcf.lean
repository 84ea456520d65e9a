/- A configuration that comes in, opened. -/
import Derived.Test.YtihkldcdikbinaaMdk
import Derived.Test.YtihkldcdikbinaaRows
import Derived.WalkKit
import Derived.ProofKit
import Derived.OpenShut
import Derived.ShutString
import Derived.SizedLaws
namespace Go.Proofs.Ytihkldcdikbinaa.Ocf
open Go.ChangeShapes Go.WideShapes Go.ChangeAt Go.RowKit
open Go.ChangeMaps (open_string shut_string)
set_option linter.unusedVariables false
theorem laidOut : laidOutB Try.prog = true := by kernel_rfl
theorem k10 : Try.prog.cellsOf 32 = 10 := by kernel_rfl
theorem k_u32 : Try.prog.cellsOf 29 = 1 := by kernel_rfl
theorem k_u64 : Try.prog.cellsOf 30 = 1 := by kernel_rfl
theorem k_i : Try.prog.cellsOf 3 = 1 := by kernel_rfl
theorem k_s : Try.prog.cellsOf 9 = 1 := by kernel_rfl
section
variable {H : Type} {enc : TypeId × Value → H} {w : World} {base : Nat} {spare : Nat → Bool} {held : Bool}
theorem nat_of {x : Int} {m : Nat} (h : 0 ≤ x ∧ x ≤ m) : ∃ n : Nat, x = n ∧ n ≤ m := ⟨x.toNat, by omega, by omega⟩
set_option maxRecDepth 100000 in
set_option maxHeartbeats 1000000 in
theorem config {r : Reach} {b0 : Nat} {v : Value} {d : DataW H} {p : List MemPlace} (hv : Value.okWide Try.prog w r b0 32 v) (h : DataW.Trod enc Try.prog w base spare held 32 v d p) (hw : ∀ x ∈ d.weights Try.prog 32, x ≤ 140737488355328) :
    ∃ (V : Array Value) (us ow gr : ByteArray) (perm : Nat) (n : Int), v = .agg V ∧ V.size = 10 ∧ V[0]? = some (.string us) ∧ V[1]? = some (.string ow) ∧ V[2]? = some (.string gr) ∧ V[3]? = some (.int .u32 perm) ∧ V[8]? = some (.int .i64 n) ∧ us.size ≤ 140737488355328 ∧ ow.size ≤ 140737488355328 ∧ gr.size ≤ 140737488355328 ∧ perm < 4294967296 := by
  obtain ⟨cs, rfl, hsz⟩ := okWide_struct Try.underlying32 hv
  obtain ⟨l⟩ := cs
  match l, hsz.trans k10 with
  | [c0, c1, c2, c3, c4, c5, c6, c7, c8, c9], _ =>
    obtain ⟨fuel, hf⟩ := h
    obtain ⟨xs, n, _, hx, _, hlen, hg⟩ := DataW.trod_struct Try.underlying32 hf
    match xs, hlen with
    | [y0, y1, y2, y3, y4, y5, y6, y7, y8, y9], _ =>
      have g0 : DataW.trod enc Try.prog w base spare held n 9 [c0] = some y0 := by simpa [Value.cells, k_s] using hg 0 _ rfl
      have g1 : DataW.trod enc Try.prog w base spare held n 9 [c1] = some y1 := by simpa [Value.cells, k_s] using hg 1 _ rfl
      have g2 : DataW.trod enc Try.prog w base spare held n 9 [c2] = some y2 := by simpa [Value.cells, k_s] using hg 2 _ rfl
      have g3 : DataW.trod enc Try.prog w base spare held n 29 [c3] = some y3 := by simpa [Value.cells, k_u32] using hg 3 _ rfl
      have g8 : DataW.trod enc Try.prog w base spare held n 3 [c8] = some y8 := by simpa [Value.cells, k_i] using hg 8 _ rfl
      obtain ⟨s0, e0, x0, z0⟩ := DataW.trod_string Try.underlying9 g0
      simp only [List.cons.injEq, and_true] at e0
      subst e0
      obtain ⟨s1, e1, x1, z1⟩ := DataW.trod_string Try.underlying9 g1
      simp only [List.cons.injEq, and_true] at e1
      subst e1
      obtain ⟨s2, e2, x2, z2⟩ := DataW.trod_string Try.underlying9 g2
      simp only [List.cons.injEq, and_true] at e2
      subst e2
      obtain ⟨n3, e3, -, w3⟩ := DataW.trod_int Try.underlying29 g3
      simp only [List.cons.injEq, and_true] at e3
      subst e3
      obtain ⟨m3, rfl, h3⟩ := nat_of (m := 4294967295) (bounds_u32 w3)
      obtain ⟨n8, e8, -, w8⟩ := DataW.trod_int Try.underlying3 g8
      simp only [List.cons.injEq, and_true] at e8
      subst e8
      simp only [Prod.mk.injEq] at hx
      obtain ⟨hd, -⟩ := hx
      have q0 : s0.size ≤ 140737488355328 := by
        have e : s0.size = s0.data.toList.length := (Array.length_toList).symm
        rw [e]
        refine hw _ ?_
        rw [hd]
        unfold DataW.weights
        rw [Try.underlying32]
        exact DataW.weights_mem_each (j := 0) (t := 9) (d := y0.1) rfl rfl _ (by rw [x0]; simp [DataW.weights])
      have q1 : s1.size ≤ 140737488355328 := by
        have e : s1.size = s1.data.toList.length := (Array.length_toList).symm
        rw [e]
        refine hw _ ?_
        rw [hd]
        unfold DataW.weights
        rw [Try.underlying32]
        exact DataW.weights_mem_each (j := 1) (t := 9) (d := y1.1) rfl rfl _ (by rw [x1]; simp [DataW.weights])
      have q2 : s2.size ≤ 140737488355328 := by
        have e : s2.size = s2.data.toList.length := (Array.length_toList).symm
        rw [e]
        refine hw _ ?_
        rw [hd]
        unfold DataW.weights
        rw [Try.underlying32]
        exact DataW.weights_mem_each (j := 2) (t := 9) (d := y2.1) rfl rfl _ (by rw [x2]; simp [DataW.weights])
      exact ⟨_, s0, s1, s2, m3, n8, rfl, rfl, rfl, rfl, rfl, rfl, rfl, q0, q1, q2, by omega⟩
end
end Go.Proofs.Ytihkldcdikbinaa.Ocf
