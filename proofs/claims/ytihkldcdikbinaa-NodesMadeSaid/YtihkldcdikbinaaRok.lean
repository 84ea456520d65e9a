/- The reference's New makes a root. -/
import Derived.Test.YtihkldcdikbinaaRnw
namespace Go.Proofs.Ytihkldcdikbinaa
set_option linter.unusedVariables false
open Go.RowKit
namespace Nd
open Go.Proofs.Ytihkldcdikbinaa.Utf Go.Proofs.Ytihkldcdikbinaa.Txt Go.PlainAid Go.Proofs.Ytihkldcdikbinaa.Mpf

/-- The reference's store of the root alone. -/
structure RSt (w : World) (r en : Nat) (n : Int) (d : Is) : Prop where
  st : Bx w r 99 #[.int .i64 n, .int .u64 2, .slice (some ⟨en, 0, none⟩) 1 1]
  en : Bx w en 96 (isL d 0 ++ [Value.slice none 0 0]).toArray
theorem RSt.kept {w w' : World} {r en : Nat} {n : Int} {d : Is} (h : RSt w r en n d) (k : Kept [] w w') : RSt w' r en n d := ⟨h.st.kept k (by simp), h.en.kept k (by simp)⟩
set_option maxRecDepth 100000 in
theorem rNew_ok (w : World) (V : Array Value) (ow gr : ByteArray) (perm : Nat) (n : Int) (v1 : V[1]? = some (.string ow)) (v2 : V[2]? = some (.string gr)) (v3 : V[3]? = some (.int .u32 perm)) (v8 : V[8]? = some (.int .i64 n)) (hs1 : ow.size ≤ 140737488355328) (hs2 : gr.size ≤ 140737488355328) (h0 : 1 ≤ n) (h1 : n ≤ 4096) (hperm : perm ≤ 511) (ho : userOk ow = true) (hg : userOk gr = true) (he : ¬ ow.toList = []) (hf : ¬ gr.toList = []) (md : Nat) (hmd : bits .or .u32 2147483648 (perm : Int) = (md : Int)) :
    Calls Try.prog 14 #[.agg V] w fun e w' => ∃ r en, e = .returned (.tuple #[.pointer (some ⟨r, 0, none⟩), .int .i64 0]) ∧ RSt w' r en n ⟨1, 1, ⟨#[47]⟩, md, ow, gr, ow, 0, 0, 0, 0, 0⟩ ∧ Kept [] w w' := by
  have B0 : Hid (Bx (w.alloc (.cells V 32)) w.heap.size 32 V) := Bx.made _ _ _
  have c1 := B0.out.cell 1 v1
  have U1 := Lib.hid (fun W => ruser_any W ow hs1)
  have U2 := Lib.hid (fun W => ruser_any W gr hs2)
  have v1' := Lib.hid v1
  have v2' := Lib.hid v2
  have v3' := Lib.hid v3
  have v8' := Lib.hid v8
  simp only [ho] at U1
  simp only [hg] at U2
  have d1 : decide (n < 1) = false := decide_eq_false (by omega)
  have d2 : decide ((4096 : Int) < n) = false := decide_eq_false (by omega)
  have d3 : decide ((511 : Int) < (perm : Int)) = false := decide_eq_false (by omega)
  have e1 : ow.toList.isEmpty = false := by simpa using he
  have e0 : (ow.toList == []) = false := by simpa using he
  have e2 : gr.toList.isEmpty = false := by simpa using hf
  have e3 : (gr.toList == []) = false := by simpa using hf
  clear v1 v2 v3 v8
  go_enter Try.func14, Try.ntmps14
  go_wp2_with (first | (go_at_call 36; ((with_reducible refine (U2.out _).mono ?_)); rintro e w2 ⟨rfl, k2⟩; have B2 := Lib.hid (B1.out.kept k2 (by simp)); have c21 := B2.out.cell 1 v1'.out; have c22 := B2.out.cell 2 v2'.out; have c23 := B2.out.cell 3 v3'.out; have c28 := B2.out.cell 8 v8'.out; have B3 := Lib.hid (Bx.alloc B2.out (.cells #[.int .u64 1, .int .u64 1, .string ⟨#[47]⟩, .int .u32 md, .string ow, .string gr, .string ow, .int .u32 0, .int .u32 0, .int .u32 0, .int .u64 0, .int .i64 0, .int .i64 0] 41)); have c38 := B3.out.cell 8 v8'.out) | (go_at_call 36; ((with_reducible refine (U1.out _).mono ?_)); rintro e w1 ⟨rfl, k1⟩; have B1 := Lib.hid (B0.out.kept k1 (by simp)); have c12 := B1.out.cell 2 v2'.out))
  go_ret2
  refine ⟨_, _, rfl, ⟨alloc_new _ _ _ (by simp), Bx.alloc (alloc_new _ _ _ (by simp)) _⟩, ?_⟩
  exact (((((((Kept.refl [] w).alloc _).trans k1 (fun i hi => by cases hi)).trans k2 (fun i hi => by cases hi)).alloc _).alloc _).alloc _)
end Nd
end Go.Proofs.Ytihkldcdikbinaa
