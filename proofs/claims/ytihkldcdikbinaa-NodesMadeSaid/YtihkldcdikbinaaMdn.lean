/- Both New refuse the same configurations; NodesMade walked where it hands out nothing. -/
import Derived.Test.YtihkldcdikbinaaRnd
import Derived.Test.YtihkldcdikbinaaPrb
import Derived.Test.YtihkldcdikbinaaWkv
namespace Go.Proofs.Ytihkldcdikbinaa
set_option linter.unusedVariables false
open Go.RowKit
namespace Nd
open Go.Proofs.Ytihkldcdikbinaa.Utf Go.Proofs.Ytihkldcdikbinaa.Txt Go.PlainAid Go.Proofs.Ytihkldcdikbinaa.Mpf
def cfgOk (ow gr : ByteArray) (perm : Nat) (n : Int) : Prop := 1 ≤ n ∧ n ≤ 4096 ∧ perm ≤ 511 ∧ bodyOk ow = true ∧ bodyOk gr = true
theorem body_parts {s : ByteArray} (h : bodyOk s = true) : userOk s = true ∧ ¬ s.toList = [] := by
  unfold bodyOk at h
  rw [Bool.and_eq_true] at h
  refine ⟨h.2, fun e => ?_⟩
  rw [e] at h
  exact absurd h.1 (by decide)
theorem body_of {s : ByteArray} (h : userOk s = true) (he : ¬ s.toList = []) : bodyOk s = true := by
  unfold bodyOk
  rw [Bool.and_eq_true]
  refine ⟨?_, h⟩
  have : (s.toList == []) = false := by simpa using he
  rw [this]; rfl
theorem New_not (w : World) (V : Array Value) (ow gr : ByteArray) (perm : Nat) (n : Int) (v1 : V[1]? = some (.string ow)) (v2 : V[2]? = some (.string gr)) (v3 : V[3]? = some (.int .u32 perm)) (v8 : V[8]? = some (.int .i64 n)) (hs1 : ow.size ≤ 140737488355328) (hs2 : gr.size ≤ 140737488355328) (hp : perm < 4294967296) (hb : ¬ cfgOk ow gr perm n) :
    Calls Try.prog 13 #[.agg V] w fun e w' => e = .returned (.tuple #[.pointer none, .int .i64 1]) ∧ Kept [] w w' := by
  by_cases h0 : n < 1
  · exact New_errA w V ow gr perm n v1 v2 v3 v8 hs1 hs2 h0
  by_cases h1 : 4096 < n
  · exact New_errB w V ow gr perm n v1 v2 v3 v8 hs1 hs2 (by omega) h1
  by_cases h2 : bits .andNot .u32 (perm : Int) 511 = 0
  · by_cases h3 : bodyOk ow = true
    · by_cases h4 : bodyOk gr = true
      · exact absurd ⟨by omega, by omega, (perm_bits perm hp).1 h2, h3, h4⟩ hb
      · exact New_errE w V ow gr perm n v1 v2 v3 v8 hs1 hs2 (by omega) (by omega) h2 h3 (by simpa using h4)
    · exact New_errD w V ow gr perm n v1 v2 v3 v8 hs1 hs2 (by omega) (by omega) h2 (by simpa using h3)
  · exact New_errC w V ow gr perm n v1 v2 v3 v8 hs1 hs2 (by omega) (by omega) h2
theorem rNew_not (w : World) (V : Array Value) (ow gr : ByteArray) (perm : Nat) (n : Int) (v1 : V[1]? = some (.string ow)) (v2 : V[2]? = some (.string gr)) (v3 : V[3]? = some (.int .u32 perm)) (v8 : V[8]? = some (.int .i64 n)) (hs1 : ow.size ≤ 140737488355328) (hs2 : gr.size ≤ 140737488355328) (hb : ¬ cfgOk ow gr perm n) :
    Calls Try.prog 14 #[.agg V] w fun e w' => e = .returned (.tuple #[.pointer none, .int .i64 1]) ∧ Kept [] w w' := by
  by_cases h0 : n < 1
  · exact rNew_errA w V ow gr perm n v1 v2 v3 v8 hs1 hs2 h0
  by_cases h1 : 4096 < n
  · exact rNew_errB w V ow gr perm n v1 v2 v3 v8 hs1 hs2 (by omega) h1
  by_cases h2 : perm ≤ 511
  · by_cases h3 : userOk ow = true
    · by_cases h4 : userOk gr = true
      · by_cases h5 : ow.toList = []
        · exact rNew_errF w V ow gr perm n v1 v2 v3 v8 hs1 hs2 (by omega) (by omega) h2 h3 h4 h5
        · by_cases h6 : gr.toList = []
          · exact rNew_errG w V ow gr perm n v1 v2 v3 v8 hs1 hs2 (by omega) (by omega) h2 h3 h4 h5 h6
          · exact absurd ⟨by omega, by omega, h2, body_of h3 h5, body_of h4 h6⟩ hb
      · exact rNew_errE w V ow gr perm n v1 v2 v3 v8 hs1 hs2 (by omega) (by omega) h2 h3 (by simpa using h4)
    · exact rNew_errD w V ow gr perm n v1 v2 v3 v8 hs1 hs2 (by omega) (by omega) h2 (by simpa using h3)
  · exact rNew_errC w V ow gr perm n v1 v2 v3 v8 hs1 hs2 (by omega) (by omega) (by omega)
theorem size_config : (Try.prog.info? 32).map (·.size) = some 10 := by kernel_rfl
theorem wpList_load_config {w : World} {ops : Array Oper} {rest : List Oper} {op : Oper} {a : Act} {Q : Exit → Act → World → Prop} (hgd : op.guard = none) (x : Operand) (ho : op.op = .load 32 x) (B : Nat) (V : Array Value) (h : Bx w B 32 V) (hx : a.eval x = .pointer (some ⟨B, 0, none⟩)) (hV : V.size = 10)
    (hK : wpList Try.prog ops Q rest (a.put op.dst (.agg V)) w) : wpList Try.prog ops Q (op :: rest) a w :=
  wpList_plain hgd fun K hK' => wp_load_row 32 x ho B hx 32 _ (0, 0) _ h Try.underlying32 rfl (by rw [hV]; exact size_config) (hK' _ _ hK)
theorem made_big (w : World) (V : Array Value) (us ow gr : ByteArray) (hV : V.size = 10) (v0 : V[0]? = some (.string us)) (v1 : V[1]? = some (.string ow)) (v2 : V[2]? = some (.string gr)) (hs0 : us.size ≤ 140737488355328) (hs1 : ow.size ≤ 140737488355328) (hs2 : gr.size ≤ 140737488355328)
    (hz : 8388608 < 100 + us.size + ow.size + gr.size) :
    Calls Try.prog 4 #[.agg V] w fun e w' => e = .returned (.bool true) ∧ Kept [] w w' := by
  have B0 : Hid (Bx (w.alloc (.cells V 32)) w.heap.size 32 V) := Bx.made _ _ _
  have WORKS := Lib.hid (fun W => works_any W)
  obtain ⟨z, hz0⟩ : ∃ z : Int, z = 100 + us.size + ow.size + gr.size := ⟨_, rfl⟩
  have OFC := Lib.hid (fun W => ofConfig_any W V us ow gr v0 v1 v2 hs0 hs1 hs2 z hz0)
  have dz : decide ((8388608 : Int) < z) = true := decide_eq_true (by omega)
  have hV' := Lib.hid hV
  clear hz hz0 v0 v1 v2 hV
  go_enter Try.func4, Try.ntmps4
  go_wp2_with (first | (go_at_call 11; ((with_reducible refine (WORKS.out _).mono ?_)); rintro e w1 ⟨rfl, k1⟩; have B1 := Lib.hid (B0.out.kept k1 (by simp))) | (refine wpList_load_config rfl _ rfl w.heap.size V B1.out rfl hV'.out ?_) | (go_at_call 12; ((with_reducible refine (OFC.out _).mono ?_)); rintro e w2 ⟨rfl, k2⟩))
  go_ret
  exact ⟨rfl, (((Kept.refl [] w).alloc _).trans k1 (fun i hi => by cases hi)).trans k2 (fun i hi => by cases hi)⟩
theorem made_not (w : World) (V : Array Value) (us ow gr : ByteArray) (perm : Nat) (n : Int) (hV : V.size = 10) (v0 : V[0]? = some (.string us)) (v1 : V[1]? = some (.string ow)) (v2 : V[2]? = some (.string gr)) (v3 : V[3]? = some (.int .u32 perm)) (v8 : V[8]? = some (.int .i64 n)) (hs0 : us.size ≤ 140737488355328) (hs1 : ow.size ≤ 140737488355328) (hs2 : gr.size ≤ 140737488355328)
    (hz : ¬ 8388608 < 100 + us.size + ow.size + gr.size) (hp : perm < 4294967296) (hb : ¬ cfgOk ow gr perm n) :
    Calls Try.prog 4 #[.agg V] w fun e w' => e = .returned (.bool true) ∧ Kept [] w w' := by
  have B0 : Hid (Bx (w.alloc (.cells V 32)) w.heap.size 32 V) := Bx.made _ _ _
  have WORKS := Lib.hid (fun W => works_any W)
  obtain ⟨z, hz0⟩ : ∃ z : Int, z = 100 + us.size + ow.size + gr.size := ⟨_, rfl⟩
  have OFC := Lib.hid (fun W => ofConfig_any W V us ow gr v0 v1 v2 hs0 hs1 hs2 z hz0)
  have NEW := Lib.hid (fun W => New_not W V ow gr perm n v1 v2 v3 v8 hs1 hs2 hp hb)
  have RNEW := Lib.hid (fun W => rNew_not W V ow gr perm n v1 v2 v3 v8 hs1 hs2 hb)
  have dz : decide ((8388608 : Int) < z) = false := decide_eq_false (by omega)
  have hV' := Lib.hid hV
  clear hz hz0 v0 v1 v2 v3 v8 hV hb
  go_enter Try.func4, Try.ntmps4
  go_wp2_with (first | (go_at_call 11; ((with_reducible refine (WORKS.out _).mono ?_)); rintro e w1 ⟨rfl, k1⟩; have B1 := Lib.hid (B0.out.kept k1 (by simp))) | (refine wpList_load_config rfl _ rfl w.heap.size V B3.out rfl hV'.out ?_) | (refine wpList_load_config rfl _ rfl w.heap.size V B2.out rfl hV'.out ?_) | (refine wpList_load_config rfl _ rfl w.heap.size V B1.out rfl hV'.out ?_) | (go_at_call 12; ((with_reducible refine (OFC.out _).mono ?_)); rintro e w2 ⟨rfl, k2⟩; have B2 := Lib.hid (B1.out.kept k2 (by simp))) | (go_at_call 13; ((with_reducible refine (NEW.out _).mono ?_)); rintro e w3 ⟨rfl, k3⟩; have B3 := Lib.hid (B2.out.kept k3 (by simp))) | (go_at_call 14; ((with_reducible refine (RNEW.out _).mono ?_)); rintro e w4 ⟨rfl, k4⟩))
  go_ret
  exact ⟨rfl, (((((Kept.refl [] w).alloc _).trans k1 (fun i hi => by cases hi)).trans k2 (fun i hi => by cases hi)).trans k3 (fun i hi => by cases hi)).trans k4 (fun i hi => by cases hi)⟩
end Nd
end Go.Proofs.Ytihkldcdikbinaa
