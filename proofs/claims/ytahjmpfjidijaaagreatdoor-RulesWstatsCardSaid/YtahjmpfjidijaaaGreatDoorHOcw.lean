/- A case and a record that come in, opened, with their numbers' bounds. -/
import Derived.WalkKit
import Derived.ProofKit
import Derived.OpenShut
import Derived.ShutString
import Derived.SizedLaws
import Derived.Test.YtahjmpfjidijaaaGreatDoorGao
import Derived.Test.YtahjmpfjidijaaaGreatDoorHRwh
namespace Go.Proofs.YtahjmpfjidijaaaGreatDoor.Ocw
open Go.ChangeShapes Go.WideShapes Go.ChangeAt Go.RowKit
open Go.ChangeMaps (open_string shut_string)
open Go.Proofs.YtahjmpfjidijaaaGreatDoor.Ru
set_option linter.unusedVariables false
theorem laidOut : laidOutB Tryz.prog = true := by kernel_rfl
theorem k_u64 : Tryz.prog.cellsOf 48 = 1 := by kernel_rfl
theorem k_u32 : Tryz.prog.cellsOf 49 = 1 := by kernel_rfl
theorem k_u8 : Tryz.prog.cellsOf 5 = 1 := by kernel_rfl
theorem k_i64 : Tryz.prog.cellsOf 3 = 1 := by kernel_rfl
theorem k_s : Tryz.prog.cellsOf 9 = 1 := by kernel_rfl
theorem k_b : Tryz.prog.cellsOf 4 = 1 := by kernel_rfl
theorem k_n : Tryz.prog.cellsOf 51 = 13 := by kernel_rfl
theorem k_f : Tryz.prog.cellsOf 53 = 28 := by kernel_rfl
theorem k_c : Tryz.prog.cellsOf 55 = 33 := by kernel_rfl
section
variable {H : Type} {enc : TypeId × Value → H} {w : World} {base : Nat} {spare : Nat → Bool} {held : Bool}
theorem nat_of {x : Int} {m : Nat} (h : 0 ≤ x ∧ x ≤ m) : ∃ n : Nat, x = n ∧ n ≤ m := ⟨x.toNat, by omega, by omega⟩
/-- A node's texts are short enough, its mode is one of 32 bits. -/
structure Short (d : Nd) : Prop where
  name : d.name.size ≤ 140737488355328
  uid : d.uid.size ≤ 140737488355328
  gid : d.gid.size ≤ 140737488355328
  muid : d.muid.size ≤ 140737488355328
  mode : d.mode < 4294967296
  vers : d.vers ≤ 4294967295
  path : d.path ≤ 18446744073709551615
  atime : d.atime ≤ 4294967295
  mtime : d.mtime ≤ 4294967295
  length : d.length ≤ 18446744073709551615
set_option maxRecDepth 100000 in
set_option maxHeartbeats 1000000 in
theorem node {fuel : Nat} {cs : List Value} {x : DataW H × List MemPlace} (hc : cs.length = 13) (h : DataW.trod enc Tryz.prog w base spare held fuel 51 cs = some x) (hw : ∀ z ∈ x.1.weights Tryz.prog 51, z ≤ 140737488355328) : ∃ d : Nd, cs = d.L ∧ Short d := by
  match cs, hc with
  | [c0, c1, c2, c3, c4, c5, c6, c7, c8, c9, c10, c11, c12], _ =>
    obtain ⟨xs, n, _, hx, _, hlen, hg⟩ := DataW.trod_struct Tryz.underlying51 h
    match xs, hlen with
    | [y0, y1, y2, y3, y4, y5, y6, y7, y8, y9, y10, y11, y12], _ =>
      have g0 : DataW.trod enc Tryz.prog w base spare held n 48 [c0] = some y0 := by simpa [Value.cells, k_u64] using hg 0 _ rfl
      have g1 : DataW.trod enc Tryz.prog w base spare held n 48 [c1] = some y1 := by simpa [Value.cells, k_u64] using hg 1 _ rfl
      have g2 : DataW.trod enc Tryz.prog w base spare held n 9 [c2] = some y2 := by simpa [Value.cells, k_s] using hg 2 _ rfl
      have g3 : DataW.trod enc Tryz.prog w base spare held n 49 [c3] = some y3 := by simpa [Value.cells, k_u32] using hg 3 _ rfl
      have g4 : DataW.trod enc Tryz.prog w base spare held n 9 [c4] = some y4 := by simpa [Value.cells, k_s] using hg 4 _ rfl
      have g5 : DataW.trod enc Tryz.prog w base spare held n 9 [c5] = some y5 := by simpa [Value.cells, k_s] using hg 5 _ rfl
      have g6 : DataW.trod enc Tryz.prog w base spare held n 9 [c6] = some y6 := by simpa [Value.cells, k_s] using hg 6 _ rfl
      have g7 : DataW.trod enc Tryz.prog w base spare held n 49 [c7] = some y7 := by simpa [Value.cells, k_u32] using hg 7 _ rfl
      have g8 : DataW.trod enc Tryz.prog w base spare held n 49 [c8] = some y8 := by simpa [Value.cells, k_u32] using hg 8 _ rfl
      have g9 : DataW.trod enc Tryz.prog w base spare held n 49 [c9] = some y9 := by simpa [Value.cells, k_u32] using hg 9 _ rfl
      have g10 : DataW.trod enc Tryz.prog w base spare held n 48 [c10] = some y10 := by simpa [Value.cells, k_u64] using hg 10 _ rfl
      have g11 : DataW.trod enc Tryz.prog w base spare held n 3 [c11] = some y11 := by simpa [Value.cells, k_i64] using hg 11 _ rfl
      have g12 : DataW.trod enc Tryz.prog w base spare held n 3 [c12] = some y12 := by simpa [Value.cells, k_i64] using hg 12 _ rfl
      obtain ⟨n0, e0, -, w0⟩ := DataW.trod_int Tryz.underlying48 g0
      simp only [List.cons.injEq, and_true] at e0
      subst e0
      obtain ⟨m0, rfl, b0⟩ := nat_of (m := 18446744073709551615) (bounds_u64 w0)
      obtain ⟨n1, e1, -, w1⟩ := DataW.trod_int Tryz.underlying48 g1
      simp only [List.cons.injEq, and_true] at e1
      subst e1
      obtain ⟨m1, rfl, b1⟩ := nat_of (m := 18446744073709551615) (bounds_u64 w1)
      obtain ⟨s2, e2, x2, z2⟩ := DataW.trod_string Tryz.underlying9 g2
      simp only [List.cons.injEq, and_true] at e2
      subst e2
      obtain ⟨n3, e3, -, w3⟩ := DataW.trod_int Tryz.underlying49 g3
      simp only [List.cons.injEq, and_true] at e3
      subst e3
      obtain ⟨m3, rfl, b3⟩ := nat_of (m := 4294967295) (bounds_u32 w3)
      obtain ⟨s4, e4, x4, z4⟩ := DataW.trod_string Tryz.underlying9 g4
      simp only [List.cons.injEq, and_true] at e4
      subst e4
      obtain ⟨s5, e5, x5, z5⟩ := DataW.trod_string Tryz.underlying9 g5
      simp only [List.cons.injEq, and_true] at e5
      subst e5
      obtain ⟨s6, e6, x6, z6⟩ := DataW.trod_string Tryz.underlying9 g6
      simp only [List.cons.injEq, and_true] at e6
      subst e6
      obtain ⟨n7, e7, -, w7⟩ := DataW.trod_int Tryz.underlying49 g7
      simp only [List.cons.injEq, and_true] at e7
      subst e7
      obtain ⟨m7, rfl, b7⟩ := nat_of (m := 4294967295) (bounds_u32 w7)
      obtain ⟨n8, e8, -, w8⟩ := DataW.trod_int Tryz.underlying49 g8
      simp only [List.cons.injEq, and_true] at e8
      subst e8
      obtain ⟨m8, rfl, b8⟩ := nat_of (m := 4294967295) (bounds_u32 w8)
      obtain ⟨n9, e9, -, w9⟩ := DataW.trod_int Tryz.underlying49 g9
      simp only [List.cons.injEq, and_true] at e9
      subst e9
      obtain ⟨m9, rfl, b9⟩ := nat_of (m := 4294967295) (bounds_u32 w9)
      obtain ⟨n10, e10, -, w10⟩ := DataW.trod_int Tryz.underlying48 g10
      simp only [List.cons.injEq, and_true] at e10
      subst e10
      obtain ⟨m10, rfl, b10⟩ := nat_of (m := 18446744073709551615) (bounds_u64 w10)
      obtain ⟨n11, e11, -, w11⟩ := DataW.trod_int Tryz.underlying3 g11
      simp only [List.cons.injEq, and_true] at e11
      subst e11
      obtain ⟨n12, e12, -, w12⟩ := DataW.trod_int Tryz.underlying3 g12
      simp only [List.cons.injEq, and_true] at e12
      subst e12
      rw [hx] at hw
      have q2 : s2.size ≤ 140737488355328 := by
        have e : s2.size = s2.data.toList.length := (Array.length_toList).symm
        rw [e]
        refine hw _ ?_
        unfold DataW.weights
        rw [Tryz.underlying51]
        exact DataW.weights_mem_each (j := 2) (t := 9) (d := y2.1) rfl rfl _ (by rw [x2]; simp [DataW.weights])
      have q4 : s4.size ≤ 140737488355328 := by
        have e : s4.size = s4.data.toList.length := (Array.length_toList).symm
        rw [e]
        refine hw _ ?_
        unfold DataW.weights
        rw [Tryz.underlying51]
        exact DataW.weights_mem_each (j := 4) (t := 9) (d := y4.1) rfl rfl _ (by rw [x4]; simp [DataW.weights])
      have q5 : s5.size ≤ 140737488355328 := by
        have e : s5.size = s5.data.toList.length := (Array.length_toList).symm
        rw [e]
        refine hw _ ?_
        unfold DataW.weights
        rw [Tryz.underlying51]
        exact DataW.weights_mem_each (j := 5) (t := 9) (d := y5.1) rfl rfl _ (by rw [x5]; simp [DataW.weights])
      have q6 : s6.size ≤ 140737488355328 := by
        have e : s6.size = s6.data.toList.length := (Array.length_toList).symm
        rw [e]
        refine hw _ ?_
        unfold DataW.weights
        rw [Tryz.underlying51]
        exact DataW.weights_mem_each (j := 6) (t := 9) (d := y6.1) rfl rfl _ (by rw [x6]; simp [DataW.weights])
      exact ⟨⟨m0, m1, s2, m3, s4, s5, s6, m7, m8, m9, m10, n11, n12⟩, rfl, q2, q4, q5, q6, by show m3 < _; omega, b9, b0, b7, b8, b10⟩
set_option maxRecDepth 100000 in
set_option maxHeartbeats 1000000 in
theorem facts {fuel : Nat} {cs : List Value} {x : DataW H × List MemPlace} (hc : cs.length = 28) (h : DataW.trod enc Tryz.prog w base spare held fuel 53 cs = some x) (hw : ∀ z ∈ x.1.weights Tryz.prog 53, z ≤ 140737488355328) : ∃ (n p : Nd) (tk fl : Bool), cs = n.L ++ p.L ++ [.bool tk, .bool fl] ∧ Short n ∧ Short p := by
  match cs, hc with
  | [c0, c1, c2, c3, c4, c5, c6, c7, c8, c9, c10, c11, c12, c13, c14, c15, c16, c17, c18, c19, c20, c21, c22, c23, c24, c25, c26, c27], _ =>
    obtain ⟨xs, n, _, hx, _, hlen, hg⟩ := DataW.trod_struct Tryz.underlying53 h
    match xs, hlen with
    | [y0, y1, y2, y3], _ =>
      rw [hx] at hw
      have g0 : DataW.trod enc Tryz.prog w base spare held n 51 [c0, c1, c2, c3, c4, c5, c6, c7, c8, c9, c10, c11, c12] = some y0 := by simpa [Value.cells, k_n] using hg 0 _ rfl
      have g1 : DataW.trod enc Tryz.prog w base spare held n 51 [c13, c14, c15, c16, c17, c18, c19, c20, c21, c22, c23, c24, c25] = some y1 := by simpa [Value.cells, k_n] using hg 1 _ rfl
      have g2 : DataW.trod enc Tryz.prog w base spare held n 4 [c26] = some y2 := by simpa [Value.cells, k_n, k_b] using hg 2 _ rfl
      have g3 : DataW.trod enc Tryz.prog w base spare held n 4 [c27] = some y3 := by simpa [Value.cells, k_n, k_b] using hg 3 _ rfl
      have hw0 : ∀ z ∈ y0.1.weights Tryz.prog 51, z ≤ 140737488355328 := fun z hz => hw z (by
        unfold DataW.weights
        rw [Tryz.underlying53]
        exact DataW.weights_mem_each (j := 0) (t := 51) (d := y0.1) rfl rfl _ hz)
      have hw1 : ∀ z ∈ y1.1.weights Tryz.prog 51, z ≤ 140737488355328 := fun z hz => hw z (by
        unfold DataW.weights
        rw [Tryz.underlying53]
        exact DataW.weights_mem_each (j := 1) (t := 51) (d := y1.1) rfl rfl _ hz)
      obtain ⟨d0, e0, q0⟩ := node rfl g0 hw0
      obtain ⟨d1, e1, q1⟩ := node rfl g1 hw1
      obtain ⟨s2, e2, x2⟩ := DataW.trod_bool Tryz.underlying4 g2
      simp only [List.cons.injEq, and_true] at e2
      subst e2
      obtain ⟨s3, e3, x3⟩ := DataW.trod_bool Tryz.underlying4 g3
      simp only [List.cons.injEq, and_true] at e3
      subst e3
      simp only [Nd.L, List.cons.injEq, and_true] at e0 e1
      obtain ⟨rfl, rfl, rfl, rfl, rfl, rfl, rfl, rfl, rfl, rfl, rfl, rfl, rfl⟩ := e0
      obtain ⟨rfl, rfl, rfl, rfl, rfl, rfl, rfl, rfl, rfl, rfl, rfl, rfl, rfl⟩ := e1
      exact ⟨d0, d1, _, _, rfl, q0, q1⟩
set_option maxRecDepth 100000 in
set_option maxHeartbeats 1000000 in
theorem case_ {r : Reach} {b0 : Nat} {v : Value} {d : DataW H} {pl : List MemPlace} (hv : Value.okWide Tryz.prog w r b0 55 v) (h : DataW.Trod enc Tryz.prog w base spare held 55 v d pl) (hw : ∀ z ∈ d.weights Tryz.prog 55, z ≤ 140737488355328) :
    ∃ (text u : ByteArray) (n p : Nd) (tk fl : Bool) (name : ByteArray) (pm mode : Nat), v = .agg (caseA text u n p tk fl name pm mode) ∧ text.size ≤ 140737488355328 ∧ u.size ≤ 140737488355328 ∧ name.size ≤ 140737488355328 ∧ Short n ∧ Short p ∧ pm < 4294967296 ∧ mode < 256 := by
  obtain ⟨cs, rfl, hsz⟩ := okWide_struct Tryz.underlying55 hv
  obtain ⟨l⟩ := cs
  match l, hsz.trans k_c with
  | c0 :: c1 :: c2 :: c3 :: c4 :: c5 :: c6 :: c7 :: c8 :: c9 :: c10 :: c11 :: c12 :: c13 :: c14 :: c15 :: c16 :: c17 :: c18 :: c19 :: c20 :: c21 :: c22 :: c23 :: c24 :: c25 :: c26 :: c27 :: c28 :: c29 :: c30 :: c31 :: c32 :: [], _ =>
    obtain ⟨fuel, hf⟩ := h
    obtain ⟨xs, n, _, hx, _, hlen, hg⟩ := DataW.trod_struct Tryz.underlying55 hf
    match xs, hlen with
    | [y0, y1, y2, y3, y4, y5], _ =>
      simp only [Prod.mk.injEq] at hx
      obtain ⟨hd, -⟩ := hx
      rw [hd] at hw
      have g0 : DataW.trod enc Tryz.prog w base spare held n 9 [c0] = some y0 := by simpa [Value.cells, k_s] using hg 0 _ rfl
      have g1 : DataW.trod enc Tryz.prog w base spare held n 9 [c1] = some y1 := by simpa [Value.cells, k_s] using hg 1 _ rfl
      have g2 : DataW.trod enc Tryz.prog w base spare held n 53 [c2, c3, c4, c5, c6, c7, c8, c9, c10, c11, c12, c13, c14, c15, c16, c17, c18, c19, c20, c21, c22, c23, c24, c25, c26, c27, c28, c29] = some y2 := by simpa [Value.cells, k_s, k_f] using hg 2 _ rfl
      have g3 : DataW.trod enc Tryz.prog w base spare held n 9 [c30] = some y3 := by simpa [Value.cells, k_s, k_f] using hg 3 _ rfl
      have g4 : DataW.trod enc Tryz.prog w base spare held n 49 [c31] = some y4 := by simpa [Value.cells, k_s, k_f, k_u32] using hg 4 _ rfl
      have g5 : DataW.trod enc Tryz.prog w base spare held n 5 [c32] = some y5 := by simpa [Value.cells, k_s, k_f, k_u32, k_u8] using hg 5 _ rfl
      have hw2 : ∀ z ∈ y2.1.weights Tryz.prog 53, z ≤ 140737488355328 := fun z hz => hw z (by
        unfold DataW.weights
        rw [Tryz.underlying55]
        exact DataW.weights_mem_each (j := 2) (t := 53) (d := y2.1) rfl rfl _ hz)
      obtain ⟨nn, pp, tk, fl, e2, q2, q2'⟩ := facts rfl g2 hw2
      obtain ⟨s0, e0, x0, z0⟩ := DataW.trod_string Tryz.underlying9 g0
      simp only [List.cons.injEq, and_true] at e0
      subst e0
      obtain ⟨s1, e1, x1, z1⟩ := DataW.trod_string Tryz.underlying9 g1
      simp only [List.cons.injEq, and_true] at e1
      subst e1
      obtain ⟨s3, e3, x3, z3⟩ := DataW.trod_string Tryz.underlying9 g3
      simp only [List.cons.injEq, and_true] at e3
      subst e3
      obtain ⟨n4, e4, -, w4⟩ := DataW.trod_int Tryz.underlying49 g4
      simp only [List.cons.injEq, and_true] at e4
      subst e4
      obtain ⟨m4, rfl, b4⟩ := nat_of (m := 4294967295) (bounds_u32 w4)
      obtain ⟨n5, e5, -, w5⟩ := DataW.trod_int Tryz.underlying5 g5
      simp only [List.cons.injEq, and_true] at e5
      subst e5
      obtain ⟨m5, rfl, b5⟩ := nat_of (m := 255) (bounds_u8 w5)
      have q0 : s0.size ≤ 140737488355328 := by
        have e : s0.size = s0.data.toList.length := (Array.length_toList).symm
        rw [e]
        refine hw _ ?_
        unfold DataW.weights
        rw [Tryz.underlying55]
        exact DataW.weights_mem_each (j := 0) (t := 9) (d := y0.1) rfl rfl _ (by rw [x0]; simp [DataW.weights])
      have q1 : s1.size ≤ 140737488355328 := by
        have e : s1.size = s1.data.toList.length := (Array.length_toList).symm
        rw [e]
        refine hw _ ?_
        unfold DataW.weights
        rw [Tryz.underlying55]
        exact DataW.weights_mem_each (j := 1) (t := 9) (d := y1.1) rfl rfl _ (by rw [x1]; simp [DataW.weights])
      have q3 : s3.size ≤ 140737488355328 := by
        have e : s3.size = s3.data.toList.length := (Array.length_toList).symm
        rw [e]
        refine hw _ ?_
        unfold DataW.weights
        rw [Tryz.underlying55]
        exact DataW.weights_mem_each (j := 3) (t := 9) (d := y3.1) rfl rfl _ (by rw [x3]; simp [DataW.weights])
      simp only [Nd.L, List.cons_append, List.nil_append, List.cons.injEq, and_true] at e2
      obtain ⟨rfl, rfl, rfl, rfl, rfl, rfl, rfl, rfl, rfl, rfl, rfl, rfl, rfl, rfl, rfl, rfl, rfl, rfl, rfl, rfl, rfl, rfl, rfl, rfl, rfl, rfl, rfl, rfl⟩ := e2
      exact ⟨s0, s1, nn, pp, tk, fl, s3, m4, m5, rfl, q0, q1, q3, q2, q2', by omega, by omega⟩
/-- A record's numbers are of their kinds, its texts short enough. -/
structure Fits (s : Wn) : Prop where
  ty : s.ty ≤ 65535
  dev : s.dev ≤ 4294967295
  kd : s.kd ≤ 255
  vr : s.vr ≤ 4294967295
  pa : s.pa ≤ 18446744073709551615
  mo : s.mo ≤ 4294967295
  atm : s.atm ≤ 4294967295
  mt : s.mt ≤ 4294967295
  ln : s.ln ≤ 18446744073709551615
  nm : s.nm.size ≤ 140737488355328
  ud : s.ud.size ≤ 140737488355328
  gd : s.gd.size ≤ 140737488355328
  mu : s.mu.size ≤ 140737488355328
theorem k_u16 : Tryz.prog.cellsOf 56 = 1 := by kernel_rfl
theorem k_q : Tryz.prog.cellsOf 58 = 3 := by kernel_rfl
theorem k_st : Tryz.prog.cellsOf 60 = 13 := by kernel_rfl
theorem qid {fuel : Nat} {a b c : Value} {x : DataW H × List MemPlace} (h : DataW.trod enc Tryz.prog w base spare held fuel 58 [a, b, c] = some x) :
    ∃ k v q : Nat, k ≤ 255 ∧ v ≤ 4294967295 ∧ q ≤ 18446744073709551615 ∧ a = .int .u8 k ∧ b = .int .u32 v ∧ c = .int .u64 q := by
  obtain ⟨xs, n, _, hx, _, hlen, hg⟩ := DataW.trod_struct Tryz.underlying58 h
  match xs, hlen with
  | [y0, y1, y2], _ =>
    have g0 : DataW.trod enc Tryz.prog w base spare held n 5 [a] = some y0 := by simpa [k_u8] using hg 0 _ rfl
    have g1 : DataW.trod enc Tryz.prog w base spare held n 49 [b] = some y1 := by simpa [k_u32] using hg 1 _ rfl
    have g2 : DataW.trod enc Tryz.prog w base spare held n 48 [c] = some y2 := by simpa [k_u64] using hg 2 _ rfl
    obtain ⟨n0, e0, -, w0⟩ := DataW.trod_int Tryz.underlying5 g0
    obtain ⟨n1, e1, -, w1⟩ := DataW.trod_int Tryz.underlying49 g1
    obtain ⟨n2, e2, -, w2⟩ := DataW.trod_int Tryz.underlying48 g2
    simp only [List.cons.injEq, and_true] at e0 e1 e2
    subst e0 e1 e2
    obtain ⟨m0, rfl, h0⟩ := nat_of (m := 255) (bounds_u8 w0)
    obtain ⟨m1, rfl, h1⟩ := nat_of (m := 4294967295) (bounds_u32 w1)
    obtain ⟨m2, rfl, h2⟩ := nat_of (m := 18446744073709551615) (bounds_u64 w2)
    exact ⟨m0, m1, m2, h0, h1, h2, rfl, rfl, rfl⟩

set_option maxRecDepth 100000 in
set_option maxHeartbeats 1000000 in
theorem record {r : Reach} {b0 : Nat} {v : Value} {d : DataW H} {p : List MemPlace} (hv : Value.okWide Tryz.prog w r b0 60 v) (h : DataW.Trod enc Tryz.prog w base spare held 60 v d p) (hw : ∀ x ∈ d.weights Tryz.prog 60, x ≤ 140737488355328) : ∃ s : Wn, Fits s ∧ v = .agg s.L.toArray := by
  obtain ⟨cs, rfl, hsz⟩ := okWide_struct Tryz.underlying60 hv
  obtain ⟨l⟩ := cs
  match l, hsz.trans k_st with
  | [c0, c1, c2, c3, c4, c5, c6, c7, c8, c9, c10, c11, c12], _ =>
    obtain ⟨fuel, hf⟩ := h
    obtain ⟨xs, n, _, hx, _, hlen, hg⟩ := DataW.trod_struct Tryz.underlying60 hf
    match xs, hlen with
    | [y0, y1, y2, y3, y4, y5, y6, y7, y8, y9, y10], _ =>
      have g0 : DataW.trod enc Tryz.prog w base spare held n 56 [c0] = some y0 := by simpa [Value.cells, k_u16] using hg 0 _ rfl
      have g1 : DataW.trod enc Tryz.prog w base spare held n 49 [c1] = some y1 := by simpa [Value.cells, k_u32] using hg 1 _ rfl
      have g3 : DataW.trod enc Tryz.prog w base spare held n 49 [c5] = some y3 := by simpa [Value.cells, k_u32] using hg 3 _ rfl
      have g4 : DataW.trod enc Tryz.prog w base spare held n 49 [c6] = some y4 := by simpa [Value.cells, k_u32] using hg 4 _ rfl
      have g5 : DataW.trod enc Tryz.prog w base spare held n 49 [c7] = some y5 := by simpa [Value.cells, k_u32] using hg 5 _ rfl
      have g6 : DataW.trod enc Tryz.prog w base spare held n 48 [c8] = some y6 := by simpa [Value.cells, k_u64] using hg 6 _ rfl
      have g2 : DataW.trod enc Tryz.prog w base spare held n 58 [c2, c3, c4] = some y2 := by simpa [Value.cells, k_q] using hg 2 _ rfl
      have g7 : DataW.trod enc Tryz.prog w base spare held n 9 [c9] = some y7 := by simpa [Value.cells, k_s] using hg 7 _ rfl
      have g8 : DataW.trod enc Tryz.prog w base spare held n 9 [c10] = some y8 := by simpa [Value.cells, k_s] using hg 8 _ rfl
      have g9 : DataW.trod enc Tryz.prog w base spare held n 9 [c11] = some y9 := by simpa [Value.cells, k_s] using hg 9 _ rfl
      have g10 : DataW.trod enc Tryz.prog w base spare held n 9 [c12] = some y10 := by simpa [Value.cells, k_s] using hg 10 _ rfl
      obtain ⟨mk, mv, mq, hk, hvv, hq, rfl, rfl, rfl⟩ := qid g2
      obtain ⟨n0, e0, -, w0⟩ := DataW.trod_int Tryz.underlying56 g0
      simp only [List.cons.injEq, and_true] at e0
      subst e0
      obtain ⟨m0, rfl, h0⟩ := nat_of (m := 65535) (bounds_u16 w0)
      obtain ⟨n1, e1, -, w1⟩ := DataW.trod_int Tryz.underlying49 g1
      simp only [List.cons.injEq, and_true] at e1
      subst e1
      obtain ⟨m1, rfl, h1⟩ := nat_of (m := 4294967295) (bounds_u32 w1)
      obtain ⟨n3, e3, -, w3⟩ := DataW.trod_int Tryz.underlying49 g3
      simp only [List.cons.injEq, and_true] at e3
      subst e3
      obtain ⟨m3, rfl, h3⟩ := nat_of (m := 4294967295) (bounds_u32 w3)
      obtain ⟨n4, e4, -, w4⟩ := DataW.trod_int Tryz.underlying49 g4
      simp only [List.cons.injEq, and_true] at e4
      subst e4
      obtain ⟨m4, rfl, h4⟩ := nat_of (m := 4294967295) (bounds_u32 w4)
      obtain ⟨n5, e5, -, w5⟩ := DataW.trod_int Tryz.underlying49 g5
      simp only [List.cons.injEq, and_true] at e5
      subst e5
      obtain ⟨m5, rfl, h5⟩ := nat_of (m := 4294967295) (bounds_u32 w5)
      obtain ⟨n6, e6, -, w6⟩ := DataW.trod_int Tryz.underlying48 g6
      simp only [List.cons.injEq, and_true] at e6
      subst e6
      obtain ⟨m6, rfl, h6⟩ := nat_of (m := 18446744073709551615) (bounds_u64 w6)
      obtain ⟨s7, e7, x7, z7⟩ := DataW.trod_string Tryz.underlying9 g7
      simp only [List.cons.injEq, and_true] at e7
      subst e7
      obtain ⟨s8, e8, x8, z8⟩ := DataW.trod_string Tryz.underlying9 g8
      simp only [List.cons.injEq, and_true] at e8
      subst e8
      obtain ⟨s9, e9, x9, z9⟩ := DataW.trod_string Tryz.underlying9 g9
      simp only [List.cons.injEq, and_true] at e9
      subst e9
      obtain ⟨s10, e10, x10, z10⟩ := DataW.trod_string Tryz.underlying9 g10
      simp only [List.cons.injEq, and_true] at e10
      subst e10
      simp only [Prod.mk.injEq] at hx
      obtain ⟨hd, -⟩ := hx
      have q7 : s7.size ≤ 140737488355328 := by
        have e : s7.size = s7.data.toList.length := (Array.length_toList).symm
        rw [e]
        refine hw _ ?_
        rw [hd]
        unfold DataW.weights
        rw [Tryz.underlying60]
        exact DataW.weights_mem_each (j := 7) (t := 9) (d := y7.1) rfl rfl _ (by rw [x7]; simp [DataW.weights])
      have q8 : s8.size ≤ 140737488355328 := by
        have e : s8.size = s8.data.toList.length := (Array.length_toList).symm
        rw [e]
        refine hw _ ?_
        rw [hd]
        unfold DataW.weights
        rw [Tryz.underlying60]
        exact DataW.weights_mem_each (j := 8) (t := 9) (d := y8.1) rfl rfl _ (by rw [x8]; simp [DataW.weights])
      have q9 : s9.size ≤ 140737488355328 := by
        have e : s9.size = s9.data.toList.length := (Array.length_toList).symm
        rw [e]
        refine hw _ ?_
        rw [hd]
        unfold DataW.weights
        rw [Tryz.underlying60]
        exact DataW.weights_mem_each (j := 9) (t := 9) (d := y9.1) rfl rfl _ (by rw [x9]; simp [DataW.weights])
      have q10 : s10.size ≤ 140737488355328 := by
        have e : s10.size = s10.data.toList.length := (Array.length_toList).symm
        rw [e]
        refine hw _ ?_
        rw [hd]
        unfold DataW.weights
        rw [Tryz.underlying60]
        exact DataW.weights_mem_each (j := 10) (t := 9) (d := y10.1) rfl rfl _ (by rw [x10]; simp [DataW.weights])
      exact ⟨⟨m0, m1, mk, mv, mq, m3, m4, m5, m6, s7, s8, s9, s10⟩, ⟨h0, h1, hk, hvv, hq, h3, h4, h5, h6, q7, q8, q9, q10⟩, rfl⟩
end
end Go.Proofs.YtahjmpfjidijaaaGreatDoor.Ocw
