/- What New and Read of nodes do. -/
import Derived.Test.YtihkldcdikbinaaRea
import Derived.Test.YtihkldcdikbinaaMk2
namespace Go.Proofs.Ytihkldcdikbinaa
set_option linter.unusedVariables false
open Go.RowKit
namespace Nd
open Go.Proofs.Ytihkldcdikbinaa.Utf Go.Proofs.Ytihkldcdikbinaa.Txt Go.PlainAid Go.Proofs.Ytihkldcdikbinaa.Mpf

set_option maxRecDepth 100000 in
theorem Read_some (w : World) (p : Nat) (most0 next bn bc : Nat) (ps : Value) (n1 x b : Nat) (f : Nat → Option Value) (d : Is) (ks : Value) (m nn : Nat) (g : Nat → Option (List UInt8)) (off most left : Nat)
    (hp : StAt w p 0 most0 next bn ps bc) (hmn : Mp nK w bn n1 f) (hf : f x = some (ptr b)) (hn : NdAt w b d 0 ks m) (hx : x < 18446744073709551616) (hm : Mp nK w m nn (fun i => (g i).map blkV)) (hg : ∀ i l, g i = some l → l.length = 256)
    (hmost : 0 < most) (hm63 : most < 9223372036854775808) (hoff : off < d.length) (hlen : d.length < 1000000000) (hleft : left = min (d.length - off) most) :
    Calls Try.prog 27 #[.pointer (some ⟨p, 0, none⟩), .int .u64 x, .int .u64 off, .int .i64 most] w fun e w' => ∃ g2 cap, e = .returned (.slice (some ⟨g2, 0, none⟩) left cap) ∧ w'.ownsRow 0 5 1 (.slice (some ⟨g2, 0, none⟩) left cap) left (bl (bytesAt g off left)) ∧ w.heap.size ≤ g2 ∧ Kept [] w w' := by
  have HOLD := Lib.hid (hold_some w p most0 next bn bc ps n1 x b f d ks m hp hmn hf hn hx)
  have hbl := hn.lt
  have hmb : Hid (m ≠ b) := fun e => hm.ne hn e
  have READ := Lib.hid (fun W (h : NdAt W b d 1 ks m) (h2 : Mp nK W m nn (fun i => (g i).map blkV)) => read_any W b d 1 ks m nn g off most left h h2 hg hmost hm63 hoff hlen hleft)
  clear hleft hoff hmost hlen
  go_enter_defers Try.func27, Try.ntmps27
  go_wp2_with (first | (go_at_call 37; refine HOLD.out.mono ?_; rintro e w1 ⟨rfl, hp1, hn1, k1⟩; have N1 := Lib.hid hn1; have K1 := Lib.hid k1; have M1 : Hid (Mp nK w1 m nn (fun i => (g i).map blkV)) := hm.kept k1 (fun h => by rw [List.mem_singleton] at h; exact hmb.out h); clear hp1 hn1 k1) | (go_at_call 54; refine (READ.out _ N1.out M1.out).mono ?_; rintro e w2 ⟨g2, cap, rfl, hr2, hl2, k2⟩))
  have N2 : NdAt w2 b d 1 ks m := N1.out.kept k2 (by simp)
  refine leaves_cons (f := 38) (args := #[.pointer (some ⟨b, 0, none⟩)]) (by simp) (by simp [go_sem]) ?_
  refine (unlock_def ⟨b, 0, none⟩ .returning _ (N2.cell 0 rfl) (N2.frozen 0)).mono ?_
  rintro e u' w5 ⟨rfl, rfl, rfl⟩
  have N5 : NdAt (w2.setCell ⟨b, 0, none⟩ (.int .i32 0)) b d 0 ks m := Bx.set N2 0 _
  have hl1 := K1.out.size
  refine ⟨_, results_tmp rfl _ _ _, g2, cap, rfl, ?_, by omega, ?_⟩
  · exact row_keptT hr2 ((Kept.refl [b] w2).setCell (p := ⟨b, 0, none⟩) (Or.inl (by simp)) _) (fun q hq h => by rw [List.mem_singleton] at h; have hq' : g2 = q := Option.some.inj hq; omega)
  · exact Kept.less ((K1.out.trans k2 (fun i hi => by cases hi)).setCell (p := ⟨b, 0, none⟩) (Or.inl (by simp)) _) (Eq.trans N5 hn.symm)

/-- A configuration, as it lies. -/
def cfgL (us ow gr : ByteArray) (perm : Nat) (rest : List Value) (nodes : Nat) (wk : Value) : List Value := [.string us, .string ow, .string gr, .int .u32 perm] ++ rest ++ [.int .i64 nodes, wk]
set_option maxRecDepth 100000 in
set_option maxHeartbeats 4000000 in
theorem New_ok (w : World) (V : Array Value) (ow gr : ByteArray) (perm n : Nat) (hV : V.size = 10) (v1 : V[1]? = some (.string ow)) (v2 : V[2]? = some (.string gr)) (v3 : V[3]? = some (.int .u32 perm)) (v8 : V[8]? = some (.int .i64 n))
    (h1 : 1 ≤ n) (h2 : n ≤ 4096) (hperm : bits .andNot .u32 (perm : Int) 511 = 0) (ho : bodyOk ow = true) (hgr : bodyOk gr = true) (hs1 : ow.size ≤ 140737488355328) (hs2 : gr.size ≤ 140737488355328) (md : Nat) (hmd : bits .or .u32 2147483648 (perm : Int) = (md : Int)) :
    Calls Try.prog 13 #[.agg V] w fun e w' => ∃ p bn bc ps b m, e = .returned (.tuple #[.pointer (some ⟨p, 0, none⟩), .int .i64 0]) ∧ StAt w' p 0 n 2 bn ps bc ∧ w'.ownsRow 0 30 1 ps 1 [.int .u64 1] ∧ Mp nK w' bn 1 (upd (fun _ => none) 1 (some (ptr b))) ∧ Mp pK w' bc 0 (fun _ => none) ∧
      NdAt w' b ⟨1, 1, ⟨#[47]⟩, md, ow, gr, ow, 0, 0, 0, 0, 0⟩ 0 (.slice none 0 0) m ∧ w'.heap[m]? = some (.map #[] 0) ∧ w.heap.size ≤ p ∧ w.heap.size ≤ bn ∧ w.heap.size ≤ bc ∧ w.heap.size ≤ b ∧ w.heap.size ≤ m ∧ bn ≠ bc ∧ m ≠ bn ∧ m ≠ bc ∧ (∀ q, ps.ownBlock = some q → w.heap.size ≤ q) ∧ Kept [] w w' := by
  have B0 : Hid (Bx (w.alloc (.cells V 32)) w.heap.size 32 V) := Bx.made _ _ _
  have c1 := B0.out.cell 1 v1
  have c2 := B0.out.cell 2 v2
  have c3 := B0.out.cell 3 v3
  have c8 := B0.out.cell 8 v8
  have hmm := @run_makeMap Try.prog
  have d1 : decide ((n : Int) < 1) = false := decide_eq_false (by omega)
  have d2 : decide ((4096 : Int) < (n : Int)) = false := decide_eq_false (by omega)
  have BO := Lib.hid (fun W => isSomebody_any W ow hs1)
  have BG := Lib.hid (fun W => isSomebody_any W gr hs2)
  simp only [ho] at BO
  simp only [hgr] at BG
  have hb0 : ∀ {S : List Nat}, S = [] → w.heap.size ∉ S := fun h => by rw [h]; simp
  have v1' := Lib.hid v1
  have v2' := Lib.hid v2
  have v3' := Lib.hid v3
  have v8' := Lib.hid v8
  clear v1 v2 v3 v8 ho hgr
  go_enter Try.func13, Try.ntmps13
  go_wp2_with (first | (go_at_call 34; ((with_reducible refine (BO.out _).mono ?_)); rintro e w1 ⟨rfl, k1⟩; have B1 := Lib.hid (B0.out.kept k1 (by simp)); have c11 := B1.out.cell 1 v1'.out; have c12 := B1.out.cell 2 v2'.out; have c13 := B1.out.cell 3 v3'.out; have c18 := B1.out.cell 8 v8'.out) | (go_at_call 34; ((with_reducible refine (BG.out _).mono ?_)); rintro e w2 ⟨rfl, k2⟩; have B2 := Lib.hid (B1.out.kept k2 (by simp)); have c21 := B2.out.cell 1 v1'.out; have c22 := B2.out.cell 2 v2'.out; have c23 := B2.out.cell 3 v3'.out; have c28 := B2.out.cell 8 v8'.out; have B3 := Lib.hid (Bx.alloc (Bx.alloc (Bx.alloc B2.out (.map #[] 0)) (.map #[] 0)) (.cells #[.int .i32 0, .int .u32 0, .int .i64 n, .int .u64 1, .map (some w2.heap.size), .slice none 0 0, .map (some (w2.heap.size + 1))] 93)); have c31 := B3.out.cell 1 v1'.out; have c32 := B3.out.cell 2 v2'.out; have c33 := B3.out.cell 3 v3'.out))
  have P3 : StAt (((w2.alloc (.map #[] 0)).alloc (.map #[] 0)).alloc (.cells (stL 0 n 1 w2.heap.size (.slice none 0 0) (w2.heap.size + 1)) 93)) (w2.heap.size + 1 + 1) 0 n 1 w2.heap.size (.slice none 0 0) (w2.heap.size + 1) := alloc_new _ _ _ (by simp)
  have K3 : Kept [] w (((w2.alloc (.map #[] 0)).alloc (.map #[] 0)).alloc (.cells (stL 0 n 1 w2.heap.size (.slice none 0 0) (w2.heap.size + 1)) 93)) := (((((Kept.refl [] w).alloc _).trans k1 (fun i hi => by cases hi)).trans k2 (fun i hi => by cases hi)).alloc _).alloc _ |>.alloc _
  have l2 : w.heap.size ≤ w2.heap.size := ((((Kept.refl [] w).alloc _).trans k1 (fun i hi => by cases hi)).trans k2 (fun i hi => by cases hi)).size
  have M3 : Mp nK (((w2.alloc (.map #[] 0)).alloc (.map #[] 0)).alloc (.cells (stL 0 n 1 w2.heap.size (.slice none 0 0) (w2.heap.size + 1)) 93)) w2.heap.size 0 (fun _ => none) := ((Mp.made nK w2).alloc _).alloc _
  have C3 : Mp pK (((w2.alloc (.map #[] 0)).alloc (.map #[] 0)).alloc (.cells (stL 0 n 1 w2.heap.size (.slice none 0 0) (w2.heap.size + 1)) 93)) (w2.heap.size + 1) 0 (fun _ => none) := by
    have h := (Mp.made pK (w2.alloc (.map #[] 0))).alloc (.cells (stL 0 n 1 w2.heap.size (.slice none 0 0) (w2.heap.size + 1)) 93)
    rw [World.size_alloc] at h
    exact h
  refine (put_any _ (w2.heap.size + 1 + 1) 0 n 1 w2.heap.size (w2.heap.size + 1) (.slice none 0 0) ⟨0, 1, ⟨#[47]⟩, md, ow, gr, ow, 0, 0, 0, 0, 0⟩ 0 0 [] (fun _ => none) P3 (World.ownsRow_nil _ _ _ _) M3 rfl (by omega) (by omega)).mono ?_
  rintro e w4 ⟨rfl, ps', b', m', s4, r4, mn4, n4, a4, lb4, lm4, ne4, lp4, k4⟩
  go_wp2_with fail
  go_ret2
  have sz : (((w2.alloc (.map #[] 0)).alloc (.map #[] 0)).alloc (.cells (stL 0 n 1 w2.heap.size (.slice none 0 0) (w2.heap.size + 1)) 93)).heap.size = w2.heap.size + 1 + 1 + 1 := by simp
  rw [sz] at lb4 lm4
  refine ⟨_, _, _, ps', b', m', rfl, s4, r4, mn4, C3.kept k4 (fun h => ?_), n4, a4, by omega, l2, by omega, by omega, by omega, by omega, by omega, by omega, ?_, ?_⟩
  · simp [Value.ownBlock] at h
  · intro q hq
    rcases lp4 with h | ⟨g, h, hl⟩
    · rw [h] at hq; simp [Value.ownBlock] at hq
    · rw [h] at hq; cases hq; rw [sz] at hl; omega
  · exact ⟨k4.os.trans K3.os, k4.tape.trans K3.tape, k4.output.trans K3.output, Nat.le_trans K3.size k4.size, fun i hi _ => (k4.block i (Nat.lt_of_lt_of_le hi K3.size) (fun h => by simp [Value.ownBlock] at h; omega)).trans (K3.block i hi (by simp))⟩
end Nd
end Go.Proofs.Ytihkldcdikbinaa
