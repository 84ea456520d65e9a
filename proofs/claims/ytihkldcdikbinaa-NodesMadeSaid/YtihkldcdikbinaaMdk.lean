/- NodesMade walked where both stores are made. -/
import Derived.Test.YtihkldcdikbinaaMdn
namespace Go.Proofs.Ytihkldcdikbinaa
set_option linter.unusedVariables false
open Go.RowKit
namespace Nd
open Go.Proofs.Ytihkldcdikbinaa.Utf Go.Proofs.Ytihkldcdikbinaa.Txt Go.PlainAid Go.Proofs.Ytihkldcdikbinaa.Mpf
/-- Both stores, at hand. -/
structure MdW (L : Nat) (W : World) (p n bn : Nat) (ps : Value) (bc b m r en : Nat) (d : Is) : Prop where
  st : StAt W p 0 n 2 bn ps bc
  mn : Mp nK W bn 1 (upd (fun _ => none) 1 (some (ptr b)))
  nd : NdAt W b d 0 (.slice none 0 0) m
  rs : RSt W r en n d
  lp : p < L
  lbn : bn < L
  lb : b < L
  lr : r < L
  le : en < L
section
variable {L : Nat} {W W' : World} {p n bn : Nat} {ps : Value} {bc b m r en : Nat} {d : Is}
theorem MdW.kept {S : List Nat} (h : MdW L W p n bn ps bc b m r en d) (k : Kept S W W') (hS : ∀ i ∈ S, L ≤ i) : MdW L W' p n bn ps bc b m r en d :=
  have g : ∀ {x : Nat}, x < L → x ∉ S := fun hx hm => Nat.lt_irrefl _ (Nat.lt_of_lt_of_le hx (hS _ hm))
  ⟨h.st.kept k (g h.lp), h.mn.kept k (g h.lbn), h.nd.kept k (g h.lb), ⟨h.rs.st.kept k (g h.lr), h.rs.en.kept k (g h.le)⟩, h.lp, h.lbn, h.lb, h.lr, h.le⟩
theorem MdW.alloc (h : MdW L W p n bn ps bc b m r en d) (o : Obj) : MdW L (W.alloc o) p n bn ps bc b m r en d := h.kept ((Kept.refl [] W).alloc o) (fun i hi => by cases hi)
theorem MdW.node (h : MdW L W p n bn ps bc b m r en d) : Calls Try.prog 15 #[.pointer (some ⟨p, 0, none⟩), .int .u64 1] W fun e w' => e = .returned (.tuple #[.agg (isL d 0).toArray, .bool true]) ∧ Kept [] W w' :=
  Node_some W p n 2 bn bc ps 1 1 b _ d m none 0 0 h.st h.mn (by simp [upd]) h.nd (by omega)
theorem MdW.next (h : MdW L W p n bn ps bc b m r en d) : Calls Try.prog 17 #[.pointer (some ⟨p, 0, none⟩)] W fun e w' => e = .returned (.int .u64 2) ∧ Kept [] W w' :=
  Next_any W p n 2 bn bc ps h.st
theorem MdW.count (h : MdW L W p n bn ps bc b m r en d) : Calls Try.prog 18 #[.pointer (some ⟨p, 0, none⟩)] W fun e w' => e = .returned (.int .i64 1) ∧ Kept [] W w' :=
  Count_any W p n 2 bn bc ps 1 _ h.st h.mn
end
set_option maxRecDepth 100000 in
set_option maxHeartbeats 16000000 in
theorem made_ok (w : World) (V : Array Value) (us ow gr : ByteArray) (perm n : Nat) (hV : V.size = 10) (v0 : V[0]? = some (.string us)) (v1 : V[1]? = some (.string ow)) (v2 : V[2]? = some (.string gr)) (v3 : V[3]? = some (.int .u32 perm)) (v8 : V[8]? = some (.int .i64 n)) (hs0 : us.size ≤ 140737488355328) (hs1 : ow.size ≤ 140737488355328) (hs2 : gr.size ≤ 140737488355328)
    (hz : ¬ 8388608 < 100 + us.size + ow.size + gr.size) (hp : perm < 4294967296) (hb : cfgOk ow gr perm n) :
    Calls Try.prog 4 #[.agg V] w fun e w' => e = .returned (.bool true) ∧ Kept [] w w' := by
  have B0 : Hid (Bx (w.alloc (.cells V 32)) w.heap.size 32 V) := Bx.made _ _ _
  have WORKS := Lib.hid (fun W => works_any W)
  obtain ⟨z, hz0⟩ : ∃ z : Int, z = 100 + us.size + ow.size + gr.size := ⟨_, rfl⟩
  have OFC := Lib.hid (fun W => ofConfig_any W V us ow gr v0 v1 v2 hs0 hs1 hs2 z hz0)
  obtain ⟨md, hmd⟩ := or_nat perm
  obtain ⟨b1, b2, b3, b4, b5⟩ := hb
  obtain ⟨d, hd⟩ : ∃ d : Is, d = ⟨1, 1, ⟨#[47]⟩, md, ow, gr, ow, 0, 0, 0, 0, 0⟩ := ⟨_, rfl⟩
  have NEW := Lib.hid (fun W => New_ok W V ow gr perm n hV v1 v2 v3 v8 (by omega) (by omega) ((perm_bits perm hp).2 b3) b4 b5 hs1 hs2 md hmd)
  have RNEW := Lib.hid (fun W => rNew_ok W V ow gr perm n v1 v2 v3 v8 hs1 hs2 b1 b2 b3 (body_parts b4).1 (body_parts b5).1 (body_parts b4).2 (body_parts b5).2 md hmd)
  rw [← hd] at NEW RNEW
  have hd1 : Hid (d.path = 1) := by rw [hd]; rfl
  have dz : decide ((8388608 : Int) < z) = false := decide_eq_false (by omega)
  have hV' := Lib.hid hV
  have V1 : Hid ((isL d 0).toArray.size = 13 ∧ (isL d 0).toArray.all (·.oneCell') = true) := ⟨rfl, isL_one d 0⟩
  clear hz hz0 v0 v1 v2 v3 v8 hV hmd b1 b2 b3 b4 b5 hd
  go_enter Try.func4, Try.ntmps4
  go_wp2_with (first | (go_at_call 11; ((with_reducible refine (WORKS.out _).mono ?_)); rintro e w1 ⟨rfl, k1⟩; have B1 := Lib.hid (B0.out.kept k1 (by simp))) | (refine wpList_load_config rfl _ rfl w.heap.size V B3.out rfl hV'.out ?_) | (refine wpList_load_config rfl _ rfl w.heap.size V B2.out rfl hV'.out ?_) | (refine wpList_load_config rfl _ rfl w.heap.size V B1.out rfl hV'.out ?_) | (go_at_call 12; ((with_reducible refine (OFC.out _).mono ?_)); rintro e w2 ⟨rfl, k2⟩; have B2 := Lib.hid (B1.out.kept k2 (by simp))) | (go_at_call 13; ((with_reducible refine (NEW.out _).mono ?_)); rintro e w3 ⟨p, bn, bc, ps, b, m, rfl, s3, _, m3, _, n3, _, _, _, _, _, _, _, _, _, _, k3⟩; have B3 := Lib.hid (B2.out.kept k3 (by simp)); have S3 := Lib.hid s3; have M3 := Lib.hid m3; have N3 := Lib.hid n3; clear s3 m3 n3) | (go_at_call 14; ((with_reducible refine (RNEW.out _).mono ?_)); rintro e w4 ⟨r, en, rfl, r4, k4⟩; have M4 : Hid (MdW w4.heap.size w4 p n bn ps bc b m r en d) := ⟨S3.out.kept k4 (by simp), M3.out.kept k4 (by simp), N3.out.kept k4 (by simp), r4, (S3.out.kept k4 (by simp)).lt, (M3.out.kept k4 (by simp)).lt, (N3.out.kept k4 (by simp)).lt, r4.st.lt, r4.en.lt⟩; clear r4) |
    (go_at_call 15; ((with_reducible refine (M4.out.node).mono ?_)); rintro e w5 ⟨rfl, k5⟩; have M5 := Lib.hid (M4.out.kept k5 (by simp))) |
    (go_at_call 16; ((with_reducible refine (rNode_one _ _ _ _ _ M6.out.rs hd1.out).mono ?_)); rintro e w7 ⟨rfl, k7⟩; have M7 := Lib.hid (M6.out.kept k7 (by simp)); have LE7 : Hid (w4.heap.size ≤ w7.heap.size) := Nat.le_trans k5.size (Nat.le_trans ((Kept.refl [] w5).alloc _).size (Nat.le_trans k6.size k7.size))) |
    (go_at_call 17; ((with_reducible refine (M8.out.next).mono ?_)); rintro e w9 ⟨rfl, k9⟩; have M9 := Lib.hid (M8.out.kept k9 (by simp))) |
    (go_at_call 18; ((with_reducible refine (M9.out.count).mono ?_)); rintro e w10 ⟨rfl, k10⟩; have Q6 : Hid (Bx w10 w5.heap.size 41 (isL d 0).toArray) := ((((hB6.kept k7 (by simp)).alloc _).kept k8 (fun h => by rw [List.mem_singleton] at h; have := hB6.lt; have := k7.size; omega)).kept k9 (by simp)).kept k10 (by simp); have Q8 : Hid (Bx w10 w7.heap.size 41 (isL d 0).toArray) := (hB8.kept k9 (by simp)).kept k10 (by simp); have f0 := Q6.out.cell 0 (v := .int .u64 d.path) rfl; have g0 := Q8.out.cell 0 (v := .int .u64 d.path) rfl; have f1 := Q6.out.cell 1 (v := .int .u64 d.parent) rfl; have g1 := Q8.out.cell 1 (v := .int .u64 d.parent) rfl; have f2 := Q6.out.cell 2 (v := .string d.name) rfl; have g2 := Q8.out.cell 2 (v := .string d.name) rfl; have f3 := Q6.out.cell 3 (v := .int .u32 d.mode) rfl; have g3 := Q8.out.cell 3 (v := .int .u32 d.mode) rfl; have f4 := Q6.out.cell 4 (v := .string d.uid) rfl; have g4 := Q8.out.cell 4 (v := .string d.uid) rfl; have f5 := Q6.out.cell 5 (v := .string d.gid) rfl; have g5 := Q8.out.cell 5 (v := .string d.gid) rfl; have f6 := Q6.out.cell 6 (v := .string d.muid) rfl; have g6 := Q8.out.cell 6 (v := .string d.muid) rfl; have f7 := Q6.out.cell 7 (v := .int .u32 d.atime) rfl; have g7 := Q8.out.cell 7 (v := .int .u32 d.atime) rfl; have f8 := Q6.out.cell 8 (v := .int .u32 d.mtime) rfl; have g8 := Q8.out.cell 8 (v := .int .u32 d.mtime) rfl; have f9 := Q6.out.cell 9 (v := .int .u32 d.vers) rfl; have g9 := Q8.out.cell 9 (v := .int .u32 d.vers) rfl; have f10 := Q6.out.cell 10 (v := .int .u64 d.length) rfl; have g10 := Q8.out.cell 10 (v := .int .u64 d.length) rfl; have f11 := Q6.out.cell 11 (v := .int .i64 d.opens) rfl; have g11 := Q8.out.cell 11 (v := .int .i64 d.opens) rfl; have f12 := Q6.out.cell 12 (v := .int .i64 0) rfl; have g12 := Q8.out.cell 12 (v := .int .i64 0) rfl) |
    (refine wpList_store_row rfl 41 _ _ rfl w7.heap.size rfl 41 _ (isL d 0).toArray rfl (Bx.made _ _ _) (by rw [V1.out.1]; exact size_node) (by rw [V1.out.1]; rfl) V1.out.2 ?_; intro w8 hB8 k8; have M8 := Lib.hid ((M7.out.alloc _).kept k8 (fun i hi => by rw [List.mem_singleton] at hi; rw [hi]; exact LE7.out))) |
    (refine wpList_store_row rfl 41 _ _ rfl w5.heap.size rfl 41 _ (isL d 0).toArray rfl (Bx.made _ _ _) (by rw [V1.out.1]; exact size_node) (by rw [V1.out.1]; rfl) V1.out.2 ?_; intro w6 hB6 k6; have M6 := Lib.hid ((M5.out.alloc _).kept k6 (fun i hi => by rw [List.mem_singleton] at hi; rw [hi]; exact k5.size))))
  go_ret
  refine ⟨rfl, ?_⟩
  have l5 : w.heap.size ≤ w5.heap.size := (((((((Kept.refl [] w).alloc _).trans k1 (fun i hi => by cases hi)).trans k2 (fun i hi => by cases hi)).trans k3 (fun i hi => by cases hi)).trans k4 (fun i hi => by cases hi)).trans k5 (fun i hi => by cases hi)).size
  have K6 : Kept [] w w6 := ((((((((Kept.refl [] w).alloc _).trans k1 (fun i hi => by cases hi)).trans k2 (fun i hi => by cases hi)).trans k3 (fun i hi => by cases hi)).trans k4 (fun i hi => by cases hi)).trans k5 (fun i hi => by cases hi)).alloc _).trans k6 (fun i hi => Or.inr (by rw [List.mem_singleton] at hi; rw [hi]; exact l5))
  have K8 : Kept [] w w8 := ((K6.trans k7 (fun i hi => by cases hi)).alloc _).trans k8 (fun i hi => Or.inr (by rw [List.mem_singleton] at hi; rw [hi]; exact (K6.trans k7 (fun i hi => by cases hi)).size))
  exact (K8.trans k9 (fun i hi => by cases hi)).trans k10 (fun i hi => by cases hi)
/-- NodesMade, whatever the configuration. -/
theorem made_any (w : World) (V : Array Value) (us ow gr : ByteArray) (perm : Nat) (n : Int) (hV : V.size = 10) (v0 : V[0]? = some (.string us)) (v1 : V[1]? = some (.string ow)) (v2 : V[2]? = some (.string gr)) (v3 : V[3]? = some (.int .u32 perm)) (v8 : V[8]? = some (.int .i64 n)) (hs0 : us.size ≤ 140737488355328) (hs1 : ow.size ≤ 140737488355328) (hs2 : gr.size ≤ 140737488355328) (hp : perm < 4294967296) :
    Calls Try.prog 4 #[.agg V] w fun e w' => e = .returned (.bool true) ∧ Kept [] w w' := by
  by_cases hz : 8388608 < 100 + us.size + ow.size + gr.size
  · exact made_big w V us ow gr hV v0 v1 v2 hs0 hs1 hs2 hz
  by_cases hb : cfgOk ow gr perm n
  · obtain ⟨m, rfl⟩ : ∃ m : Nat, n = m := ⟨n.toNat, by have := hb.1; omega⟩
    exact made_ok w V us ow gr perm m hV v0 v1 v2 v3 v8 hs0 hs1 hs2 hz hp hb
  · exact made_not w V us ow gr perm n hV v0 v1 v2 v3 v8 hs0 hs1 hs2 hz hp hb
end Nd
end Go.Proofs.Ytihkldcdikbinaa
