/- What atTable and atNode of nodes do, whatever they are to do; Do. -/
import Derived.Test.YtihkldcdikbinaaMak
namespace Go.Proofs.Ytihkldcdikbinaa
set_option linter.unusedVariables false
open Go.RowKit
namespace Nd
open Go.Proofs.Ytihkldcdikbinaa.Utf Go.Proofs.Ytihkldcdikbinaa.Txt Go.PlainAid Go.Proofs.Ytihkldcdikbinaa.Mpf

theorem Bx.ne {w : World} {a b : Nat} {s t : TypeId} {cs ds : Array Value} (h : Bx w a s cs) (k : Bx w b t ds) (ht : s ≠ t) : a ≠ b := by
  rintro rfl
  have k' : w.heap[a]? = some (.cells ds t (0, 0)) := k
  rw [show w.heap[a]? = some (.cells cs s (0, 0)) from h] at k'
  cases k'
  exact ht rfl
theorem cell_set {w : World} {a : Addr} {u v : Value} (h : w.cell? a = some u) : (w.setCell a v).cell? a = some v := World.cell?_setCell_same w a v h
theorem size_op : (Try.prog.info? 55).map (·.size) = some 20 := by kernel_rfl
/-- An operation is loaded whole. -/
theorem wpList_load_op {w : World} {ops : Array Oper} {rest : List Oper} {op : Oper} {a : Act} {Q : Exit → Act → World → Prop} (hgd : op.guard = none) (x : Operand) (ho : op.op = .load 55 x) (B : Nat) (o : OpV) (h : Bx w B 55 (opL o).toArray) (hx : a.eval x = .pointer (some ⟨B, 0, none⟩))
    (hK : wpList Try.prog ops Q rest (a.put op.dst (.agg (opL o).toArray)) w) : wpList Try.prog ops Q (op :: rest) a w :=
  wpList_plain hgd fun K hK' => wp_load_row 55 x ho B hx 55 _ (0, 0) _ h Try.underlying55 rfl size_op (hK' _ _ hK)
/-- A store and an operation, at hand. -/
structure TbW (w W : World) (p : Nat) (lk : Int) (most next bn bc : Nat) (ps : Value) (n1 : Nat) (f : Nat → Option Value) (o : OpV) : Prop where
  op : Bx W w.heap.size 55 (opL o).toArray
  st : StAt W p lk most next bn ps bc
  mn : Mp nK W bn n1 f
  lp : p < w.heap.size
  k : Kept [p] w W
section
variable {w W W' : World} {p : Nat} {lk : Int} {most next bn bc : Nat} {ps : Value} {n1 : Nat} {f : Nat → Option Value} {o : OpV}
theorem TbW.lock (h : TbW w W p lk most next bn bc ps n1 f o) (v : Int) : TbW w (W.setCell ⟨p, 0, none⟩ (.int .i32 v)) p v most next bn bc ps n1 f o :=
  ⟨Bx.other h.op (Nat.ne_of_lt h.lp) _, Bx.set h.st 0 _, h.mn.setCell (a := ⟨p, 0, none⟩) (fun e => h.mn.ne h.st e.symm) _, h.lp, h.k.setCell (p := ⟨p, 0, none⟩) (Or.inl (by simp)) _⟩
theorem TbW.started (hp : StAt w p lk most next bn ps bc) (hm : Mp nK w bn n1 f) : TbW w (w.alloc (.cells (opL o).toArray 55)) p lk most next bn bc ps n1 f o :=
  ⟨alloc_new _ _ _ rfl, Bx.alloc hp _, hm.alloc _, hp.lt, (Kept.refl _ w).alloc _⟩
end
set_option maxRecDepth 100000 in
theorem table_none (w : World) (p : Nat) (most next bn bc : Nat) (ps : Value) (n1 : Nat) (f : Nat → Option Value) (o : OpV) (F : Nat)
    (hp : StAt w p 0 most next bn ps bc) (hm : Mp nK w bn n1 f) (hf : f o.path = none) (hx : o.path < 18446744073709551616) :
    Calls Try.prog 42 #[.pointer (some ⟨p, 0, none⟩), .agg (opL o).toArray, .func (.func F) #[] #[]] w fun e w' => e = .returned (.tuple #[.int .u64 0, .int .i64 80]) ∧ Kept [] w w' := by
  have W0 := Lib.hid (TbW.started (o := o) hp hm)
  have LOCK : Hid (∀ W, TbW w W p 0 most next bn bc ps n1 f o → Calls Try.prog 41 #[.pointer (some ⟨p, 0, none⟩)] W fun e W' => e = .returned (.tuple #[]) ∧ TbW w W' p 1 most next bn bc ps n1 f o) := fun W h => (lock_at ⟨p, 0, none⟩ W (h.st.cell 0 rfl) (h.st.frozen 0)).mono fun e W' ⟨a, b⟩ => ⟨a, b ▸ h.lock 1⟩
  have FIND : Hid (∀ W, TbW w W p 1 most next bn bc ps n1 f o → Calls Try.prog 63 #[.pointer (some ⟨p, 0, none⟩), .int .u64 o.path] W fun e w' => e = .returned (.tuple #[.pointer none, .bool false]) ∧ w' = W) := fun W h => find_none W p 1 most next bn bc ps n1 o.path f h.st h.mn hf hx
  unfold opL at W0 ⊢
  go_enter_defers Try.func42, Try.ntmps42
  go_wp2_with (first | (go_at_call 41; refine (LOCK.out _ W0.out).mono ?_; rintro e w2 ⟨rfl, h2⟩; have W2 := Lib.hid h2; have b1 := h2.op.cell 1 (v := .int .u64 o.path) rfl; clear h2) | (go_at_call 63; refine (FIND.out _ W2.out).mono ?_; rintro e w3 ⟨rfl, rfl⟩))
  refine leaves_cons (f := 38) (args := #[.pointer (some ⟨p, 0, none⟩)]) (by simp) (by simp [go_sem]) ?_
  refine (unlock_def ⟨p, 0, none⟩ .returning _ (W2.out.st.cell 0 rfl) (W2.out.st.frozen 0)).mono ?_
  rintro e u' w'' ⟨rfl, rfl, rfl⟩
  have h3 := W2.out.lock 0
  exact ⟨_, results_tmp2 rfl _ _ _, rfl, Kept.less h3.k (Eq.trans h3.st hp.symm)⟩

/-- What is to be done at the table: what it answers, and that the locks stay taken. -/
def DoesAt (F p b : Nat) (o : OpV) (W : World) (R : Value → World → Prop) : Prop :=
  Calls Try.prog F #[.pointer (some ⟨p, 0, none⟩), .pointer (some ⟨b, 0, none⟩), .agg (opL o).toArray] W fun e w' => ∃ r er : Int, e = .returned (.tuple #[.int .u64 r, .int .i64 er]) ∧ w'.cell? ⟨p, 0, none⟩ = some (.int .i32 1) ∧ w'.cell? ⟨b, 0, none⟩ = some (.int .i32 1) ∧ w'.frozen? ⟨p, 0, none⟩ = false ∧ w'.frozen? ⟨b, 0, none⟩ = false ∧ R (.tuple #[.int .u64 r, .int .i64 er]) w'
set_option maxRecDepth 100000 in
set_option maxHeartbeats 4000000 in
theorem table_some (w : World) (p : Nat) (most next bn bc : Nat) (ps : Value) (n1 : Nat) (f : Nat → Option Value) (o : OpV) (F b : Nat) (d : Is) (ks : Value) (m : Nat) (R : Value → World → Prop)
    (hp : StAt w p 0 most next bn ps bc) (hm : Mp nK w bn n1 f) (hn : NdAt w b d 0 ks m) (hf : f o.path = some (ptr b)) (hx : o.path < 18446744073709551616)
    (hF : ∀ args w, (callFunc F args).run Try.prog w = .ok (.enter F args) w)
    (hD : ∀ W, StAt W p 1 most next bn ps bc → NdAt W b d 1 ks m → Kept [p, b] w W → DoesAt F p b o W R) :
    Calls Try.prog 42 #[.pointer (some ⟨p, 0, none⟩), .agg (opL o).toArray, .func (.func F) #[] #[]] w fun e w' => ∃ v w1, e = .returned v ∧ R v w1 ∧ w' = (w1.setCell ⟨b, 0, none⟩ (.int .i32 0)).setCell ⟨p, 0, none⟩ (.int .i32 0) := by
  have W0 := Lib.hid (TbW.started (o := o) hp hm)
  have hbp : Hid (b ≠ p) := Bx.ne hn hp (by decide)
  have hbl := hn.lt
  have LOCK : Hid (∀ W, TbW w W p 0 most next bn bc ps n1 f o → Calls Try.prog 41 #[.pointer (some ⟨p, 0, none⟩)] W fun e W' => e = .returned (.tuple #[]) ∧ TbW w W' p 1 most next bn bc ps n1 f o) := fun W h => (lock_at ⟨p, 0, none⟩ W (h.st.cell 0 rfl) (h.st.frozen 0)).mono fun e W' ⟨a, b⟩ => ⟨a, b ▸ h.lock 1⟩
  have FIND : Hid (∀ W, TbW w W p 1 most next bn bc ps n1 f o → Calls Try.prog 63 #[.pointer (some ⟨p, 0, none⟩), .int .u64 o.path] W fun e w' => e = .returned (.tuple #[.pointer (some ⟨b, 0, none⟩), .bool true]) ∧ Bx w' w.heap.size 55 (opL o).toArray ∧ StAt w' p 1 most next bn ps bc ∧ NdAt w' b d 1 ks m ∧ Kept [p, b] w w') := fun W h => by
    have hn' : NdAt W b d 0 ks m := hn.kept h.k (fun hm => by rw [List.mem_singleton] at hm; exact hbp.out hm)
    refine (find_some W p 1 most next bn bc ps n1 o.path b f d ks m h.st h.mn hf hn' hx).mono ?_
    rintro e w' ⟨rfl, rfl⟩
    exact ⟨rfl, Bx.other h.op (Nat.ne_of_lt hbl) _, Bx.other h.st hbp.out _, Bx.set hn' 0 _, (h.k.mono (fun i hi => Or.inl (by rw [List.mem_singleton] at hi; simp [hi]))).setCell (p := ⟨b, 0, none⟩) (Or.inl (by simp)) _⟩
  have DO := Lib.hid hD
  clear hD
  unfold DoesAt at DO
  unfold opL at W0 DO ⊢
  go_enter_defers Try.func42, Try.ntmps42
  go_wp2_with (first | (go_at_call 41; refine (LOCK.out _ W0.out).mono ?_; rintro e w2 ⟨rfl, h2⟩; have W2 := Lib.hid h2; have b1 := h2.op.cell 1 (v := .int .u64 o.path) rfl; clear h2) | (go_at_call 63; refine (FIND.out _ W2.out).mono ?_; rintro e w3 ⟨rfl, h3, h4, h5, h6⟩; have P3 := Lib.hid h4; have N3 := Lib.hid h5; have K3 := Lib.hid h6; have O3 := Lib.hid h3; clear h3 h4 h5 h6) | (refine wpList_load_op rfl _ rfl w.heap.size o O3.out rfl ?_; unfold opL))
  refine (DO.out _ P3.out N3.out K3.out).mono ?_
  rintro e w4 ⟨r, er, rfl, q0, q1, z0, z1, hR⟩
  have HR := Lib.hid hR
  clear hR
  go_wp2_with fail
  refine leaves_cons (f := 38) (args := #[.pointer (some ⟨b, 0, none⟩)]) (by simp) (by simp [go_sem]) ?_
  refine (unlock_def ⟨b, 0, none⟩ .returning _ q1 z1).mono ?_
  rintro e u' w5 ⟨rfl, rfl, rfl⟩
  refine leaves_cons (f := 38) (args := #[.pointer (some ⟨p, 0, none⟩)]) (by simp [settle]) (by simp [go_sem]) ?_
  refine (unlock_def ⟨p, 0, none⟩ .returning _ ?_ (by simp [z0])).mono ?_
  · exact (World.cell?_setCell_other _ ⟨b, 0, none⟩ ⟨p, 0, none⟩ _ (by simp [hbp.out])).trans q0
  rintro e u' w6 ⟨rfl, rfl, rfl⟩
  exact ⟨_, results_tmp2 rfl _ _ _, .tuple #[.int .u64 r, .int .i64 er], w4, rfl, HR.out, rfl⟩
end Nd
end Go.Proofs.Ytihkldcdikbinaa
