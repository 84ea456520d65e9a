/- What told, Node, Next and Count of nodes do. -/
import Derived.Test.YtihkldcdikbinaaHld
namespace Go.Proofs.Ytihkldcdikbinaa
set_option linter.unusedVariables false
open Go.RowKit
namespace Nd
open Go.Proofs.Ytihkldcdikbinaa.Utf Go.Proofs.Ytihkldcdikbinaa.Txt Go.PlainAid Go.Proofs.Ytihkldcdikbinaa.Mpf

/-- What others are told of a node. -/
theorem told_any (w : World) (b : Nat) (d : Is) (lk : Int) (m : Nat) (ka : Option Addr) (kl kc : Nat) (h : NdAt w b d lk (.slice ka kl kc) m) :
    Calls Try.prog 39 #[.pointer (some ⟨b, 0, none⟩)] w fun e w' => e = .returned (.agg (isL d kl).toArray) ∧ Kept [] w w' := by
  obtain ⟨c0, c1, c2, c3, c4, c5, c6, c7, c8, c9, c10, c11, c12, c13, c14, c15, c16, fz⟩ := NodeAt.cells h
  have hbl := h.lt
  have hb0 : b ≠ w.heap.size := Nat.ne_of_lt hbl
  go_enter Try.func39, Try.ntmps39
  go_wp2_with fail
  refine bodyPost_ret (v := .agg (isL d kl).toArray) (by simp [results, Try.results39, go_sem, isL]) rfl ⟨rfl, ((Kept.refl _ w).alloc _).alloc _⟩
/-- A store of a whole row. -/
theorem wpList_store_row {w : World} {ops : Array Oper} {rest : List Oper} {o : Oper} {a : Act} {Q : Exit → Act → World → Prop} (hgd : o.guard = none) (ty : TypeId) (x y : Operand) (ho : o.op = .store ty x y) (g : Nat) (hx : a.eval x = .pointer (some ⟨g, 0, none⟩)) (t : TypeId) (old cs : Array Value)
    (hy : a.eval y = .agg cs) (hg : Bx w g t old) (hi : (Try.prog.info? ty).map (·.size) = some cs.size) (hs : old.size = cs.size) (h1 : cs.all (·.oneCell') = true)
    (h : ∀ w', Bx w' g t cs → Kept [g] w w' → wpList Try.prog ops Q rest (a.put o.dst undef) w') : wpList Try.prog ops Q (o :: rest) a w :=
  wpList_plain hgd fun K hK => by
    have := run_storeVar_row (P := Try.prog) w g t ty old cs hg hi hs h1
    unfold Oper.wp execOp
    simp only [ho, hx, hy, Instr.storeAt, Instr.sureAddr, Sem.run_bind, Sem.run_pure, Result.andThen_ok, this]
    exact hK _ _ (h _ (setRow_heap w g old cs t (0, 0) hg) ⟨rfl, rfl, rfl, by simp [World.setRow], fun k _ hk => setRow_other w g k _ (by simpa using hk)⟩)
theorem size_node : (Try.prog.info? 41).map (·.size) = some 13 := by kernel_rfl
theorem isL_one (d : Is) (k : Int) : (isL d k).toArray.all (·.oneCell') = true := by simp [isL, Value.oneCell']
def zeroIs : Is := ⟨0, 0, ⟨#[]⟩, 0, ⟨#[]⟩, ⟨#[]⟩, ⟨#[]⟩, 0, 0, 0, 0, 0⟩
/-- A node of a store. -/
theorem Node_some (w : World) (p : Nat) (most next bn bc : Nat) (ps : Value) (n1 x b : Nat) (f : Nat → Option Value) (d : Is) (m : Nat) (ka : Option Addr) (kl kc : Nat)
    (hp : StAt w p 0 most next bn ps bc) (hm : Mp nK w bn n1 f) (hf : f x = some (ptr b)) (hn : NdAt w b d 0 (.slice ka kl kc) m) (hx : x < 18446744073709551616) :
    Calls Try.prog 15 #[.pointer (some ⟨p, 0, none⟩), .int .u64 x] w fun e w' => e = .returned (.tuple #[.agg (isL d kl).toArray, .bool true]) ∧ Kept [] w w' := by
  have hbl := hn.lt
  have B0 : Hid (Bx (w.alloc (.cells (isL zeroIs 0).toArray 41)) w.heap.size 41 (isL zeroIs 0).toArray) := Bx.made _ _ _
  have hb0 : Hid (w.heap.size ∉ [b]) := fun h => by rw [List.mem_singleton] at h; omega
  have HOLD := Lib.hid (hold_some (w.alloc (.cells (isL zeroIs 0).toArray 41)) p most next bn bc ps n1 x b f d (.slice ka kl kc) m (Bx.alloc hp _) (hm.alloc _) hf (Bx.alloc hn _) hx)
  simp only [isL, zeroIs] at HOLD
  have TOLD := Lib.hid (fun W (h : NdAt W b d 1 (.slice ka kl kc) m) => told_any W b d 1 m ka kl kc h)
  obtain ⟨V, hV⟩ : ∃ V, V = (isL d kl).toArray := ⟨_, rfl⟩
  have V1 : Hid (V.size = 13 ∧ V.all (·.oneCell') = true) := by rw [hV]; exact ⟨rfl, isL_one d kl⟩
  rw [← hV] at TOLD ⊢
  clear hV
  have nd : ∀ {S : List Nat} {a w' : World} (k : Kept S a w'), a.heap.size ≤ w'.heap.size := fun k => k.size
  go_enter_defers Try.func15, Try.ntmps15
  go_wp2_with (first | (go_at_call 37; refine HOLD.out.mono ?_; rintro e w1 ⟨rfl, hp1, hn1, k1⟩; have N1 := Lib.hid hn1; have B1 : Hid (Bx w1 w.heap.size 41 (isL zeroIs 0).toArray) := B0.out.kept k1 hb0.out; have K1 : Hid (Kept [b] w w1) := ((Kept.refl _ w).alloc _).trans k1 (fun i hi => Or.inl hi); have P1 := Lib.hid hp1; clear hp1 hn1 k1) | (go_at_call 39; refine (TOLD.out _ N1.out).mono ?_; rintro e w2 ⟨rfl, k2⟩; have N2 := Lib.hid (N1.out.kept k2 (by simp)); have B2 := Lib.hid (B1.out.kept k2 (by simp)); have K2 := Lib.hid (K1.out.trans k2 (fun i hi => by cases hi))) | (refine wpList_store_row rfl 41 _ _ rfl w.heap.size rfl 41 _ V rfl B2.out (by rw [V1.out.1]; exact size_node) (by rw [V1.out.1]; rfl) V1.out.2 ?_; intro w3 hB3 k3))
  have N3 : NdAt w3 b d 1 (.slice ka kl kc) m := N2.out.kept k3 (fun h => by rw [List.mem_singleton] at h; omega)
  refine leaves_cons (f := 38) (args := #[.pointer (some ⟨b, 0, none⟩)]) (by simp) (by simp [go_sem]) ?_
  refine (unlock_def ⟨b, 0, none⟩ .returning _ (N3.cell 0 rfl) (N3.frozen 0)).mono ?_
  rintro e u' w5 ⟨rfl, rfl, rfl⟩
  have B5 := Bx.other hB3 (a := ⟨b, 0, none⟩) (Nat.ne_of_lt hbl) (.int .i32 0)
  have hl := run_loadVar_row (P := Try.prog) _ w.heap.size 41 41 V (0, 0) _ B5 Try.underlying41 rfl (by rw [V1.out.1]; exact size_node)
  have N5 : NdAt (w3.setCell ⟨b, 0, none⟩ (.int .i32 0)) b d 0 (.slice ka kl kc) m := Bx.set N3 0 _
  refine ⟨.tuple #[.agg V, .bool true], by simp [results, Try.results15, asAddr, hl], rfl, ?_⟩
  have K3 : Kept [b] w w3 := K2.out.trans k3 (fun i hi => by rw [List.mem_singleton] at hi; subst hi; exact Or.inr (Nat.le_refl _))
  exact Kept.less (K3.setCell (p := ⟨b, 0, none⟩) (Or.inl (by simp)) _) (Eq.trans N5 hn.symm)
theorem Next_any (w : World) (p : Nat) (most next bn bc : Nat) (ps : Value) (hp : StAt w p 0 most next bn ps bc) :
    Calls Try.prog 17 #[.pointer (some ⟨p, 0, none⟩)] w fun e w' => e = .returned (.int .u64 next) ∧ Kept [] w w' := by
  have c0 := hp.cell 0 (v := .int .i32 0) rfl
  have c3 := hp.cell 3 (v := .int .u64 next) rfl
  have LOCK := Lib.hid (lock_at ⟨p, 0, none⟩ w c0 (hp.frozen 0))
  have P1 : Hid (StAt (w.setCell ⟨p, 0, none⟩ (.int .i32 1)) p 1 most next bn ps bc) := Bx.set hp 0 _
  go_enter_defers Try.func17, Try.ntmps17
  go_wp2_with (go_at_call 41; refine LOCK.out.mono ?_; rintro e w1 ⟨rfl, rfl⟩)
  refine leaves_cons (f := 38) (args := #[.pointer (some ⟨p, 0, none⟩)]) (by simp) (by simp [go_sem]) ?_
  refine (unlock_def ⟨p, 0, none⟩ .returning _ (P1.out.cell 0 rfl) (P1.out.frozen 0)).mono ?_
  rintro e u' w5 ⟨rfl, rfl, rfl⟩
  have P3 : StAt ((w.setCell ⟨p, 0, none⟩ (.int .i32 1)).setCell ⟨p, 0, none⟩ (.int .i32 0)) p 0 most next bn ps bc := Bx.set P1.out 0 _
  exact ⟨_, results_tmp rfl _ _ _, rfl, Kept.less (((Kept.refl [p] w).setCell (p := ⟨p, 0, none⟩) (Or.inl (by simp)) _).setCell (p := ⟨p, 0, none⟩) (Or.inl (by simp)) _) (Eq.trans P3 hp.symm)⟩
theorem Count_any (w : World) (p : Nat) (most next bn bc : Nat) (ps : Value) (n1 : Nat) (f : Nat → Option Value) (hp : StAt w p 0 most next bn ps bc) (hm : Mp nK w bn n1 f) :
    Calls Try.prog 18 #[.pointer (some ⟨p, 0, none⟩)] w fun e w' => e = .returned (.int .i64 n1) ∧ Kept [] w w' := by
  have c0 := hp.cell 0 (v := .int .i32 0) rfl
  have c4 := hp.cell 4 (v := .map (some bn)) rfl
  have LOCK := Lib.hid (lock_at ⟨p, 0, none⟩ w c0 (hp.frozen 0))
  have P1 : Hid (StAt (w.setCell ⟨p, 0, none⟩ (.int .i32 1)) p 1 most next bn ps bc) := Bx.set hp 0 _
  have M1 : Hid (Mp nK (w.setCell ⟨p, 0, none⟩ (.int .i32 1)) bn n1 f) := hm.setCell (a := ⟨p, 0, none⟩) (fun e => hm.ne hp e.symm) _
  go_enter_defers Try.func18, Try.ntmps18
  go_wp2_with (first | (go_at_call 41; refine LOCK.out.mono ?_; rintro e w1 ⟨rfl, rfl⟩) | (at_len; refine wpList_size _ nK rfl _ 83 rfl 100 Try.underlying83 M1.out rfl ?_))
  refine leaves_cons (f := 38) (args := #[.pointer (some ⟨p, 0, none⟩)]) (by simp) (by simp [go_sem]) ?_
  refine (unlock_def ⟨p, 0, none⟩ .returning _ (P1.out.cell 0 rfl) (P1.out.frozen 0)).mono ?_
  rintro e u' w5 ⟨rfl, rfl, rfl⟩
  have P3 : StAt ((w.setCell ⟨p, 0, none⟩ (.int .i32 1)).setCell ⟨p, 0, none⟩ (.int .i32 0)) p 0 most next bn ps bc := Bx.set P1.out 0 _
  exact ⟨_, results_tmp rfl _ _ _, rfl, Kept.less (((Kept.refl [p] w).setCell (p := ⟨p, 0, none⟩) (Or.inl (by simp)) _).setCell (p := ⟨p, 0, none⟩) (Or.inl (by simp)) _) (Eq.trans P3 hp.symm)⟩
end Nd
end Go.Proofs.Ytihkldcdikbinaa
