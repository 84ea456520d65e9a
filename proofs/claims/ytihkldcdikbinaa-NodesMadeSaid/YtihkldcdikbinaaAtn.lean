/- What atNode of nodes does, whatever it is to do. -/
import Derived.Test.YtihkldcdikbinaaDoo
namespace Go.Proofs.Ytihkldcdikbinaa
set_option linter.unusedVariables false
open Go.RowKit
namespace Nd
open Go.Proofs.Ytihkldcdikbinaa.Utf Go.Proofs.Ytihkldcdikbinaa.Txt Go.PlainAid Go.Proofs.Ytihkldcdikbinaa.Mpf

set_option maxRecDepth 100000 in
theorem node_none (w : World) (p : Nat) (most next bn bc : Nat) (ps : Value) (n1 x : Nat) (f : Nat → Option Value) (V : Array Value) (F : Nat) (hs : V.size = 20) (hv : V[1]? = some (.int .u64 x))
    (hp : StAt w p 0 most next bn ps bc) (hm : Mp nK w bn n1 f) (hf : f x = none) (hx : x < 18446744073709551616) :
    Calls Try.prog 46 #[.pointer (some ⟨p, 0, none⟩), .agg V, .func (.func F) #[] #[]] w fun e w' => e = .returned (.tuple #[.int .u64 0, .int .i64 80]) ∧ Kept [] w w' := by
  have B0 := Lib.hid (Bx.made w 55 V)
  have c1 := B0.out.cell 1 hv
  have HOLD := Lib.hid (hold_none (w.alloc (.cells V 55)) p most next bn bc ps n1 x f (Bx.alloc hp _) (hm.alloc _) hf hx)
  clear hv hs
  go_enter_defers Try.func46, Try.ntmps46
  go_wp2_with (go_at_call 37; refine HOLD.out.mono ?_; rintro e w1 ⟨rfl, k1⟩)
  exact ⟨_, results_tmp2 rfl _ _ _, rfl, ((Kept.refl _ w).alloc _).trans k1 (fun i hi => by cases hi)⟩
/-- What is to be done at a node. -/
def DoesN (F b : Nat) (V : Array Value) (n0 : Nat) (W : World) (er : Int) (R : World → Prop) : Prop :=
  Calls Try.prog F #[.pointer (some ⟨b, 0, none⟩), .agg V] W fun e w' => e = .returned (.int .i64 er) ∧ w'.cell? ⟨b, 0, none⟩ = some (.int .i32 1) ∧ w'.frozen? ⟨b, 0, none⟩ = false ∧ Bx w' n0 55 V ∧ R w'
set_option maxRecDepth 100000 in
theorem node_ok (w : World) (p : Nat) (most next bn bc : Nat) (ps : Value) (n1 x b : Nat) (f : Nat → Option Value) (V : Array Value) (F : Nat) (d : Is) (ks : Value) (m : Nat) (R : World → Prop) (hs : V.size = 20) (hv : V[1]? = some (.int .u64 x))
    (hp : StAt w p 0 most next bn ps bc) (hm : Mp nK w bn n1 f) (hn : NdAt w b d 0 ks m) (hf : f x = some (ptr b)) (hx : x < 18446744073709551616)
    (hF : ∀ args w, (callFunc F args).run Try.prog w = .ok (.enter F args) w)
    (hD : ∀ W, StAt W p 0 most next bn ps bc → NdAt W b d 1 ks m → Bx W w.heap.size 55 V → Kept [b] w W → DoesN F b V w.heap.size W 0 R) :
    Calls Try.prog 46 #[.pointer (some ⟨p, 0, none⟩), .agg V, .func (.func F) #[] #[]] w fun e w' => ∃ w1, e = .returned (.tuple #[.int .u64 x, .int .i64 0]) ∧ R w1 ∧ w' = w1.setCell ⟨b, 0, none⟩ (.int .i32 0) := by
  have B0 := Lib.hid (Bx.made w 55 V)
  have c1 := B0.out.cell 1 hv
  have hbl := hn.lt
  have HOLD := Lib.hid (hold_some (w.alloc (.cells V 55)) p most next bn bc ps n1 x b f d ks m (Bx.alloc hp _) (hm.alloc _) hf (Bx.alloc hn _) hx)
  have hbb : Hid (w.heap.size ∉ [b]) := fun h => by rw [List.mem_singleton] at h; omega
  have DO := Lib.hid hD
  have HS := Lib.hid hs
  have HV := Lib.hid hv
  clear hD hv hs
  unfold DoesN at DO
  go_enter_defers Try.func46, Try.ntmps46
  go_wp2_with (first | (go_at_call 37; refine HOLD.out.mono ?_; rintro e w1 ⟨rfl, hp1, hn1, k1⟩; have P1 := Lib.hid hp1; have N1 := Lib.hid hn1; have K1 : Hid (Kept [b] w w1) := ((Kept.refl _ w).alloc _).trans k1 (fun i hi => Or.inl hi); have B1 := Lib.hid (B0.out.kept k1 hbb.out); clear hp1 hn1 k1) | (refine wpList_load_V rfl _ rfl w.heap.size V HS.out B1.out rfl ?_))
  refine (DO.out _ P1.out N1.out B1.out K1.out).mono ?_
  rintro e w2 ⟨rfl, q1, z1, hB2, hR⟩
  have HR := Lib.hid hR
  have c2 := hB2.cell 1 HV.out
  clear hR
  go_wp2_with fail
  refine leaves_cons (f := 38) (args := #[.pointer (some ⟨b, 0, none⟩)]) (by simp) (by simp [go_sem]) ?_
  refine (unlock_def ⟨b, 0, none⟩ .returning _ q1 z1).mono ?_
  rintro e u' w5 ⟨rfl, rfl, rfl⟩
  exact ⟨_, results_tmp2 rfl _ _ _, w2, rfl, HR.out, rfl⟩
set_option maxRecDepth 100000 in
theorem node_err (w : World) (p : Nat) (most next bn bc : Nat) (ps : Value) (n1 x b : Nat) (f : Nat → Option Value) (V : Array Value) (F : Nat) (d : Is) (ks : Value) (m : Nat) (R : World → Prop) (er : Int) (her : ¬ er = 0) (hs : V.size = 20) (hv : V[1]? = some (.int .u64 x))
    (hp : StAt w p 0 most next bn ps bc) (hm : Mp nK w bn n1 f) (hn : NdAt w b d 0 ks m) (hf : f x = some (ptr b)) (hx : x < 18446744073709551616)
    (hF : ∀ args w, (callFunc F args).run Try.prog w = .ok (.enter F args) w)
    (hD : ∀ W, StAt W p 0 most next bn ps bc → NdAt W b d 1 ks m → Bx W w.heap.size 55 V → Kept [b] w W → DoesN F b V w.heap.size W er R) :
    Calls Try.prog 46 #[.pointer (some ⟨p, 0, none⟩), .agg V, .func (.func F) #[] #[]] w fun e w' => ∃ w1, e = .returned (.tuple #[.int .u64 0, .int .i64 er]) ∧ R w1 ∧ w' = w1.setCell ⟨b, 0, none⟩ (.int .i32 0) := by
  have B0 := Lib.hid (Bx.made w 55 V)
  have c1 := B0.out.cell 1 hv
  have hbl := hn.lt
  have HOLD := Lib.hid (hold_some (w.alloc (.cells V 55)) p most next bn bc ps n1 x b f d ks m (Bx.alloc hp _) (hm.alloc _) hf (Bx.alloc hn _) hx)
  have hbb : Hid (w.heap.size ∉ [b]) := fun h => by rw [List.mem_singleton] at h; omega
  have DO := Lib.hid hD
  have HS := Lib.hid hs
  clear hD hv hs
  unfold DoesN at DO
  go_enter_defers Try.func46, Try.ntmps46
  go_wp2_with (first | (go_at_call 37; refine HOLD.out.mono ?_; rintro e w1 ⟨rfl, hp1, hn1, k1⟩; have P1 := Lib.hid hp1; have N1 := Lib.hid hn1; have K1 : Hid (Kept [b] w w1) := ((Kept.refl _ w).alloc _).trans k1 (fun i hi => Or.inl hi); have B1 := Lib.hid (B0.out.kept k1 hbb.out); clear hp1 hn1 k1) | (refine wpList_load_V rfl _ rfl w.heap.size V HS.out B1.out rfl ?_))
  refine (DO.out _ P1.out N1.out B1.out K1.out).mono ?_
  rintro e w2 ⟨rfl, q1, z1, hB2, hR⟩
  have HR := Lib.hid hR
  clear hR
  go_wp2_with fail
  refine leaves_cons (f := 38) (args := #[.pointer (some ⟨b, 0, none⟩)]) (by simp) (by simp [go_sem]) ?_
  refine (unlock_def ⟨b, 0, none⟩ .returning _ q1 z1).mono ?_
  rintro e u' w5 ⟨rfl, rfl, rfl⟩
  exact ⟨_, results_tmp2 rfl _ _ _, w2, rfl, HR.out, rfl⟩
end Nd
end Go.Proofs.Ytihkldcdikbinaa
