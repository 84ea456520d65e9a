/- What find and hold of nodes do: a node, with its lock taken. -/
import Derived.Test.YtihkldcdikbinaaPut
import Derived.Defers
namespace Go.Proofs.Ytihkldcdikbinaa
set_option linter.unusedVariables false
open Go.RowKit
namespace Nd
open Go.Proofs.Ytihkldcdikbinaa.Utf Go.Proofs.Ytihkldcdikbinaa.Txt Go.PlainAid Go.Proofs.Ytihkldcdikbinaa.Mpf

theorem zero_pn (w : World) : (zeroValue 100).run Try.prog w = .ok (.pointer none) w := by kernel_rfl
/-- A block that reads as before is none that turned. -/
theorem Kept.less {S : List Nat} {p : Nat} {w w' : World} (k : Kept (p :: S) w w') (h : w'.heap[p]? = w.heap[p]?) : Kept S w w' :=
  ⟨k.os, k.tape, k.output, k.size, fun i hi hn => by
    by_cases e : i = p
    · subst e; exact h
    · exact k.block i hi (by simp [e, hn])⟩
theorem nodeC_lk (d : Is) (lk v : Int) (ks : Value) (m : Nat) : (nodeC d lk ks m).setIfInBounds 0 (.int .i32 v) = nodeC d v ks m := rfl
theorem stL_lk (lk v : Int) (most next bn : Nat) (ps : Value) (bc : Nat) : (stL lk most next bn ps bc).setIfInBounds 0 (.int .i32 v) = stL v most next bn ps bc := rfl
abbrev NdAt (w : World) (b : Nat) (d : Is) (lk : Int) (ks : Value) (m : Nat) : Prop := Bx w b 105 (nodeC d lk ks m)

theorem find_some (w : World) (p : Nat) (lk : Int) (most next bn bc : Nat) (ps : Value) (n1 x b : Nat) (f : Nat → Option Value) (d : Is) (ks : Value) (m : Nat)
    (hp : StAt w p lk most next bn ps bc) (hm : Mp nK w bn n1 f) (hf : f x = some (ptr b)) (hn : NdAt w b d 0 ks m) (hx : x < 18446744073709551616) :
    Calls Try.prog 63 #[.pointer (some ⟨p, 0, none⟩), .int .u64 x] w fun e w' => e = .returned (.tuple #[.pointer (some ⟨b, 0, none⟩), .bool true]) ∧ w' = w.setCell ⟨b, 0, none⟩ (.int .i32 1) := by
  obtain ⟨-, c2, c3, c4, c5, c6⟩ := StAt.cells hp
  have n0 := hn.cell 0 (v := .int .i32 0) rfl
  have nf := hn.frozen 0
  have LOCK := Lib.hid (lock_at ⟨b, 0, none⟩ w n0 nf)
  have hf' : f x = some (.pointer (some ⟨b, 0, none⟩)) := hf
  go_enter Try.func63, Try.ntmps63
  go_wp2_with (first | (at_lookup; refine wpList_look_ok w nK rfl _ _ 83 rfl 100 Try.underlying83 (zero_pn _) hm rfl x hx rfl ?_; rw [hf']) | (go_at_call 41; refine LOCK.out.mono ?_; rintro e w1 ⟨rfl, rfl⟩))
  go_ret2
  exact ⟨rfl, rfl⟩
theorem find_none (w : World) (p : Nat) (lk : Int) (most next bn bc : Nat) (ps : Value) (n1 x : Nat) (f : Nat → Option Value)
    (hp : StAt w p lk most next bn ps bc) (hm : Mp nK w bn n1 f) (hf : f x = none) (hx : x < 18446744073709551616) :
    Calls Try.prog 63 #[.pointer (some ⟨p, 0, none⟩), .int .u64 x] w fun e w' => e = .returned (.tuple #[.pointer none, .bool false]) ∧ w' = w := by
  obtain ⟨-, c2, c3, c4, c5, c6⟩ := StAt.cells hp
  go_enter Try.func63, Try.ntmps63
  go_wp2_with (at_lookup; refine wpList_look_ok w nK rfl _ _ 83 rfl 100 Try.underlying83 (zero_pn _) hm rfl x hx rfl ?_; rw [hf])
  go_ret2
  exact ⟨rfl, rfl⟩

theorem hold_some (w : World) (p : Nat) (most next bn bc : Nat) (ps : Value) (n1 x b : Nat) (f : Nat → Option Value) (d : Is) (ks : Value) (m : Nat)
    (hp : StAt w p 0 most next bn ps bc) (hm : Mp nK w bn n1 f) (hf : f x = some (ptr b)) (hn : NdAt w b d 0 ks m) (hx : x < 18446744073709551616) :
    Calls Try.prog 37 #[.pointer (some ⟨p, 0, none⟩), .int .u64 x] w fun e w' => e = .returned (.tuple #[.pointer (some ⟨b, 0, none⟩), .bool true]) ∧ StAt w' p 0 most next bn ps bc ∧ NdAt w' b d 1 ks m ∧ Kept [b] w w' := by
  have hbp : b ≠ p := fun e => by subst e; have h1 : w.heap[b]? = _ := hp; rw [show w.heap[b]? = _ from hn] at h1; cases h1
  obtain ⟨c0, c2, c3, c4, c5, c6⟩ := StAt.cells hp
  have fz := hp.frozen 0
  have LOCK := Lib.hid (lock_at ⟨p, 0, none⟩ w c0 fz)
  have P1 : Hid (StAt (w.setCell ⟨p, 0, none⟩ (.int .i32 1)) p 1 most next bn ps bc) := Bx.set hp 0 _
  have N1 : Hid (NdAt (w.setCell ⟨p, 0, none⟩ (.int .i32 1)) b d 0 ks m) := Bx.other hn (fun e => hbp e.symm) _
  have FIND := Lib.hid (find_some _ p 1 most next bn bc ps n1 x b f d ks m P1.out (hm.setCell (a := ⟨p, 0, none⟩) (fun e => hm.ne hp e.symm) (.int .i32 1)) hf N1.out hx)
  go_enter_defers Try.func37, Try.ntmps37
  go_wp2_with (first | (go_at_call 41; refine LOCK.out.mono ?_; rintro e w1 ⟨rfl, rfl⟩) | (go_at_call 63; refine FIND.out.mono ?_; rintro e w2 ⟨rfl, rfl⟩))
  have P2 : Hid (StAt ((w.setCell ⟨p, 0, none⟩ (.int .i32 1)).setCell ⟨b, 0, none⟩ (.int .i32 1)) p 1 most next bn ps bc) := Bx.other P1.out hbp _
  have N2 : Hid (NdAt ((w.setCell ⟨p, 0, none⟩ (.int .i32 1)).setCell ⟨b, 0, none⟩ (.int .i32 1)) b d 1 ks m) := Bx.set N1.out 0 _
  have K2 : Hid (Kept [p, b] w ((w.setCell ⟨p, 0, none⟩ (.int .i32 1)).setCell ⟨b, 0, none⟩ (.int .i32 1))) := ((Kept.refl _ w).setCell (p := ⟨p, 0, none⟩) (Or.inl (by simp)) _).setCell (p := ⟨b, 0, none⟩) (Or.inl (by simp)) _
  refine leaves_cons (f := 38) (args := #[.pointer (some ⟨p, 0, none⟩)]) (by simp) (by simp [go_sem]) ?_
  refine (unlock_def ⟨p, 0, none⟩ .returning _ (P2.out.cell 0 rfl) (P2.out.frozen 0)).mono ?_
  rintro e u' w'' ⟨rfl, rfl, rfl⟩
  have P3 : StAt (((w.setCell ⟨p, 0, none⟩ (.int .i32 1)).setCell ⟨b, 0, none⟩ (.int .i32 1)).setCell ⟨p, 0, none⟩ (.int .i32 0)) p 0 most next bn ps bc := Bx.set P2.out 0 _
  exact ⟨_, results_tmp2 rfl _ _ _, rfl, P3, Bx.other N2.out (fun e => hbp e.symm) _, Kept.less (K2.out.setCell (p := ⟨p, 0, none⟩) (Or.inl (by simp)) _) (Eq.trans P3 hp.symm)⟩
theorem hold_none (w : World) (p : Nat) (most next bn bc : Nat) (ps : Value) (n1 x : Nat) (f : Nat → Option Value)
    (hp : StAt w p 0 most next bn ps bc) (hm : Mp nK w bn n1 f) (hf : f x = none) (hx : x < 18446744073709551616) :
    Calls Try.prog 37 #[.pointer (some ⟨p, 0, none⟩), .int .u64 x] w fun e w' => e = .returned (.tuple #[.pointer none, .bool false]) ∧ Kept [] w w' := by
  obtain ⟨c0, c2, c3, c4, c5, c6⟩ := StAt.cells hp
  have fz := hp.frozen 0
  have LOCK := Lib.hid (lock_at ⟨p, 0, none⟩ w c0 fz)
  have P1 : Hid (StAt (w.setCell ⟨p, 0, none⟩ (.int .i32 1)) p 1 most next bn ps bc) := Bx.set hp 0 _
  have FIND := Lib.hid (find_none _ p 1 most next bn bc ps n1 x f P1.out (hm.setCell (a := ⟨p, 0, none⟩) (fun e => hm.ne hp e.symm) (.int .i32 1)) hf hx)
  go_enter_defers Try.func37, Try.ntmps37
  go_wp2_with (first | (go_at_call 41; refine LOCK.out.mono ?_; rintro e w1 ⟨rfl, rfl⟩) | (go_at_call 63; refine FIND.out.mono ?_; rintro e w2 ⟨rfl, rfl⟩))
  refine leaves_cons (f := 38) (args := #[.pointer (some ⟨p, 0, none⟩)]) (by simp) (by simp [go_sem]) ?_
  refine (unlock_def ⟨p, 0, none⟩ .returning _ (P1.out.cell 0 rfl) (P1.out.frozen 0)).mono ?_
  rintro e u' w'' ⟨rfl, rfl, rfl⟩
  have P3 : StAt ((w.setCell ⟨p, 0, none⟩ (.int .i32 1)).setCell ⟨p, 0, none⟩ (.int .i32 0)) p 0 most next bn ps bc := Bx.set P1.out 0 _
  exact ⟨_, results_tmp2 rfl _ _ _, rfl, Kept.less (((Kept.refl [p] w).setCell (p := ⟨p, 0, none⟩) (Or.inl (by simp)) _).setCell (p := ⟨p, 0, none⟩) (Or.inl (by simp)) _) (Eq.trans P3 hp.symm)⟩
end Nd
end Go.Proofs.Ytihkldcdikbinaa
