/- LocksCompares walked. -/
import Derived.Test.YtpiiccomkfcifaaLcq
namespace Go.Proofs.Ytpiiccomkfcifaa
set_option linter.unusedVariables false
open Go.RowKit
namespace Lk
open Go.Proofs.Ytpiiccomkfcifaa.Mpf Go.PlainAid
abbrev lo3 (k c n : Int) : Array Value := #[.int .u8 k, .int .i64 c, .int .u64 n]
set_option maxHeartbeats 16000000 in
set_option maxRecDepth 100000 in
theorem compares_any (w : World) (k1 c1 n1 k2 c2 n2 k3 c3 n3 : Int) :
    Calls Try.prog 4 #[.agg #[.int .u8 k1, .int .i64 c1, .int .u64 n1], .agg #[.int .u8 k2, .int .i64 c2, .int .u64 n2], .agg #[.int .u8 k3, .int .i64 c3, .int .u64 n3]] w fun e w' => e = .returned (.bool true) ∧ Below w.heap.size w w' := by
  obtain ⟨A, hA⟩ : ∃ A, A = ((w.alloc (.cells #[.int .u8 k1, .int .i64 c1, .int .u64 n1] 26)).alloc (.cells #[.int .u8 k2, .int .i64 c2, .int .u64 n2] 26)).alloc (.cells #[.int .u8 k3, .int .i64 c3, .int .u64 n3] 26) := ⟨_, rfl⟩
  have zA : A.heap.size = w.heap.size + 3 := by rw [hA]; simp
  have b1 : Bx A w.heap.size 26 #[.int .u8 k1, .int .i64 c1, .int .u64 n1] := by rw [hA]; exact ((Bx.made w _ _).alloc _).alloc _
  have b2 : Bx A (w.heap.size + 1) 26 #[.int .u8 k2, .int .i64 c2, .int .u64 n2] := by
    have := (Bx.made (w.alloc (.cells #[.int .u8 k1, .int .i64 c1, .int .u64 n1] 26)) 26 #[.int .u8 k2, .int .i64 c2, .int .u64 n2]).alloc (.cells #[.int .u8 k3, .int .i64 c3, .int .u64 n3] 26)
    rw [World.size_alloc] at this
    rw [hA]; exact this
  have b3 : Bx A (w.heap.size + 1 + 1) 26 #[.int .u8 k3, .int .i64 c3, .int .u64 n3] := by
    have := Bx.made ((w.alloc (.cells #[.int .u8 k1, .int .i64 c1, .int .u64 n1] 26)).alloc (.cells #[.int .u8 k2, .int .i64 c2, .int .u64 n2] 26)) 26 #[.int .u8 k3, .int .i64 c3, .int .u64 n3]
    rw [World.size_alloc, World.size_alloc] at this
    rw [hA]; exact this
  have KA : Kept [] w A := by rw [hA]; exact (((Kept.refl _ _).alloc _).alloc _).alloc _
  have keep : ∀ {w' : World} {B : Nat} {cs : Array Value}, Below A.heap.size A w' → Bx A B 26 cs → Bx w' B 26 cs := fun {w' B cs} k h => (k.block B h.lt).trans h
  have SL : Hid (∀ w' : World, Below A.heap.size A w' → w'.cell? ⟨w.heap.size, 0, none⟩ = some (.int .u8 k1) ∧ w'.cell? ⟨w.heap.size, 1, none⟩ = some (.int .i64 c1) ∧ w'.cell? ⟨w.heap.size, 2, none⟩ = some (.int .u64 n1) ∧ w'.cell? ⟨w.heap.size + 1, 0, none⟩ = some (.int .u8 k2) ∧ w'.cell? ⟨w.heap.size + 1, 1, none⟩ = some (.int .i64 c2) ∧ w'.cell? ⟨w.heap.size + 1, 2, none⟩ = some (.int .u64 n2) ∧ w'.cell? ⟨w.heap.size + 1 + 1, 0, none⟩ = some (.int .u8 k3) ∧ w'.cell? ⟨w.heap.size + 1 + 1, 1, none⟩ = some (.int .i64 c3) ∧ w'.cell? ⟨w.heap.size + 1 + 1, 2, none⟩ = some (.int .u64 n3)) := fun w' k =>
    ⟨(keep k b1).cell 0 rfl, (keep k b1).cell 1 rfl, (keep k b1).cell 2 rfl, (keep k b2).cell 0 rfl, (keep k b2).cell 1 rfl, (keep k b2).cell 2 rfl, (keep k b3).cell 0 rfl, (keep k b3).cell 1 rfl, (keep k b3).cell 2 rfl⟩
  have FIN : Hid (∀ w', Below A.heap.size A w' → Below w.heap.size w w') := fun w' k => (KA.below (fun i hi => by cases hi) (Nat.le_refl _)).trans (k.mono (by omega))
  have KN := Lib.hid (known_any A)
  have CAB := Lib.hid (fun u => Compare_any u k1 k2 c1 c2 n1 n2)
  have CBC := Lib.hid (fun u => Compare_any u k2 k3 c2 c3 n2 n3)
  have CAC := Lib.hid (fun u => Compare_any u k1 k3 c1 c3 n1 n3)
  have CBA := Lib.hid (fun u => Compare_any u k2 k1 c2 c1 n2 n1)
  have RAB := Lib.hid (fun u => rCompare_any u k1 k2 c1 c2 n1 n2)
  have RBC := Lib.hid (fun u => rCompare_any u k2 k3 c2 c3 n2 n3)
  have RAC := Lib.hid (fun u => rCompare_any u k1 k3 c1 c3 n1 n3)
  have EQ := fun u => eqlLock u k1 k2 c1 c2 n1 n2
  have e1 : or3 (cmpI k1 k2) (cmpI c1 c2) (cmpI n1 n2) = cm k1 k2 c1 c2 n1 n2 := rfl
  have e2 : or3 (cmpI k2 k3) (cmpI c2 c3) (cmpI n2 n3) = cm k2 k3 c2 c3 n2 n3 := rfl
  have e3 : or3 (cmpI k1 k3) (cmpI c1 c3) (cmpI n1 n3) = cm k1 k3 c1 c3 n1 n3 := rfl
  have e4 : or3 (cmpI k2 k1) (cmpI c2 c1) (cmpI n2 n1) = - cm k1 k2 c1 c2 n1 n2 := cm_neg k1 k2 c1 c2 n1 n2
  have ez := cm_zero k1 k2 c1 c2 n1 n2
  have CT := cm_trans k1 k2 k3 c1 c2 c3 n1 n2 n3
  rw [e1] at CAB RAB
  rw [e2] at CBC RBC
  rw [e3] at CAC RAC
  rw [e4] at CBA
  obtain ⟨x, hx⟩ : ∃ x, x = cm k1 k2 c1 c2 n1 n2 := ⟨_, rfl⟩
  obtain ⟨y, hy⟩ : ∃ x, x = cm k2 k3 c2 c3 n2 n3 := ⟨_, rfl⟩
  obtain ⟨z, hz⟩ : ∃ x, x = cm k1 k3 c1 c3 n1 n3 := ⟨_, rfl⟩
  obtain ⟨eb, heb⟩ : ∃ b, b = (k1 == k2 && (c1 == c2 && n1 == n2)) := ⟨_, rfl⟩
  obtain ⟨xm, hxm⟩ : ∃ v, v = -x := ⟨_, rfl⟩
  rw [← hx] at CAB RAB CBA CT ez
  rw [← hy] at CBC RBC CT
  rw [← hz] at CAC RAC CT
  rw [← heb] at EQ ez
  rw [← hxm] at CBA
  have HCT := Lib.hid CT
  have HXM := Lib.hid hxm
  have HEZ := Lib.hid ez
  have HE := Lib.hid hA
  have Z : Hid (Below A.heap.size A A) := Below.refl _ _
  have HEQ := Lib.hid EQ
  clear hA b1 b2 b3 hx hy hz heb e1 e2 e3 e4 ez CT hxm KA keep zA EQ
  go_enter Try.func4, Try.ntmps4
  go_upto_region 1 with (fail)
  rw [← HE.out]
  go_upto_region 7 with (first | (go_at_call 9; refine KN.out.mono ?_; rintro e u ⟨rfl, ku⟩; have Z := Lib.hid ku; obtain ⟨a0, a1, a2, a3, a4, a5, a6, a7, a8⟩ := SL.out _ ku; clear ku KN) | (go_at_call 10; refine (CAB.out _).mono ?_; rintro e u ⟨rfl, ku⟩; have Z := Lib.hid (bel0 Z.out ku Z.out.size); obtain ⟨a0, a1, a2, a3, a4, a5, a6, a7, a8⟩ := SL.out _ Z.out; clear ku CAB) | (go_at_call 10; refine (CBC.out _).mono ?_; rintro e u ⟨rfl, ku⟩; have Z := Lib.hid (bel0 Z.out ku Z.out.size); obtain ⟨a0, a1, a2, a3, a4, a5, a6, a7, a8⟩ := SL.out _ Z.out; clear ku CBC) | (go_at_call 10; refine (CAC.out _).mono ?_; rintro e u ⟨rfl, ku⟩; have Z := Lib.hid (bel0 Z.out ku Z.out.size); obtain ⟨a0, a1, a2, a3, a4, a5, a6, a7, a8⟩ := SL.out _ Z.out; clear ku CAC) | (go_at_call 11; refine (RAB.out _).mono ?_; rintro e u ⟨rfl, ku⟩; have Z := Lib.hid (bel0 Z.out ku Z.out.size); obtain ⟨a0, a1, a2, a3, a4, a5, a6, a7, a8⟩ := SL.out _ Z.out; clear ku RAB) | (go_at_call 11; refine (RBC.out _).mono ?_; rintro e u ⟨rfl, ku⟩; have Z := Lib.hid (bel0 Z.out ku Z.out.size); obtain ⟨a0, a1, a2, a3, a4, a5, a6, a7, a8⟩ := SL.out _ Z.out; clear ku RBC) | (go_at_call 11; refine (RAC.out _).mono ?_; rintro e u ⟨rfl, ku⟩; have Z := Lib.hid (bel0 Z.out ku Z.out.size); obtain ⟨a0, a1, a2, a3, a4, a5, a6, a7, a8⟩ := SL.out _ Z.out; clear ku RAC))
  obtain ⟨hx, hy, hz, t1, t2⟩ := HCT.out
  have hxm := HXM.out
  have hez := HEZ.out
  have EQ := HEQ.out
  clear HCT HXM HEZ HEQ
  rcases hx with rfl | rfl | rfl <;> rcases hy with rfl | rfl | rfl <;> rcases hz with rfl | rfl | rfl <;> try (exfalso; omega)
  all_goals
    clear t1 t2
    simp at hxm hez
    subst hxm hez
    go_wp2_with (go_at_call 10; refine (CBA.out _).mono ?_; rintro e u9 ⟨rfl, ku⟩; have Z9 := Lib.hid (bel0 Z.out ku Z.out.size); obtain ⟨z0, z1, z2, z3, z4, z5, z6, z7, z8⟩ := SL.out _ Z9.out; clear ku CBA)
    go_ret
    exact ⟨rfl, FIN.out _ Z9.out⟩
end Lk
end Go.Proofs.Ytpiiccomkfcifaa
