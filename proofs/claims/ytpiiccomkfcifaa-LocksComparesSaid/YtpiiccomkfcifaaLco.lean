/- locks: Compare; the document's. -/
import Derived.Test.YtpiiccomkfcifaaLcn
namespace Go.Proofs.Ytpiiccomkfcifaa
set_option linter.unusedVariables false
open Go.RowKit
namespace Lk
open Go.Proofs.Ytpiiccomkfcifaa.Mpf Go.PlainAid
theorem cmpI_gt {x y : Int} (h : y < x) : cmpI x y = 1 := by unfold cmpI; rw [if_neg (by omega), if_pos h]
theorem cmpI_lt {x y : Int} (h : x < y) : cmpI x y = -1 := by unfold cmpI; rw [if_pos h]
abbrev LoC (a : Lo) : Array Value := #[.int .u8 a.kind, .int .i64 a.conn, .int .u64 a.num]
set_option maxHeartbeats 8000000 in
set_option maxRecDepth 100000 in
theorem Compare_any (w : World) (k1 k2 c1 c2 n1 n2 : Int) : Calls Try.prog 10 #[.agg #[.int .u8 k1, .int .i64 c1, .int .u64 n1], .agg #[.int .u8 k2, .int .i64 c2, .int .u64 n2]] w fun e w' => e = .returned (.int .i64 (or3 (cmpI k1 k2) (cmpI c1 c2) (cmpI n1 n2))) ∧ Kept [] w w' := by
  obtain ⟨A, hA⟩ : ∃ A, A = (w.alloc (.cells #[.int .u8 k1, .int .i64 c1, .int .u64 n1] 26)).alloc (.cells #[.int .u8 k2, .int .i64 c2, .int .u64 n2] 26) := ⟨_, rfl⟩
  have b1 : Bx A w.heap.size 26 #[.int .u8 k1, .int .i64 c1, .int .u64 n1] := by rw [hA]; exact (Bx.made w _ _).alloc _
  have b2 : Bx A (w.heap.size + 1) 26 #[.int .u8 k2, .int .i64 c2, .int .u64 n2] := by
    have := Bx.made (w.alloc (.cells #[.int .u8 k1, .int .i64 c1, .int .u64 n1] 26)) 26 #[.int .u8 k2, .int .i64 c2, .int .u64 n2]
    rw [World.size_alloc] at this
    rw [hA]; exact this
  have KA : Hid (Kept [] w A) := by rw [hA]; exact ((Kept.refl _ _).alloc _).alloc _
  obtain ⟨x, hx⟩ : ∃ x, x = cmpI k1 k2 := ⟨_, rfl⟩
  obtain ⟨y, hy⟩ : ∃ x, x = cmpI c1 c2 := ⟨_, rfl⟩
  obtain ⟨z, hz⟩ : ∃ x, x = cmpI n1 n2 := ⟨_, rfl⟩
  have C1 := Lib.hid (fun w => cmp_kind w k1 k2)
  have C2 := Lib.hid (fun w => cmp_int w c1 c2)
  have C3 := Lib.hid (fun w => cmp_u64 w n1 n2)
  rw [← hx] at C1 ⊢
  rw [← hy] at C2 ⊢
  rw [← hz] at C3 ⊢
  have SL : Hid (∀ w' : World, Kept [] A w' → w'.cell? ⟨w.heap.size, 0, none⟩ = some (.int .u8 k1) ∧ w'.cell? ⟨w.heap.size, 1, none⟩ = some (.int .i64 c1) ∧ w'.cell? ⟨w.heap.size, 2, none⟩ = some (.int .u64 n1) ∧ w'.cell? ⟨w.heap.size + 1, 0, none⟩ = some (.int .u8 k2) ∧ w'.cell? ⟨w.heap.size + 1, 1, none⟩ = some (.int .i64 c2) ∧ w'.cell? ⟨w.heap.size + 1, 2, none⟩ = some (.int .u64 n2)) := fun w' k =>
    ⟨(b1.kept k (by simp)).cell 0 rfl, (b1.kept k (by simp)).cell 1 rfl, (b1.kept k (by simp)).cell 2 rfl, (b2.kept k (by simp)).cell 0 rfl, (b2.kept k (by simp)).cell 1 rfl, (b2.kept k (by simp)).cell 2 rfl⟩
  have S1 := Lib.hid (SL.out A (Kept.refl [] A))
  have S2 := Lib.hid (SL.out (A.alloc (.cells #[.int .i64 x, .int .i64 y, .int .i64 z] 3)) ((Kept.refl [] A).alloc _))
  have OR := Lib.hid (fun (W : World) (h : W.heap[A.heap.size]? = some (.cells #[.int .i64 x, .int .i64 y, .int .i64 z] 3 (0, 0))) => or_any h)
  have NB : Hid ((A.alloc (.cells #[.int .i64 x, .int .i64 y, .int .i64 z] 3)).drew.heap[A.heap.size]? = some (.cells #[.int .i64 x, .int .i64 y, .int .i64 z] 3 (0, 0))) := (MapKept.heap_alloc A _).1
  have HE := Lib.hid hA
  clear hA b1 b2 hx hy hz
  go_enter Try.func10, Try.ntmps10
  go_wp2_with fail
  rw [← HE.out]
  go_region_held3 (fun w' => w'.cell? ⟨w.heap.size, 0, none⟩ = some (.int .u8 k1) ∧ w'.cell? ⟨w.heap.size, 1, none⟩ = some (.int .i64 c1) ∧ w'.cell? ⟨w.heap.size, 2, none⟩ = some (.int .u64 n1) ∧ w'.cell? ⟨w.heap.size + 1, 0, none⟩ = some (.int .u8 k2) ∧ w'.cell? ⟨w.heap.size + 1, 1, none⟩ = some (.int .i64 c2) ∧ w'.cell? ⟨w.heap.size + 1, 2, none⟩ = some (.int .u64 n2)) (first | exact S1.out | exact S2.out) (first | (go_at_call 30; refine (C1.out _).mono ?_; rintro e v1 ⟨rfl, rfl⟩) | (go_at_call 31; refine (C2.out _).mono ?_; rintro e v2 ⟨rfl, rfl⟩) | (go_at_call 32; refine (C3.out _).mono ?_; rintro e v3 ⟨rfl, rfl⟩) | (go_at_call 29; refine (OR.out _ NB.out).mono ?_; rintro e v4 ⟨rfl, rfl⟩))
  all_goals
    rename_i hh
    clear hh
    go_wp2_with fail
    go_ret
    exact ⟨rfl, (KA.out.alloc _).drew⟩
set_option maxHeartbeats 4000000 in
set_option maxRecDepth 100000 in
theorem rCompare_any (w : World) (k1 k2 c1 c2 n1 n2 : Int) : Calls Try.prog 11 #[.agg #[.int .u8 k1, .int .i64 c1, .int .u64 n1], .agg #[.int .u8 k2, .int .i64 c2, .int .u64 n2]] w fun e w' => e = .returned (.int .i64 (or3 (cmpI k1 k2) (cmpI c1 c2) (cmpI n1 n2))) ∧ Kept [] w w' := by
  have FIN : Hid (Kept [] w ((w.alloc (.cells #[.int .u8 k1, .int .i64 c1, .int .u64 n1] 26)).alloc (.cells #[.int .u8 k2, .int .i64 c2, .int .u64 n2] 26))) := ((Kept.refl _ _).alloc _).alloc _
  obtain ⟨r, hr⟩ : ∃ r, r = or3 (cmpI k1 k2) (cmpI c1 c2) (cmpI n1 n2) := ⟨_, rfl⟩
  rw [← hr]
  have HR : Hid (r = or3 (cmpI k1 k2) (cmpI c1 c2) (cmpI n1 n2)) := hr
  clear hr
  rcases Int.lt_trichotomy k1 k2 with hk | hk | hk
  · have F : Hid (-1 = r) := by show _ = _; rw [HR.out, cmpI_lt hk]; rfl
    have e1 : (k1 == k2) = false := by simp; omega
    clear HR
    go_enter Try.func11, Try.ntmps11
    go_wp2_with fail
    go_ret
    exact ⟨by rw [← F.out]; rfl, FIN.out⟩
  · subst hk
    have h0 : cmpI k1 k1 = 0 := by simp [cmpI]
    rcases Int.lt_trichotomy c1 c2 with hc | hc | hc
    · have F : Hid (-1 = r) := by show _ = _; rw [HR.out, h0, cmpI_lt hc]; rfl
      have e1 : (c1 == c2) = false := by simp; omega
      clear HR h0
      go_enter Try.func11, Try.ntmps11
      go_wp2_with fail
      go_ret
      exact ⟨by rw [← F.out]; rfl, FIN.out⟩
    · subst hc
      have h1 : cmpI c1 c1 = 0 := by simp [cmpI]
      rcases Int.lt_trichotomy n1 n2 with hn | hn | hn
      · have F : Hid (-1 = r) := by show _ = _; rw [HR.out, h0, h1, cmpI_lt hn]; rfl
        have e1 : (n1 == n2) = false := by simp; omega
        clear HR h0 h1
        go_enter Try.func11, Try.ntmps11
        go_wp2_with fail
        go_ret
        exact ⟨by rw [← F.out]; rfl, FIN.out⟩
      · subst hn
        have F : Hid (0 = r) := by show _ = _; rw [HR.out, h0, h1]; simp [or3, cmpI]
        clear HR h0 h1
        go_enter Try.func11, Try.ntmps11
        go_wp2_with fail
        go_ret
        exact ⟨by rw [← F.out]; rfl, FIN.out⟩
      · have F : Hid (1 = r) := by show _ = _; rw [HR.out, h0, h1, cmpI_gt hn]; rfl
        have e1 : (n1 == n2) = false := by simp; omega
        have e2 : ¬ n1 < n2 := by omega
        clear HR h0 h1
        go_enter Try.func11, Try.ntmps11
        go_wp2_with fail
        go_ret
        exact ⟨by rw [← F.out]; rfl, FIN.out⟩
    · have F : Hid (1 = r) := by show _ = _; rw [HR.out, h0, cmpI_gt hc]; rfl
      have e1 : (c1 == c2) = false := by simp; omega
      have e2 : ¬ c1 < c2 := by omega
      clear HR h0
      go_enter Try.func11, Try.ntmps11
      go_wp2_with fail
      go_ret
      exact ⟨by rw [← F.out]; rfl, FIN.out⟩
  · have F : Hid (1 = r) := by show _ = _; rw [HR.out, cmpI_gt hk]; rfl
    have e1 : (k1 == k2) = false := by simp; omega
    have e2 : ¬ k1 < k2 := by omega
    clear HR
    go_enter Try.func11, Try.ntmps11
    go_wp2_with fail
    go_ret
    exact ⟨by rw [← F.out]; rfl, FIN.out⟩
end Lk
end Go.Proofs.Ytpiiccomkfcifaa
