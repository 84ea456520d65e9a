/- rules: the law's two tables. -/
import Derived.Test.YtondjodfkgefgaaGreatDoorRpk
import Derived.Test.YtondjodfkgefgaaGreatDoorRop
import Derived.Test.YtondjodfkgefgaaGreatDoorRbt
import Derived.Test.YtondjodfkgefgaaGreatDoorNkr
import Derived.Test.YtondjodfkgefgaaGreatDoorRcl
import Derived.Test.YtondjodfkgefgaaGreatDoorRmo
import Derived.Test.YtondjodfkgefgaaGreatDoorRcs

section
namespace Go.Proofs.YtondjodfkgefgaaGreatDoor
set_option linter.unusedVariables false
open Go.RowKit Go.Shelf
attribute [local go_sem] Oper.semAt_some
namespace Ru
open Go.Proofs.YtondjodfkgefgaaGreatDoor.Utf Go.Proofs.YtondjodfkgefgaaGreatDoor.Txt Go.PlainAid Go.Proofs.YtondjodfkgefgaaGreatDoor.Mpf Go.Proofs.YtondjodfkgefgaaGreatDoor.Us

theorem and7 (n : Nat) (h : n < 4294967296) : bits .and .u32 (n : Int) 7 = ((n % 8 : Nat) : Int) := by
  rw [and32]
  congr 1
  rw [BitVec.toNat_and]
  have e1 : (B32 (n : Int)).toNat = n := by unfold B32; simp; omega
  have e2 : (B32 7).toNat = 2 ^ 3 - 1 := by decide
  rw [e1, e2, Nat.and_two_pow_sub_one_eq_mod]
theorem or_small : ∀ (a b c : Fin 8), bits .or .u8 0 ((c.val : Int) % 256) = (c.val : Int) ∧ bits .or .u8 (bits .or .u8 0 ((b.val : Int) % 256)) ((c.val : Int) % 256) = bits .or .u32 (c.val : Int) (b.val : Int) % 256 ∧
    bits .or .u8 (bits .or .u8 (bits .or .u8 0 ((a.val : Int) % 256)) ((b.val : Int) % 256)) ((c.val : Int) % 256) = bits .or .u32 (bits .or .u32 (c.val : Int) (a.val : Int)) (b.val : Int) % 256 := by decide +kernel
theorem rOf_ref (m : Nat) (h : m < 4294967296) : rOf false false m = (m : Int) % 8 ∧ rOf false true m = bits .or .u32 ((m : Int) % 8) ((m : Int) / 8 % 8) % 256 ∧ rOf true false m = bits .or .u32 ((m : Int) % 8) ((m : Int) / 64 % 8) % 256 ∧ rOf true true m = bits .or .u32 (bits .or .u32 ((m : Int) % 8) ((m : Int) / 64 % 8)) ((m : Int) / 8 % 8) % 256 := by
  have e0 : bits .and .u32 (m : Int) 7 = ((m % 8 : Nat) : Int) := and7 m h
  have e1 : bits .and .u32 ((m : Int) / 64) 7 = ((m / 64 % 8 : Nat) : Int) := by have := and7 (m / 64) (by omega); rw [← this]; rfl
  have e2 : bits .and .u32 ((m : Int) / 8) 7 = ((m / 8 % 8 : Nat) : Int) := by have := and7 (m / 8) (by omega); rw [← this]; rfl
  have f0 : (m : Int) % 8 = ((m % 8 : Nat) : Int) := by omega
  have f1 : (m : Int) / 64 % 8 = ((m / 64 % 8 : Nat) : Int) := by omega
  have f2 : (m : Int) / 8 % 8 = ((m / 8 % 8 : Nat) : Int) := by omega
  obtain ⟨g1, g2, g3⟩ := or_small ⟨m / 64 % 8, by omega⟩ ⟨m / 8 % 8, by omega⟩ ⟨m % 8, by omega⟩
  obtain ⟨k1, k2, k3⟩ := or_small ⟨m / 64 % 8, by omega⟩ ⟨m / 64 % 8, by omega⟩ ⟨m % 8, by omega⟩
  unfold rOf
  rw [e0, e1, e2, f0, f1, f2]
  simp only [if_true, Bool.false_eq_true, if_false]
  exact ⟨g1, g2, k2, g3⟩
set_option maxHeartbeats 8000000 in
set_option maxRecDepth 100000 in
theorem rRights_any {w : World} {q : Nat} {T : List Acc} (h : Rt w q T) (gd : Gd T) (u : ByteArray) (d : Nd) (hm : d.mode < 4294967296) :
    Calls Tryz.prog 13 #[.pointer (some ⟨q, 0, none⟩), .string u, d.V] w fun e w' => e = .returned (.int .u8 (rightsV T u d)) ∧ Kept [] w w' := by
  obtain ⟨path, parent, name, mode, uid, gid, muid, atime, mtime, vers, length, opens, kids⟩ := d
  simp only at hm
  obtain ⟨z, hz⟩ : ∃ z, z = rightsV T u ⟨path, parent, name, mode, uid, gid, muid, atime, mtime, vers, length, opens, kids⟩ := ⟨_, rfl⟩
  rw [← hz]
  have HZ : Hid (z = rOf (decide (u = uid)) (member T u gid) mode) := hz
  simp only [Nd.V, Nd.L]
  have ME := Lib.hid (fun (w' : World) (k : Kept [] w w') => rMember_any (h.kept k) gd u gid)
  obtain ⟨y, hy⟩ : ∃ y, y = decide (u = uid) := ⟨_, rfl⟩
  obtain ⟨b, hb⟩ : ∃ y, y = member T u gid := ⟨_, rfl⟩
  have BQ := beq_str u uid
  rw [← hy] at HZ BQ
  rw [← hb] at HZ ME
  clear hz hy hb h gd
  cases y <;> cases b
  all_goals
    go_enter Tryz.func13, Tryz.ntmps13
    go_wp2_with (go_at_call 35; refine (ME.out _ ((Kept.refl _ _).alloc _)).mono ?_; rintro e w2 ⟨rfl, rfl⟩)
    go_ret
    refine ⟨congrArg (fun x => Ending.returned (.int .u8 x)) ?_, (Kept.refl _ _).alloc _⟩
    rw [HZ.out]
    first | exact (rOf_ref mode hm).1.symm | exact (rOf_ref mode hm).2.1.symm | exact (rOf_ref mode hm).2.2.1.symm | exact (rOf_ref mode hm).2.2.2.symm
end Ru
end Go.Proofs.YtondjodfkgefgaaGreatDoor
end

section
namespace Go.Proofs.YtondjodfkgefgaaGreatDoor
set_option linter.unusedVariables false
open Go.RowKit Go.Shelf
attribute [local go_sem] Oper.semAt_some
namespace Nm
open Go.Proofs.YtondjodfkgefgaaGreatDoor.Utf Go.Proofs.YtondjodfkgefgaaGreatDoor.Txt Go.PlainAid

theorem get_dl (p : ByteArray) (k : Nat) (h : k < p.size) : (dl p)[k]'(by rw [dl_length]; exact h) = p[k] := rfl
set_option maxHeartbeats 8000000 in
set_option maxRecDepth 100000 in
theorem rcheck_any (w : World) (p : ByteArray) (hs : p.size ≤ 140737488355328) :
    Calls Tryz.prog 72 #[.string p] w fun e w' => e = .returned (.int .i64 (if chk p = true then 0 else 50)) ∧ Kept [] w w' := by
  obtain ⟨z, hz⟩ : ∃ z : Int, z = if chk p = true then 0 else 50 := ⟨_, rfl⟩
  have HZ := Lib.hid hz
  rw [← hz]
  have NO : Hid (¬ (chk p = true) → (50 : Int) = z) := fun h => by rw [HZ.out, if_neg h]
  have YES : Hid (chk p = true → (0 : Int) = z) := fun h => by rw [HZ.out, if_pos h]
  have HL := Lib.hid (dl_length p)
  have HT := Lib.hid (toList_dl p)
  have GOOD := Lib.hid (rgood_any p w hs)
  obtain ⟨g, hg⟩ : ∃ g, g = good p := ⟨_, rfl⟩
  rw [← hg] at GOOD
  have HG := Lib.hid hg
  clear hz hg
  by_cases h1 : p.toList = []
  · have hv : (50 : Int) = z := NO.out (fun h => by unfold chk at h; have := of_decide_eq_true h; exact this.1 (by rw [← HT.out]; exact h1))
    have HV := Lib.hid hv
    clear hv
    go_enter Tryz.func72, Tryz.ntmps72
    go_wp2_with fail
    refine GOOD.out.mono ?_
    rintro e w2 ⟨rfl, rfl⟩
    go_wp2_with fail
    go_ret
    exact ⟨ret_int HV.out, Kept.refl _ _⟩
  by_cases h2 : p.toList = [46]
  · have hv : (50 : Int) = z := NO.out (fun h => by unfold chk at h; have := of_decide_eq_true h; exact this.2.1 (by rw [← HT.out]; exact h2))
    have HV := Lib.hid hv
    clear hv
    go_enter Tryz.func72, Tryz.ntmps72
    go_wp2_with fail
    refine GOOD.out.mono ?_
    rintro e w2 ⟨rfl, rfl⟩
    go_wp2_with fail
    go_ret
    exact ⟨ret_int HV.out, Kept.refl _ _⟩
  by_cases h3 : p.toList = [46, 46]
  · have hv : (50 : Int) = z := NO.out (fun h => by unfold chk at h; have := of_decide_eq_true h; exact this.2.2.1 (by rw [← HT.out]; exact h3))
    have HV := Lib.hid hv
    clear hv
    go_enter Tryz.func72, Tryz.ntmps72
    go_wp2_with fail
    refine GOOD.out.mono ?_
    rintro e w2 ⟨rfl, rfl⟩
    go_wp2_with fail
    go_ret
    exact ⟨ret_int HV.out, Kept.refl _ _⟩
  have H1 := Lib.hid h1
  have H2 := Lib.hid h2
  have H3 := Lib.hid h3
  have b1 : p.toList.isEmpty = false := by rw [List.isEmpty_eq_false_iff]; exact h1
  have b2 : (p.toList == [46]) = false := by rw [beq_eq_false_iff_ne]; exact h2
  have b3 : (p.toList == [46, 46]) = false := by rw [beq_eq_false_iff_ne]; exact h3
  have b0 : (p.toList == []) = false := by rw [beq_eq_false_iff_ne]; exact h1
  clear h1 h2 h3
  cases g with
  | false =>
    have hv : (50 : Int) = z := NO.out (fun h => by unfold chk at h; have := of_decide_eq_true h; rw [← HG.out] at this; exact absurd this.2.2.2.2.2 (by decide))
    have HV := Lib.hid hv
    clear hv
    go_enter Tryz.func72, Tryz.ntmps72
    go_wp2_with fail
    refine GOOD.out.mono ?_
    rintro e w2 ⟨rfl, rfl⟩
    go_wp2_with fail
    go_ret
    exact ⟨ret_int HV.out, Kept.refl _ _⟩
  | true =>
    by_cases h4 : p.size ≤ 255
    · have h4' : ¬ (255 : Int) < (p.size : Int) := by omega
      go_enter Tryz.func72, Tryz.ntmps72
      go_wp2_with fail
      refine GOOD.out.mono ?_
      rintro e w2 ⟨rfl, rfl⟩
      go_wp2_with fail
      go_loopw [4] (fun iv wr => ∃ k : Nat, iv = .int .i64 k ∧ k ≤ p.size ∧ wr = w ∧ Hid (∀ j (h : j < p.size), j < k → p[j] ≠ 47)) (fun iv _ => p.size - (intOf iv).toNat)
      case atStart => exact ⟨0, rfl, by omega, rfl, fun j _ h => by omega⟩
      case round =>
        obtain ⟨k, rfl, hk, rfl, hN⟩ := hrel
        by_cases hlt : k < p.size
        · by_cases hc : p[k] = 47
          · have hv : (50 : Int) = z := NO.out (fun h => by
              unfold chk at h
              have := of_decide_eq_true h
              exact this.2.2.2.2.1 (by rw [← hc, ← get_dl p k hlt]; exact List.getElem_mem _))
            have HV := Lib.hid hv
            have e1 : ((p[k].toNat : Int) == 47) = true := by rw [hc]; rfl
            clear hv hc
            go_wp2_with fail
            go_ret
            exact ⟨ret_int HV.out, Kept.refl _ _⟩
          · have e1 : ((p[k].toNat : Int) == 47) = false := by
              rw [beq_eq_false_iff_ne]
              intro e
              exact hc (UInt8.toNat_inj.1 (by show _ = 47; omega))
            have HN2 : Hid (∀ j (h : j < p.size), j < k + 1 → p[j] ≠ 47) := fun j h hj => by
              by_cases hjk : j = k
              · subst hjk; exact hc
              · exact hN.out j h (by omega)
            clear hc
            go_wp2_with fail
            go_roundw
            case rel => exact ⟨k + 1, by go_num, by omega, trivial, HN2.out⟩
            case measure => simp [intOf]; omega
        · have hv : (0 : Int) = z := by
            refine YES.out ?_
            unfold chk
            refine decide_eq_true ⟨by rw [← HT.out]; exact H1.out, by rw [← HT.out]; exact H2.out, by rw [← HT.out]; exact H3.out, by rw [HL.out]; exact h4, fun hm => ?_, HG.out.symm⟩
            obtain ⟨j, hj, e⟩ := List.mem_iff_getElem.1 hm
            have hj' : j < p.size := by rw [← HL.out]; exact hj
            exact hN.out j hj' (by omega) (by rw [← get_dl p j hj']; exact e)
          have HV := Lib.hid hv
          clear hv
          go_wp2_with fail
          go_ret
          exact ⟨ret_int HV.out, Kept.refl _ _⟩
    · have hv : (50 : Int) = z := NO.out (fun h => by unfold chk at h; have := of_decide_eq_true h; have h2 := this.2.2.2.1; rw [HL.out] at h2; exact h4 h2)
      have HV := Lib.hid hv
      have h4' : (255 : Int) < (p.size : Int) := by omega
      clear hv
      go_enter Tryz.func72, Tryz.ntmps72
      go_wp2_with fail
      refine GOOD.out.mono ?_
      rintro e w2 ⟨rfl, rfl⟩
      go_wp2_with fail
      go_ret
      exact ⟨ret_int HV.out, Kept.refl _ _⟩
end Nm
end Go.Proofs.YtondjodfkgefgaaGreatDoor
end

section
namespace Go.Proofs.YtondjodfkgefgaaGreatDoor
set_option linter.unusedVariables false
open Go.RowKit Go.Shelf
attribute [local go_sem] Oper.semAt_some
namespace Ru
open Go.Proofs.YtondjodfkgefgaaGreatDoor.Utf Go.Proofs.YtondjodfkgefgaaGreatDoor.Txt Go.PlainAid Go.Proofs.YtondjodfkgefgaaGreatDoor.Mpf Go.Proofs.YtondjodfkgefgaaGreatDoor.Us

theorem two_ways : ∀ a b : Fin 8, (bits .and .u8 (a.val : Int) (b.val : Int) == (b.val : Int)) = (bits .andNot .u8 (b.val : Int) (a.val : Int) == 0) := by decide +kernel
theorem may_two_ways (T : List Acc) (u : ByteArray) (d : Nd) (x : Nat) (hx : x ≤ 7) : (bits .and .u8 (rightsV T u d) (x : Int) == (x : Int)) = mayV T u d (x : Int) := by
  have h := ownN_le T u d
  have := two_ways ⟨ownN T u d, by omega⟩ ⟨x, by omega⟩
  unfold mayV
  rw [rightsV_nat]
  exact this
set_option maxHeartbeats 8000000 in
set_option maxRecDepth 100000 in
theorem rmay_any {w : World} {q : Nat} {T : List Acc} (h : Rt w q T) (gd : Gd T) (u : ByteArray) (d : Nd) (hm : d.mode < 4294967296) (x : Nat) (hx : x ≤ 7) (xi : Int) (hxi : xi = (x : Int)) :
    Calls Tryz.prog 38 #[.pointer (some ⟨q, 0, none⟩), .string u, .agg #[.int .u64 d.path, .int .u64 d.parent, .string d.name, .int .u32 d.mode, .string d.uid, .string d.gid, .string d.muid, .int .u32 d.atime, .int .u32 d.mtime, .int .u32 d.vers, .int .u64 d.length, .int .i64 d.opens, .int .i64 d.kids], .int .u8 xi] w fun e w' => e = .returned (.bool (mayV T u d xi)) ∧ Kept [] w w' := by
  have HV : Hid ((bits .and .u8 (rightsV T u d) xi == xi) = mayV T u d xi) := by rw [hxi]; exact may_two_ways T u d x hx
  obtain ⟨w1, hw1⟩ : ∃ w1, w1 = w.alloc (.cells #[.int .u64 d.path, .int .u64 d.parent, .string d.name, .int .u32 d.mode, .string d.uid, .string d.gid, .string d.muid, .int .u32 d.atime, .int .u32 d.mtime, .int .u32 d.vers, .int .u64 d.length, .int .i64 d.opens, .int .i64 d.kids] 25) := ⟨_, rfl⟩
  obtain ⟨R, hR⟩ : ∃ R, R = w.heap.size := ⟨_, rfl⟩
  have B1 : Hid (w1.heap[R]? = some (.cells #[.int .u64 d.path, .int .u64 d.parent, .string d.name, .int .u32 d.mode, .string d.uid, .string d.gid, .string d.muid, .int .u32 d.atime, .int .u32 d.mtime, .int .u32 d.vers, .int .u64 d.length, .int .i64 d.opens, .int .i64 d.kids] 25 (0, 0))) := by rw [hw1, hR]; exact (MapKept.heap_alloc w _).1
  have K1 : Hid (Kept [] w w1) := by rw [hw1]; exact (Kept.refl _ _).alloc _
  have HW1 := Lib.hid hw1
  have HR := Lib.hid hR
  have RI := Lib.hid (rRights_any (h.kept K1.out) gd u d hm)
  simp only [Nd.V, Nd.L] at RI
  obtain ⟨r, hr⟩ : ∃ r, r = rightsV T u d := ⟨_, rfl⟩
  obtain ⟨z, hz⟩ : ∃ z, z = mayV T u d xi := ⟨_, rfl⟩
  rw [← hr] at RI HV
  rw [← hz] at HV ⊢
  clear hw1 hR hr hz hxi hx h gd hm
  go_enter Tryz.func38, Tryz.ntmps38
  go_upto_region 1 with fail
  rw [← HW1.out, ← HR.out]
  obtain ⟨c0, c1, c2, c3, c4, c5, c6, c7, c8, c9, c10, c11, c12⟩ := nd_cells (d := d) B1.out
  go_wp2_with (go_at_call 13; refine RI.out.mono ?_; rintro e w2 ⟨rfl, k2⟩)
  go_ret
  exact ⟨congrArg (fun b => Ending.returned (.bool b)) HV.out, K1.out.trans k2 (fun i hi => by cases hi)⟩
set_option maxHeartbeats 8000000 in
set_option maxRecDepth 100000 in
theorem rStep_any {w : World} {q : Nat} {T : List Acc} (h : Rt w q T) (gd : Gd T) (u : ByteArray) (d : Nd) (hm : d.mode < 4294967296) :
    Calls Tryz.prog 15 #[.pointer (some ⟨q, 0, none⟩), .string u, .agg #[.int .u64 d.path, .int .u64 d.parent, .string d.name, .int .u32 d.mode, .string d.uid, .string d.gid, .string d.muid, .int .u32 d.atime, .int .u32 d.mtime, .int .u32 d.vers, .int .u64 d.length, .int .i64 d.opens, .int .i64 d.kids]] w fun e w' => e = .returned (.int .i64 (stepE T u d)) ∧ Kept [] w w' := by
  obtain ⟨z, hz⟩ : ∃ z, z = stepE T u d := ⟨_, rfl⟩
  rw [← hz]
  unfold stepE dirV at hz
  obtain ⟨m1, hm1⟩ : ∃ x, x = mayV T u d 1 := ⟨_, rfl⟩
  obtain ⟨dv, hdv⟩ : ∃ x, bits .and .u32 (d.mode : Int) 2147483648 = x := ⟨_, rfl⟩
  rw [hdv, ← hm1] at hz
  have HZ := Lib.hid hz
  obtain ⟨w1, hw1⟩ : ∃ w1, w1 = w.alloc (.cells #[.int .u64 d.path, .int .u64 d.parent, .string d.name, .int .u32 d.mode, .string d.uid, .string d.gid, .string d.muid, .int .u32 d.atime, .int .u32 d.mtime, .int .u32 d.vers, .int .u64 d.length, .int .i64 d.opens, .int .i64 d.kids] 25) := ⟨_, rfl⟩
  obtain ⟨R, hR⟩ : ∃ R, R = w.heap.size := ⟨_, rfl⟩
  have B1 : Hid (w1.heap[R]? = some (.cells #[.int .u64 d.path, .int .u64 d.parent, .string d.name, .int .u32 d.mode, .string d.uid, .string d.gid, .string d.muid, .int .u32 d.atime, .int .u32 d.mtime, .int .u32 d.vers, .int .u64 d.length, .int .i64 d.opens, .int .i64 d.kids] 25 (0, 0))) := by rw [hw1, hR]; exact (MapKept.heap_alloc w _).1
  have K1 : Hid (Kept [] w w1) := by rw [hw1]; exact (Kept.refl _ _).alloc _
  have HW1 := Lib.hid hw1
  have HR := Lib.hid hR
  have MM := Lib.hid (rmay_any (h.kept K1.out) gd u d hm 1 (by decide) 1 rfl)
  rw [← hm1] at MM
  clear hw1 hR hz hm1 h gd hm
  go_enter Tryz.func15, Tryz.ntmps15
  go_upto_region 1 with fail
  rw [← HW1.out, ← HR.out]
  obtain ⟨c0, c1, c2, c3, c4, c5, c6, c7, c8, c9, c10, c11, c12⟩ := nd_cells (d := d) B1.out
  go_wp2_with (go_at_call 38; refine MM.out.mono ?_; rintro e w2 ⟨rfl, k2⟩)
  all_goals
    go_ret
    refine ⟨?_, by first | exact K1.out.trans k2 (fun i hi => by cases hi) | exact K1.out⟩
    have hz := HZ.out
    clear HZ MM B1 HW1 HR K1 c0 c1 c2 c3 c4 c5 c6 c7 c8 c9 c10 c11 c12
    simp_all
theorem wants_small (mode : Nat) (h : mode < 256) : ∃ x : Nat, x ≤ 7 ∧ wantsV mode = (x : Int) := by
  have : ∀ m : Fin 256, ∃ x : Fin 8, wantsV ((m.val : Nat) : Int) = ((x.val : Nat) : Int) := by decide +kernel
  obtain ⟨x, hx⟩ := this ⟨mode, h⟩
  exact ⟨x.val, by omega, hx⟩
set_option maxHeartbeats 16000000 in
set_option maxRecDepth 100000 in
theorem rOpen_any {w : World} {q : Nat} {T : List Acc} (h : Rt w q T) (gd : Gd T) (u : ByteArray) (n p : Nd) (tk fl : Bool) (mode : Nat) (hmo : mode < 256) (hn : n.mode < 4294967296) (hp : p.mode < 4294967296) :
    Calls Tryz.prog 19 #[.pointer (some ⟨q, 0, none⟩), .string u, factsV n p tk fl, .int .u8 mode] w fun e w' => e = .returned (.int .i64 (openE T u n p mode)) ∧ Kept [] w w' := by
  obtain ⟨z, hz⟩ : ∃ z, z = openE T u n p mode := ⟨_, rfl⟩
  rw [← hz]
  unfold openE dirV at hz
  obtain ⟨x, hx7, hxv⟩ := wants_small mode hmo
  obtain ⟨wv, hwv⟩ : ∃ x, x = wantsV mode := ⟨_, rfl⟩
  obtain ⟨we, hwe⟩ : ∃ x, x = wantsE mode := ⟨_, rfl⟩
  obtain ⟨dv, hdv⟩ : ∃ x, bits .and .u32 (n.mode : Int) 2147483648 = x := ⟨_, rfl⟩
  obtain ⟨m1, hm1⟩ : ∃ x, x = mayV T u n wv := ⟨_, rfl⟩
  obtain ⟨m2, hm2⟩ : ∃ x, x = mayV T u p 2 := ⟨_, rfl⟩
  obtain ⟨b6, hb6⟩ : ∃ x, bits .and .u8 (mode : Int) 64 = x := ⟨_, rfl⟩
  obtain ⟨bx, hbx⟩ : ∃ x, bits .and .u32 (n.mode : Int) 536870912 = x := ⟨_, rfl⟩
  have WW : Hid (∀ w, Calls Tryz.prog 40 #[.int .u8 mode] w fun e w' => e = .returned (.tuple #[.int .u8 wv, .int .i64 we]) ∧ w = w') := fun w => by rw [hwv, hwe]; exact rWants_any w mode hmo
  rw [← hwv] at hxv
  rw [← hwe, ← hwv, hdv, ← hm1, ← hm2, hb6, hbx] at hz
  have HZ := Lib.hid hz
  obtain ⟨w1, hw1⟩ : ∃ w1, w1 = w.alloc (.cells #[.int .u64 n.path, .int .u64 n.parent, .string n.name, .int .u32 n.mode, .string n.uid, .string n.gid, .string n.muid, .int .u32 n.atime, .int .u32 n.mtime, .int .u32 n.vers, .int .u64 n.length, .int .i64 n.opens, .int .i64 n.kids, .int .u64 p.path, .int .u64 p.parent, .string p.name, .int .u32 p.mode, .string p.uid, .string p.gid, .string p.muid, .int .u32 p.atime, .int .u32 p.mtime, .int .u32 p.vers, .int .u64 p.length, .int .i64 p.opens, .int .i64 p.kids, .bool tk, .bool fl] 28) := ⟨_, rfl⟩
  obtain ⟨R, hR⟩ : ∃ R, R = w.heap.size := ⟨_, rfl⟩
  have B1 : Hid (Bf w1 R n p tk fl) := by rw [hw1, hR]; exact (MapKept.heap_alloc w _).1
  have K1 : Hid (Kept [] w w1) := by rw [hw1]; exact (Kept.refl _ _).alloc _
  have HW1 := Lib.hid hw1
  have HR := Lib.hid hR
  have MM : Hid (∀ w', Kept [] w w' → Calls Tryz.prog 38 #[.pointer (some ⟨q, 0, none⟩), .string u, .agg #[.int .u64 n.path, .int .u64 n.parent, .string n.name, .int .u32 n.mode, .string n.uid, .string n.gid, .string n.muid, .int .u32 n.atime, .int .u32 n.mtime, .int .u32 n.vers, .int .u64 n.length, .int .i64 n.opens, .int .i64 n.kids], .int .u8 wv] w' fun e w'' => e = .returned (.bool m1) ∧ Kept [] w' w'') := fun w' k => by rw [hm1]; exact rmay_any (h.kept k) gd u n hn x hx7 wv hxv
  have MX : Hid (∀ w', Kept [] w w' → Calls Tryz.prog 38 #[.pointer (some ⟨q, 0, none⟩), .string u, .agg #[.int .u64 p.path, .int .u64 p.parent, .string p.name, .int .u32 p.mode, .string p.uid, .string p.gid, .string p.muid, .int .u32 p.atime, .int .u32 p.mtime, .int .u32 p.vers, .int .u64 p.length, .int .i64 p.opens, .int .i64 p.kids], .int .u8 2] w' fun e w'' => e = .returned (.bool m2) ∧ Kept [] w' w'') := fun w' k => by rw [hm2]; exact rmay_any (h.kept k) gd u p hp 2 (by decide) 2 rfl
  unfold factsV
  clear hw1 hR hz hm1 hm2 hwv hwe hxv hx7 h gd hn hp hmo
  go_enter Tryz.func19, Tryz.ntmps19
  go_upto_region 1 with fail
  rw [← HW1.out, ← HR.out]
  obtain ⟨c0, c1, c2, c3, c4, c5, c6, c7, c8, c9, c10, c11, c12, c13, c14, c15, c16, c17, c18, c19, c20, c21, c22, c23, c24, c25, c26, c27⟩ := B1.out.cells
  go_wp2_with (first | (go_at_call 40; refine (WW.out _).mono ?_; rintro e w2 ⟨rfl, rfl⟩) | (go_at_call 38; ((with_reducible refine (MM.out _ K1.out).mono ?_)); rintro e w3 ⟨rfl, k3⟩; clear c0 c1 c2 c3 c4 c5 c6 c7 c8 c9 c10 c11 c12 c13 c14 c15 c16 c17 c18 c19 c20 c21 c22 c23 c24 c25 c26 c27; have K3 : Hid (Kept [] w w3) := K1.out.trans k3 (fun i hi => by cases hi); have B3 := Lib.hid (B1.out.kept k3 (by simp)); obtain ⟨c0, c1, c2, c3, c4, c5, c6, c7, c8, c9, c10, c11, c12, c13, c14, c15, c16, c17, c18, c19, c20, c21, c22, c23, c24, c25, c26, c27⟩ := B3.out.cells; clear k3) | (go_at_call 38; ((with_reducible refine (MX.out _ K3.out).mono ?_)); rintro e w4 ⟨rfl, k4⟩; clear c0 c1 c2 c3 c4 c5 c6 c7 c8 c9 c10 c11 c12 c13 c14 c15 c16 c17 c18 c19 c20 c21 c22 c23 c24 c25 c26 c27; have K4 : Hid (Kept [] w w4) := K3.out.trans k4 (fun i hi => by cases hi); have B4 := Lib.hid (B3.out.kept k4 (by simp)); obtain ⟨c0, c1, c2, c3, c4, c5, c6, c7, c8, c9, c10, c11, c12, c13, c14, c15, c16, c17, c18, c19, c20, c21, c22, c23, c24, c25, c26, c27⟩ := B4.out.cells; clear k4))
  all_goals
    go_ret
    refine ⟨?_, by first | exact K4.out | exact K3.out | exact K1.out⟩
    have hz := HZ.out
    clear HZ WW MM MX B1 HW1 HR K1 c0 c1 c2 c3 c4 c5 c6 c7 c8 c9 c10 c11 c12 c13 c14 c15 c16 c17 c18 c19 c20 c21 c22 c23 c24 c25 c26 c27
    simp_all
set_option maxHeartbeats 16000000 in
set_option maxRecDepth 100000 in
theorem rRemove_any {w : World} {q : Nat} {T : List Acc} (h : Rt w q T) (gd : Gd T) (u : ByteArray) (n p : Nd) (tk fl : Bool) (hp : p.mode < 4294967296) :
    Calls Tryz.prog 21 #[.pointer (some ⟨q, 0, none⟩), .string u, factsV n p tk fl] w fun e w' => e = .returned (.int .i64 (removeE T u n p)) ∧ Kept [] w w' := by
  obtain ⟨z, hz⟩ : ∃ z, z = removeE T u n p := ⟨_, rfl⟩
  rw [← hz]
  unfold removeE dirV at hz
  obtain ⟨dv, hdv⟩ : ∃ x, bits .and .u32 (n.mode : Int) 2147483648 = x := ⟨_, rfl⟩
  obtain ⟨m2, hm2⟩ : ∃ x, x = mayV T u p 2 := ⟨_, rfl⟩
  rw [hdv, ← hm2] at hz
  have HZ := Lib.hid hz
  obtain ⟨w1, hw1⟩ : ∃ w1, w1 = w.alloc (.cells #[.int .u64 n.path, .int .u64 n.parent, .string n.name, .int .u32 n.mode, .string n.uid, .string n.gid, .string n.muid, .int .u32 n.atime, .int .u32 n.mtime, .int .u32 n.vers, .int .u64 n.length, .int .i64 n.opens, .int .i64 n.kids, .int .u64 p.path, .int .u64 p.parent, .string p.name, .int .u32 p.mode, .string p.uid, .string p.gid, .string p.muid, .int .u32 p.atime, .int .u32 p.mtime, .int .u32 p.vers, .int .u64 p.length, .int .i64 p.opens, .int .i64 p.kids, .bool tk, .bool fl] 28) := ⟨_, rfl⟩
  obtain ⟨R, hR⟩ : ∃ R, R = w.heap.size := ⟨_, rfl⟩
  have B1 : Hid (Bf w1 R n p tk fl) := by rw [hw1, hR]; exact (MapKept.heap_alloc w _).1
  have K1 : Hid (Kept [] w w1) := by rw [hw1]; exact (Kept.refl _ _).alloc _
  have HW1 := Lib.hid hw1
  have HR := Lib.hid hR
  have MX : Hid (∀ w', Kept [] w w' → Calls Tryz.prog 38 #[.pointer (some ⟨q, 0, none⟩), .string u, .agg #[.int .u64 p.path, .int .u64 p.parent, .string p.name, .int .u32 p.mode, .string p.uid, .string p.gid, .string p.muid, .int .u32 p.atime, .int .u32 p.mtime, .int .u32 p.vers, .int .u64 p.length, .int .i64 p.opens, .int .i64 p.kids], .int .u8 2] w' fun e w'' => e = .returned (.bool m2) ∧ Kept [] w' w'') := fun w' k => by rw [hm2]; exact rmay_any (h.kept k) gd u p hp 2 (by decide) 2 rfl
  unfold factsV
  clear hw1 hR hz hm2 h gd hp
  go_enter Tryz.func21, Tryz.ntmps21
  go_upto_region 1 with fail
  rw [← HW1.out, ← HR.out]
  obtain ⟨c0, c1, c2, c3, c4, c5, c6, c7, c8, c9, c10, c11, c12, c13, c14, c15, c16, c17, c18, c19, c20, c21, c22, c23, c24, c25, c26, c27⟩ := B1.out.cells
  go_wp2_with (go_at_call 38; ((with_reducible refine (MX.out _ K1.out).mono ?_)); rintro e w3 ⟨rfl, k3⟩; clear c0 c1 c2 c3 c4 c5 c6 c7 c8 c9 c10 c11 c12 c13 c14 c15 c16 c17 c18 c19 c20 c21 c22 c23 c24 c25 c26 c27; have K3 : Hid (Kept [] w w3) := K1.out.trans k3 (fun i hi => by cases hi); have B3 := Lib.hid (B1.out.kept k3 (by simp)); obtain ⟨c0, c1, c2, c3, c4, c5, c6, c7, c8, c9, c10, c11, c12, c13, c14, c15, c16, c17, c18, c19, c20, c21, c22, c23, c24, c25, c26, c27⟩ := B3.out.cells; clear k3)
  all_goals
    go_ret
    refine ⟨?_, by first | exact K3.out | exact K1.out⟩
    have hz := HZ.out
    clear HZ MX B1 HW1 HR K1 c0 c1 c2 c3 c4 c5 c6 c7 c8 c9 c10 c11 c12 c13 c14 c15 c16 c17 c18 c19 c20 c21 c22 c23 c24 c25 c26 c27
    simp_all
end Ru
end Go.Proofs.YtondjodfkgefgaaGreatDoor
end

section
namespace Go.Proofs.YtondjodfkgefgaaGreatDoor
set_option linter.unusedVariables false
open Go.RowKit Go.Shelf
attribute [local go_sem] Oper.semAt_some
namespace Ru
open Go.Proofs.YtondjodfkgefgaaGreatDoor.Utf Go.Proofs.YtondjodfkgefgaaGreatDoor.Txt Go.PlainAid Go.Proofs.YtondjodfkgefgaaGreatDoor.Mpf Go.Proofs.YtondjodfkgefgaaGreatDoor.Us
set_option maxRecDepth 100000 in
theorem rCloses_any {w : World} {q : Nat} {T : List Acc} (h : Rt w q T) (gd : Gd T) (u : ByteArray) (n p : Nd) (tk fl : Bool) (hp : p.mode < 4294967296) :
    Calls Tryz.prog 23 #[.pointer (some ⟨q, 0, none⟩), .string u, factsV n p tk fl] w fun e w' => e = .returned (.bool (removeE T u n p == 0)) ∧ Kept [] w w' := by
  obtain ⟨V, hV⟩ : ∃ V : Array Value, V = #[.int .u64 n.path, .int .u64 n.parent, .string n.name, .int .u32 n.mode, .string n.uid, .string n.gid, .string n.muid, .int .u32 n.atime, .int .u32 n.mtime, .int .u32 n.vers, .int .u64 n.length, .int .i64 n.opens, .int .i64 n.kids, .int .u64 p.path, .int .u64 p.parent, .string p.name, .int .u32 p.mode, .string p.uid, .string p.gid, .string p.muid, .int .u32 p.atime, .int .u32 p.mtime, .int .u32 p.vers, .int .u64 p.length, .int .i64 p.opens, .int .i64 p.kids, .bool tk, .bool fl] := ⟨_, rfl⟩
  have hF : factsV n p tk fl = .agg V := by rw [hV]; rfl
  have hs : V.size = 28 := by rw [hV]; rfl
  have REM : Hid (∀ w', Kept [] w w' → Calls Tryz.prog 21 #[.pointer (some ⟨q, 0, none⟩), .string u, .agg V] w' fun e w'' => e = .returned (.int .i64 (removeE T u n p)) ∧ Kept [] w' w'') := fun w' k => by
    rw [← hF]
    exact rRemove_any (h.kept k) gd u n p tk fl hp
  rw [hF]
  obtain ⟨z, hz⟩ : ∃ z, z = removeE T u n p := ⟨_, rfl⟩
  rw [← hz] at REM ⊢
  have HS := Lib.hid hs
  have KA : Hid (Kept [] w (w.alloc (.cells V 28))) := (Kept.refl _ _).alloc _
  have BA : Hid ((w.alloc (.cells V 28)).heap[w.heap.size]? = some (.cells V 28 (0, 0))) := (MapKept.heap_alloc w _).1
  clear h gd hp hV hF hs hz
  go_enter Tryz.func23, Tryz.ntmps23
  go_wp2_with (first | (refine wpList_lfacts rfl (.tmp 5) rfl w.heap.size V HS.out BA.out rfl ?_) | (go_at_call 21; refine (REM.out _ KA.out).mono ?_; rintro e w2 ⟨rfl, k2⟩))
  go_ret
  exact ⟨rfl, KA.out.trans k2 (fun i hi => by cases hi)⟩
theorem permE_two (pm : Int) : permE pm = 0 ∨ permE pm = 91 := by unfold permE; split <;> simp
theorem wantsE_two (m : Int) : wantsE m = 0 ∨ wantsE m = 91 := by unfold wantsE; split <;> simp
set_option maxHeartbeats 16000000 in
set_option maxRecDepth 100000 in
theorem rasks_any {w : World} {q : Nat} {T : List Acc} (h : Rt w q T) (gd : Gd T) (u : ByteArray) (n p : Nd) (tk fl : Bool) (name : ByteArray) (pm : Int) (mode : Nat) (hmo : mode < 256) (hn : n.mode < 4294967296) (hnm : name.size ≤ 140737488355328) :
    Calls Tryz.prog 44 #[.pointer (some ⟨q, 0, none⟩), .string u, factsV n p tk fl, .string name, .int .u32 pm, .int .u8 mode] w fun e w' => e = .returned (.int .i64 (makeE T u n tk fl name pm mode)) ∧ Kept [] w w' := by
  obtain ⟨z, hz⟩ : ∃ z, z = makeE T u n tk fl name pm mode := ⟨_, rfl⟩
  rw [← hz]
  unfold makeE dirV at hz
  obtain ⟨wv, hwv⟩ : ∃ x, x = wantsV mode := ⟨_, rfl⟩
  obtain ⟨we, hwe⟩ : ∃ x, x = wantsE mode := ⟨_, rfl⟩
  obtain ⟨pe, hpe⟩ : ∃ x, x = permE pm := ⟨_, rfl⟩
  obtain ⟨ck, hck⟩ : ∃ x, x = Nm.chk name := ⟨_, rfl⟩
  obtain ⟨ce, hce⟩ : ∃ x : Int, x = if Nm.chk name = true then 0 else 50 := ⟨_, rfl⟩
  obtain ⟨dv, hdv⟩ : ∃ x, bits .and .u32 (n.mode : Int) 2147483648 = x := ⟨_, rfl⟩
  obtain ⟨pd, hpd⟩ : ∃ x, bits .and .u32 pm 2147483648 = x := ⟨_, rfl⟩
  obtain ⟨m1, hm1⟩ : ∃ x, x = mayV T u n 2 := ⟨_, rfl⟩
  have HE : Hid ((pe = 0 ∨ pe = 91) ∧ (we = 0 ∨ we = 91) ∧ ((ck = true ∧ ce = 0) ∨ (ck = false ∧ ce = 50))) := by
    refine ⟨by rw [hpe]; exact permE_two pm, by rw [hwe]; exact wantsE_two mode, ?_⟩
    rw [hce, hck]
    cases Nm.chk name <;> simp
  have WW : Hid (∀ w, Calls Tryz.prog 40 #[.int .u8 mode] w fun e w' => e = .returned (.tuple #[.int .u8 wv, .int .i64 we]) ∧ w = w') := fun w => by rw [hwv, hwe]; exact rWants_any w mode hmo
  have PP : Hid (∀ w, Calls Tryz.prog 73 #[.int .u32 pm] w fun e w' => e = .returned (.int .i64 pe) ∧ w = w') := fun w => by rw [hpe]; exact rPerm_any w pm
  have CC : Hid (∀ w, Calls Tryz.prog 72 #[.string name] w fun e w' => e = .returned (.int .i64 ce) ∧ Kept [] w w') := fun w => by rw [hce]; exact Nm.rcheck_any w name hnm
  rw [← hwe, ← hpe, ← hck, hdv, hpd, ← hm1] at hz
  have HZ := Lib.hid hz
  obtain ⟨w1, hw1⟩ : ∃ w1, w1 = w.alloc (.cells #[.int .u64 n.path, .int .u64 n.parent, .string n.name, .int .u32 n.mode, .string n.uid, .string n.gid, .string n.muid, .int .u32 n.atime, .int .u32 n.mtime, .int .u32 n.vers, .int .u64 n.length, .int .i64 n.opens, .int .i64 n.kids, .int .u64 p.path, .int .u64 p.parent, .string p.name, .int .u32 p.mode, .string p.uid, .string p.gid, .string p.muid, .int .u32 p.atime, .int .u32 p.mtime, .int .u32 p.vers, .int .u64 p.length, .int .i64 p.opens, .int .i64 p.kids, .bool tk, .bool fl] 28) := ⟨_, rfl⟩
  obtain ⟨R, hR⟩ : ∃ R, R = w.heap.size := ⟨_, rfl⟩
  have B1 : Hid (Bf w1 R n p tk fl) := by rw [hw1, hR]; exact (MapKept.heap_alloc w _).1
  have K1 : Hid (Kept [] w w1) := by rw [hw1]; exact (Kept.refl _ _).alloc _
  have HW1 := Lib.hid hw1
  have HR := Lib.hid hR
  have MM : Hid (∀ w', Kept [] w w' → Calls Tryz.prog 38 #[.pointer (some ⟨q, 0, none⟩), .string u, .agg #[.int .u64 n.path, .int .u64 n.parent, .string n.name, .int .u32 n.mode, .string n.uid, .string n.gid, .string n.muid, .int .u32 n.atime, .int .u32 n.mtime, .int .u32 n.vers, .int .u64 n.length, .int .i64 n.opens, .int .i64 n.kids], .int .u8 2] w' fun e w'' => e = .returned (.bool m1) ∧ Kept [] w' w'') := fun w' k => by rw [hm1]; exact rmay_any (h.kept k) gd u n hn 2 (by decide) 2 rfl
  unfold factsV
  clear hw1 hR hz hm1 hwv hwe hpe hck hce h gd hn hmo hnm
  go_enter Tryz.func44, Tryz.ntmps44
  go_upto_region 1 with fail
  rw [← HW1.out, ← HR.out]
  obtain ⟨c0, c1, c2, c3, c4, c5, c6, c7, c8, c9, c10, c11, c12, c13, c14, c15, c16, c17, c18, c19, c20, c21, c22, c23, c24, c25, c26, c27⟩ := B1.out.cells
  go_wp2_with (first | (go_at_call 40; refine (WW.out _).mono ?_; rintro e w8 ⟨rfl, rfl⟩) | (go_at_call 73; refine (PP.out _).mono ?_; rintro e w8 ⟨rfl, rfl⟩) | (go_at_call 72; refine (CC.out _).mono ?_; rintro e w2 ⟨rfl, k2⟩; clear c0 c1 c2 c3 c4 c5 c6 c7 c8 c9 c10 c11 c12 c13 c14 c15 c16 c17 c18 c19 c20 c21 c22 c23 c24 c25 c26 c27; have K2 : Hid (Kept [] w w2) := K1.out.trans k2 (fun i hi => by cases hi); have B2 := Lib.hid (B1.out.kept k2 (by simp)); obtain ⟨c0, c1, c2, c3, c4, c5, c6, c7, c8, c9, c10, c11, c12, c13, c14, c15, c16, c17, c18, c19, c20, c21, c22, c23, c24, c25, c26, c27⟩ := B2.out.cells; clear k2) | (go_at_call 38; refine (MM.out _ K2.out).mono ?_; rintro e w4 ⟨rfl, k4⟩; clear c0 c1 c2 c3 c4 c5 c6 c7 c8 c9 c10 c11 c12 c13 c14 c15 c16 c17 c18 c19 c20 c21 c22 c23 c24 c25 c26 c27; have K4 : Hid (Kept [] w w4) := K2.out.trans k4 (fun i hi => by cases hi); have B4 := Lib.hid (B2.out.kept k4 (by simp)); obtain ⟨c0, c1, c2, c3, c4, c5, c6, c7, c8, c9, c10, c11, c12, c13, c14, c15, c16, c17, c18, c19, c20, c21, c22, c23, c24, c25, c26, c27⟩ := B4.out.cells; clear k4))
  all_goals
    go_ret
    refine ⟨?_, by first | exact K4.out | exact K2.out | exact K1.out⟩
    have hz := HZ.out
    obtain ⟨he1, he2, he3⟩ := HE.out
    clear HZ HE WW PP CC MM B1 HW1 HR K1 c0 c1 c2 c3 c4 c5 c6 c7 c8 c9 c10 c11 c12 c13 c14 c15 c16 c17 c18 c19 c20 c21 c22 c23 c24 c25 c26 c27
    rcases he3 with ⟨rfl, rfl⟩ | ⟨rfl, rfl⟩ <;> rcases he1 with rfl | rfl <;> rcases he2 with rfl | rfl <;> simp_all
end Ru
end Go.Proofs.YtondjodfkgefgaaGreatDoor
end

namespace Go.Proofs.YtondjodfkgefgaaGreatDoor
set_option linter.unusedVariables false
open Go.RowKit Go.Shelf
attribute [local go_sem] Oper.semAt_some
namespace Ru
open Go.Proofs.YtondjodfkgefgaaGreatDoor.Utf Go.Proofs.YtondjodfkgefgaaGreatDoor.Txt Go.PlainAid Go.Proofs.YtondjodfkgefgaaGreatDoor.Mpf Go.Proofs.YtondjodfkgefgaaGreatDoor.Us

theorem gd_table (text : ByteArray) : Gd (tableT text) := by
  unfold tableT
  split
  · rename_i T e l h
    have : (e = 0 ∧ l = 0) := by
      unfold parse at h
      split at h
      · cases h
      · split at h
        · cases h
        · split at h
          · cases h
          · split at h
            · cases h
            · cases h; exact ⟨rfl, rfl⟩
    obtain ⟨rfl, rfl⟩ := this
    exact parse_gd h
  · exact parse_gd parse_people
theorem ml_k {w w' : World} (hm : Ml w) (k : Kept [] w w') : Ml w' := by
  obtain ⟨m, hc⟩ := hm
  exact ⟨m, by rw [← hc]; exact World.cell?_of_block (k.block _ (World.block_lt_of_cell? w _ hc) (by simp))⟩
set_option maxHeartbeats 8000000 in
set_option maxRecDepth 100000 in
theorem tables_any (w : World) (text : ByteArray) (hm : Ml w) (hs : text.size ≤ 140737488355328) :
    Calls Tryz.prog 11 #[.string text] w fun e w' => ∃ B p q, e = .returned (.tuple #[.pointer (some ⟨p, 0, none⟩), .pointer (some ⟨q, 0, none⟩), .bool true]) ∧ Tb w' B p (tableT text) ∧ Rt w' q (tableT text) ∧ Kept [] w w' := by
  have PAR := Lib.hid (parse_any w text hm hs)
  have RPA := Lib.hid (fun w' => rparse_any w' text hs)
  have PEX : Hid (∀ w', Kept [] w w' → Calls Tryz.prog 30 #[.string ⟨#[103, 108, 101, 110, 100, 97, 58, 58, 58, 10, 115, 121, 115, 58, 103, 108, 101, 110, 100, 97, 58, 98, 111, 98, 58, 10, 98, 111, 98, 58, 58, 58, 10, 101, 118, 101, 58, 58, 58, 10]⟩] w' fun e w'' => ∃ B p, e = .returned (.tuple #[.pointer (some ⟨p, 0, none⟩), .int .i64 0, .int .i64 0]) ∧ Tb w'' B p peopleT ∧ Kept [] w' w'') := fun w' k => parse_example w' (ml_k hm k)
  have REX : Hid (∀ w', Calls Tryz.prog 32 #[.string ⟨#[103, 108, 101, 110, 100, 97, 58, 58, 58, 10, 115, 121, 115, 58, 103, 108, 101, 110, 100, 97, 58, 98, 111, 98, 58, 10, 98, 111, 98, 58, 58, 58, 10, 101, 118, 101, 58, 58, 58, 10]⟩] w' fun e w'' => ∃ q, e = .returned (.tuple #[.pointer (some ⟨q, 0, none⟩), .int .i64 0, .int .i64 0]) ∧ Rt w'' q peopleT ∧ Kept [] w' w'') := fun w' => by
    refine (rparse_any w' people (by decide)).mono ?_
    rintro e w2 (⟨T, p, h1, rfl, h3, h4⟩ | ⟨er, ln, h1, -, -⟩)
    · rw [parse_people] at h1
      cases h1
      exact ⟨p, rfl, h3, h4⟩
    · rw [parse_people] at h1
      cases h1
  clear hm hs
  cases hp : parse text with
  | mk r el =>
  obtain ⟨er, ln⟩ := el
  cases r with
  | some T =>
    have hz : er = 0 ∧ ln = 0 := by
      unfold parse at hp
      split at hp
      · cases hp
      · split at hp
        · cases hp
        · split at hp
          · cases hp
          · split at hp
            · cases hp
            · cases hp; exact ⟨rfl, rfl⟩
    obtain ⟨rfl, rfl⟩ := hz
    have HT : Hid (tableT text = T) := by show _ = _; unfold tableT; rw [hp]
    have PA : Hid (Calls Tryz.prog 30 #[.string text] w fun e w' => ∃ B p, e = .returned (.tuple #[.pointer (some ⟨p, 0, none⟩), .int .i64 0, .int .i64 0]) ∧ Tb w' B p T ∧ Kept [] w w') := by
      refine PAR.out.mono ?_
      rintro e w2 (⟨T', B, p, h1, he, h3, -, -, h4⟩ | ⟨er, ln, h1, -⟩)
      · rw [hp] at h1; cases h1
        exact ⟨B, p, he, h3, h4⟩
      · rw [hp] at h1; cases h1
    have RA : Hid (∀ w', Calls Tryz.prog 32 #[.string text] w' fun e w'' => ∃ q, e = .returned (.tuple #[.pointer (some ⟨q, 0, none⟩), .int .i64 0, .int .i64 0]) ∧ Rt w'' q T ∧ Kept [] w' w'') := fun w' => by
      refine (RPA.out w').mono ?_
      rintro e w2 (⟨T', q, h1, he, h3, h4⟩ | ⟨er, ln, h1, -⟩)
      · rw [hp] at h1; cases h1
        exact ⟨q, he, h3, h4⟩
      · rw [hp] at h1; cases h1
    clear PAR RPA PEX REX hp
    go_enter Tryz.func11, Tryz.ntmps11
    go_wp2_with (first | (go_at_call 30; refine PA.out.mono ?_; rintro e w2 ⟨B, p, rfl, t2, k2⟩) | (go_at_call 32; refine (RA.out w2).mono ?_; rintro e w3 ⟨q, rfl, t3, k3⟩))
    go_ret3
    exact ⟨B, p, q, rfl, by rw [HT.out]; exact t2.kept k3, by rw [HT.out]; exact t3, k2.trans k3 (fun i hi => by cases hi)⟩
  | none =>
    have HT : Hid (tableT text = peopleT) := by show _ = _; unfold tableT; rw [hp]
    have PA : Hid (Calls Tryz.prog 30 #[.string text] w fun e w' => e = .returned (.tuple #[.pointer none, .int .i64 er, .int .i64 ln]) ∧ Kept [] w w') := by
      refine PAR.out.mono ?_
      rintro e w2 (⟨T', B, p, h1, -⟩ | ⟨er', ln', h1, -, he, h4⟩)
      · rw [hp] at h1; cases h1
      · rw [hp] at h1; cases h1
        exact ⟨he, h4⟩
    have RA : Hid (∀ w', Calls Tryz.prog 32 #[.string text] w' fun e w'' => e = .returned (.tuple #[.pointer none, .int .i64 er, .int .i64 ln]) ∧ Kept [] w' w'') := fun w' => by
      refine (RPA.out w').mono ?_
      rintro e w2 (⟨T', q, h1, -⟩ | ⟨er', ln', h1, he, h4⟩)
      · rw [hp] at h1; cases h1
      · rw [hp] at h1; cases h1
        exact ⟨he, h4⟩
    clear PAR RPA hp
    go_enter Tryz.func11, Tryz.ntmps11
    go_wp2_with (first | (go_at_call 30; ((with_reducible refine PA.out.mono ?_)); rintro e w2 ⟨rfl, k2⟩) | (go_at_call 32; ((with_reducible refine (RA.out w2).mono ?_)); rintro e w3 ⟨rfl, k3⟩; have K3 : Hid (Kept [] w w3) := k2.trans k3 (fun i hi => by cases hi)) | (go_at_call 30; refine (PEX.out _ K3.out).mono ?_; rintro e w4 ⟨B, p, rfl, t4, k4⟩) | (go_at_call 32; refine (REX.out w4).mono ?_; rintro e w5 ⟨q, rfl, t5, k5⟩))
    go_ret3
    exact ⟨B, p, q, rfl, by rw [HT.out]; exact t4.kept k5, by rw [HT.out]; exact t5, (K3.out.trans k4 (fun i hi => by cases hi)).trans k5 (fun i hi => by cases hi)⟩
end Ru
end Go.Proofs.YtondjodfkgefgaaGreatDoor
