/- rules: the law's two tables. -/
import Derived.Test.YtahjmpfjidijaaaGreatDoorGai
import Derived.Test.YtahjmpfjidijaaaGreatDoorGal
import Derived.Test.YtahjmpfjidijaaaGreatDoorGan
import Derived.Test.YtahjmpfjidijaaaGreatDoorGao
import Derived.Test.YtahjmpfjidijaaaGreatDoorHRpk

section
namespace Go.Proofs.YtahjmpfjidijaaaGreatDoor
set_option linter.unusedVariables false
open Go.RowKit Go.Shelf
attribute [local go_sem] Oper.semAt_some
namespace Ru
open Go.Proofs.YtahjmpfjidijaaaGreatDoor.Utf Go.Proofs.YtahjmpfjidijaaaGreatDoor.Txt Go.PlainAid Go.Proofs.YtahjmpfjidijaaaGreatDoor.Mpf Go.Proofs.YtahjmpfjidijaaaGreatDoor.Us

theorem and7 (n : Nat) (h : n < 4294967296) : bits .and .u32 (n : Int) 7 = ((n % 8 : Nat) : Int) := by
  rw [and32]
  congr 1
  rw [BitVec.toNat_and]
  have e1 : (B32 (n : Int)).toNat = n := by unfold B32; simp; omega
  have e2 : (B32 7).toNat = 2 ^ 3 - 1 := by decide
  rw [e1, e2, Nat.and_two_pow_sub_one_eq_mod]
theorem or_small : ∀ (a b c : Fin 8), bits .or .u8 0 ((c.val : Int) % 256) = (c.val : Int) ∧ bits .or .u8 (bits .or .u8 0 ((b.val : Int) % 256)) ((c.val : Int) % 256) = bits .or .u32 (c.val : Int) (b.val : Int) % 256 ∧
    bits .or .u8 (bits .or .u8 (bits .or .u8 0 ((a.val : Int) % 256)) ((b.val : Int) % 256)) ((c.val : Int) % 256) = bits .or .u32 (bits .or .u32 (c.val : Int) (a.val : Int)) (b.val : Int) % 256 := by decide +kernel
theorem rOf_ref (m : Nat) (h : m < 4294967296) : rOf false false m = (m : Int) % 8 ∧ rOf false true m = bits .or .u32 ((m : Int) % 8) ((m : Int) / 8 % 8) % 256 ∧ rOf true false m = bits .or .u32 ((m : Int) % 8) ((m : Int) / 64 % 8) % 256 ∧ rOf true true m = bits .or .u32 (bits .or .u32 ((m : Int) % 8) ((m : Int) / 64 % 8)) ((m : Int) / 8 % 8) % 256 := by
  have e0 : bits .and .u32 (m : Int) 7 = ((m % 8 : Nat) : Int) := and7 m h
  have e1 : bits .and .u32 ((m : Int) / 64) 7 = ((m / 64 % 8 : Nat) : Int) := by have := and7 (m / 64) (by omega); rw [← this]; rfl
  have e2 : bits .and .u32 ((m : Int) / 8) 7 = ((m / 8 % 8 : Nat) : Int) := by have := and7 (m / 8) (by omega); rw [← this]; rfl
  have f0 : (m : Int) % 8 = ((m % 8 : Nat) : Int) := by omega
  have f1 : (m : Int) / 64 % 8 = ((m / 64 % 8 : Nat) : Int) := by omega
  have f2 : (m : Int) / 8 % 8 = ((m / 8 % 8 : Nat) : Int) := by omega
  obtain ⟨g1, g2, g3⟩ := or_small ⟨m / 64 % 8, by omega⟩ ⟨m / 8 % 8, by omega⟩ ⟨m % 8, by omega⟩
  obtain ⟨k1, k2, k3⟩ := or_small ⟨m / 64 % 8, by omega⟩ ⟨m / 64 % 8, by omega⟩ ⟨m % 8, by omega⟩
  unfold rOf
  rw [e0, e1, e2, f0, f1, f2]
  simp only [if_true, Bool.false_eq_true, if_false]
  exact ⟨g1, g2, k2, g3⟩
set_option maxHeartbeats 8000000 in
set_option maxRecDepth 100000 in
theorem rRights_any {w : World} {q : Nat} {T : List Acc} (h : Rt w q T) (gd : Gd T) (u : ByteArray) (d : Nd) (hm : d.mode < 4294967296) :
    Calls Tryz.prog 162 #[.pointer (some ⟨q, 0, none⟩), .string u, d.V] w fun e w' => e = .returned (.int .u8 (rightsV T u d)) ∧ Kept [] w w' := by
  obtain ⟨path, parent, name, mode, uid, gid, muid, atime, mtime, vers, length, opens, kids⟩ := d
  simp only at hm
  obtain ⟨z, hz⟩ : ∃ z, z = rightsV T u ⟨path, parent, name, mode, uid, gid, muid, atime, mtime, vers, length, opens, kids⟩ := ⟨_, rfl⟩
  rw [← hz]
  have HZ : Hid (z = rOf (decide (u = uid)) (member T u gid) mode) := hz
  simp only [Nd.V, Nd.L]
  have ME := Lib.hid (fun (w' : World) (k : Kept [] w w') => rMember_any (h.kept k) gd u gid)
  obtain ⟨y, hy⟩ : ∃ y, y = decide (u = uid) := ⟨_, rfl⟩
  obtain ⟨b, hb⟩ : ∃ y, y = member T u gid := ⟨_, rfl⟩
  have BQ := beq_str u uid
  rw [← hy] at HZ BQ
  rw [← hb] at HZ ME
  clear hz hy hb h gd
  cases y <;> cases b
  all_goals
    go_enter Tryz.func162, Tryz.ntmps162
    go_wp2_with (go_at_call 106; refine (ME.out _ ((Kept.refl _ _).alloc _)).mono ?_; rintro e w2 ⟨rfl, rfl⟩)
    go_ret
    refine ⟨congrArg (fun x => Ending.returned (.int .u8 x)) ?_, (Kept.refl _ _).alloc _⟩
    rw [HZ.out]
    first | exact (rOf_ref mode hm).1.symm | exact (rOf_ref mode hm).2.1.symm | exact (rOf_ref mode hm).2.2.1.symm | exact (rOf_ref mode hm).2.2.2.symm
end Ru
end Go.Proofs.YtahjmpfjidijaaaGreatDoor
end

section
namespace Go.Proofs.YtahjmpfjidijaaaGreatDoor
set_option linter.unusedVariables false
open Go.RowKit Go.Shelf
attribute [local go_sem] Oper.semAt_some
namespace Nm
open Go.Proofs.YtahjmpfjidijaaaGreatDoor.Utf Go.Proofs.YtahjmpfjidijaaaGreatDoor.Txt Go.PlainAid

theorem get_dl (p : ByteArray) (k : Nat) (h : k < p.size) : (dl p)[k]'(by rw [dl_length]; exact h) = p[k] := rfl
set_option maxHeartbeats 8000000 in
set_option maxRecDepth 100000 in
theorem rcheck_any (w : World) (p : ByteArray) (hs : p.size ≤ 140737488355328) :
    Calls Tryz.prog 125 #[.string p] w fun e w' => e = .returned (.int .i64 (if chk p = true then 0 else 50)) ∧ Kept [] w w' := by
  obtain ⟨z, hz⟩ : ∃ z : Int, z = if chk p = true then 0 else 50 := ⟨_, rfl⟩
  have HZ := Lib.hid hz
  rw [← hz]
  have NO : Hid (¬ (chk p = true) → (50 : Int) = z) := fun h => by rw [HZ.out, if_neg h]
  have YES : Hid (chk p = true → (0 : Int) = z) := fun h => by rw [HZ.out, if_pos h]
  have HL := Lib.hid (dl_length p)
  have HT := Lib.hid (toList_dl p)
  have GOOD := Lib.hid (rgood_any p w hs)
  obtain ⟨g, hg⟩ : ∃ g, g = good p := ⟨_, rfl⟩
  rw [← hg] at GOOD
  have HG := Lib.hid hg
  clear hz hg
  by_cases h1 : p.toList = []
  · have hv : (50 : Int) = z := NO.out (fun h => by unfold chk at h; have := of_decide_eq_true h; exact this.1 (by rw [← HT.out]; exact h1))
    have HV := Lib.hid hv
    clear hv
    go_enter Tryz.func125, Tryz.ntmps125
    go_wp2_with fail
    refine GOOD.out.mono ?_
    rintro e w2 ⟨rfl, rfl⟩
    go_wp2_with fail
    go_ret
    exact ⟨ret_int HV.out, Kept.refl _ _⟩
  by_cases h2 : p.toList = [46]
  · have hv : (50 : Int) = z := NO.out (fun h => by unfold chk at h; have := of_decide_eq_true h; exact this.2.1 (by rw [← HT.out]; exact h2))
    have HV := Lib.hid hv
    clear hv
    go_enter Tryz.func125, Tryz.ntmps125
    go_wp2_with fail
    refine GOOD.out.mono ?_
    rintro e w2 ⟨rfl, rfl⟩
    go_wp2_with fail
    go_ret
    exact ⟨ret_int HV.out, Kept.refl _ _⟩
  by_cases h3 : p.toList = [46, 46]
  · have hv : (50 : Int) = z := NO.out (fun h => by unfold chk at h; have := of_decide_eq_true h; exact this.2.2.1 (by rw [← HT.out]; exact h3))
    have HV := Lib.hid hv
    clear hv
    go_enter Tryz.func125, Tryz.ntmps125
    go_wp2_with fail
    refine GOOD.out.mono ?_
    rintro e w2 ⟨rfl, rfl⟩
    go_wp2_with fail
    go_ret
    exact ⟨ret_int HV.out, Kept.refl _ _⟩
  have H1 := Lib.hid h1
  have H2 := Lib.hid h2
  have H3 := Lib.hid h3
  have b1 : p.toList.isEmpty = false := by rw [List.isEmpty_eq_false_iff]; exact h1
  have b2 : (p.toList == [46]) = false := by rw [beq_eq_false_iff_ne]; exact h2
  have b3 : (p.toList == [46, 46]) = false := by rw [beq_eq_false_iff_ne]; exact h3
  have b0 : (p.toList == []) = false := by rw [beq_eq_false_iff_ne]; exact h1
  clear h1 h2 h3
  cases g with
  | false =>
    have hv : (50 : Int) = z := NO.out (fun h => by unfold chk at h; have := of_decide_eq_true h; rw [← HG.out] at this; exact absurd this.2.2.2.2.2 (by decide))
    have HV := Lib.hid hv
    clear hv
    go_enter Tryz.func125, Tryz.ntmps125
    go_wp2_with fail
    refine GOOD.out.mono ?_
    rintro e w2 ⟨rfl, rfl⟩
    go_wp2_with fail
    go_ret
    exact ⟨ret_int HV.out, Kept.refl _ _⟩
  | true =>
    by_cases h4 : p.size ≤ 255
    · have h4' : ¬ (255 : Int) < (p.size : Int) := by omega
      go_enter Tryz.func125, Tryz.ntmps125
      go_wp2_with fail
      refine GOOD.out.mono ?_
      rintro e w2 ⟨rfl, rfl⟩
      go_wp2_with fail
      go_loopw [4] (fun iv wr => ∃ k : Nat, iv = .int .i64 k ∧ k ≤ p.size ∧ wr = w ∧ Hid (∀ j (h : j < p.size), j < k → p[j] ≠ 47)) (fun iv _ => p.size - (intOf iv).toNat)
      case atStart => exact ⟨0, rfl, by omega, rfl, fun j _ h => by omega⟩
      case round =>
        obtain ⟨k, rfl, hk, rfl, hN⟩ := hrel
        by_cases hlt : k < p.size
        · by_cases hc : p[k] = 47
          · have hv : (50 : Int) = z := NO.out (fun h => by
              unfold chk at h
              have := of_decide_eq_true h
              exact this.2.2.2.2.1 (by rw [← hc, ← get_dl p k hlt]; exact List.getElem_mem _))
            have HV := Lib.hid hv
            have e1 : ((p[k].toNat : Int) == 47) = true := by rw [hc]; rfl
            clear hv hc
            go_wp2_with fail
            go_ret
            exact ⟨ret_int HV.out, Kept.refl _ _⟩
          · have e1 : ((p[k].toNat : Int) == 47) = false := by
              rw [beq_eq_false_iff_ne]
              intro e
              exact hc (UInt8.toNat_inj.1 (by show _ = 47; omega))
            have HN2 : Hid (∀ j (h : j < p.size), j < k + 1 → p[j] ≠ 47) := fun j h hj => by
              by_cases hjk : j = k
              · subst hjk; exact hc
              · exact hN.out j h (by omega)
            clear hc
            go_wp2_with fail
            go_roundw
            case rel => exact ⟨k + 1, by go_num, by omega, trivial, HN2.out⟩
            case measure => simp [intOf]; omega
        · have hv : (0 : Int) = z := by
            refine YES.out ?_
            unfold chk
            refine decide_eq_true ⟨by rw [← HT.out]; exact H1.out, by rw [← HT.out]; exact H2.out, by rw [← HT.out]; exact H3.out, by rw [HL.out]; exact h4, fun hm => ?_, HG.out.symm⟩
            obtain ⟨j, hj, e⟩ := List.mem_iff_getElem.1 hm
            have hj' : j < p.size := by rw [← HL.out]; exact hj
            exact hN.out j hj' (by omega) (by rw [← get_dl p j hj']; exact e)
          have HV := Lib.hid hv
          clear hv
          go_wp2_with fail
          go_ret
          exact ⟨ret_int HV.out, Kept.refl _ _⟩
    · have hv : (50 : Int) = z := NO.out (fun h => by unfold chk at h; have := of_decide_eq_true h; have h2 := this.2.2.2.1; rw [HL.out] at h2; exact h4 h2)
      have HV := Lib.hid hv
      have h4' : (255 : Int) < (p.size : Int) := by omega
      clear hv
      go_enter Tryz.func125, Tryz.ntmps125
      go_wp2_with fail
      refine GOOD.out.mono ?_
      rintro e w2 ⟨rfl, rfl⟩
      go_wp2_with fail
      go_ret
      exact ⟨ret_int HV.out, Kept.refl _ _⟩
end Nm
end Go.Proofs.YtahjmpfjidijaaaGreatDoor
end

section
namespace Go.Proofs.YtahjmpfjidijaaaGreatDoor
set_option linter.unusedVariables false
open Go.RowKit Go.Shelf
attribute [local go_sem] Oper.semAt_some
namespace Ru
open Go.Proofs.YtahjmpfjidijaaaGreatDoor.Utf Go.Proofs.YtahjmpfjidijaaaGreatDoor.Txt Go.PlainAid Go.Proofs.YtahjmpfjidijaaaGreatDoor.Mpf Go.Proofs.YtahjmpfjidijaaaGreatDoor.Us

theorem two_ways : ∀ a b : Fin 8, (bits .and .u8 (a.val : Int) (b.val : Int) == (b.val : Int)) = (bits .andNot .u8 (b.val : Int) (a.val : Int) == 0) := by decide +kernel
theorem may_two_ways (T : List Acc) (u : ByteArray) (d : Nd) (x : Nat) (hx : x ≤ 7) : (bits .and .u8 (rightsV T u d) (x : Int) == (x : Int)) = mayV T u d (x : Int) := by
  have h := ownN_le T u d
  have := two_ways ⟨ownN T u d, by omega⟩ ⟨x, by omega⟩
  unfold mayV
  rw [rightsV_nat]
  exact this
set_option maxHeartbeats 8000000 in
set_option maxRecDepth 100000 in
theorem rmay_any {w : World} {q : Nat} {T : List Acc} (h : Rt w q T) (gd : Gd T) (u : ByteArray) (d : Nd) (hm : d.mode < 4294967296) (x : Nat) (hx : x ≤ 7) (xi : Int) (hxi : xi = (x : Int)) :
    Calls Tryz.prog 124 #[.pointer (some ⟨q, 0, none⟩), .string u, .agg #[.int .u64 d.path, .int .u64 d.parent, .string d.name, .int .u32 d.mode, .string d.uid, .string d.gid, .string d.muid, .int .u32 d.atime, .int .u32 d.mtime, .int .u32 d.vers, .int .u64 d.length, .int .i64 d.opens, .int .i64 d.kids], .int .u8 xi] w fun e w' => e = .returned (.bool (mayV T u d xi)) ∧ Kept [] w w' := by
  have HV : Hid ((bits .and .u8 (rightsV T u d) xi == xi) = mayV T u d xi) := by rw [hxi]; exact may_two_ways T u d x hx
  obtain ⟨w1, hw1⟩ : ∃ w1, w1 = w.alloc (.cells #[.int .u64 d.path, .int .u64 d.parent, .string d.name, .int .u32 d.mode, .string d.uid, .string d.gid, .string d.muid, .int .u32 d.atime, .int .u32 d.mtime, .int .u32 d.vers, .int .u64 d.length, .int .i64 d.opens, .int .i64 d.kids] 51) := ⟨_, rfl⟩
  obtain ⟨R, hR⟩ : ∃ R, R = w.heap.size := ⟨_, rfl⟩
  have B1 : Hid (w1.heap[R]? = some (.cells #[.int .u64 d.path, .int .u64 d.parent, .string d.name, .int .u32 d.mode, .string d.uid, .string d.gid, .string d.muid, .int .u32 d.atime, .int .u32 d.mtime, .int .u32 d.vers, .int .u64 d.length, .int .i64 d.opens, .int .i64 d.kids] 51 (0, 0))) := by rw [hw1, hR]; exact (MapKept.heap_alloc w _).1
  have K1 : Hid (Kept [] w w1) := by rw [hw1]; exact (Kept.refl _ _).alloc _
  have HW1 := Lib.hid hw1
  have HR := Lib.hid hR
  have RI := Lib.hid (rRights_any (h.kept K1.out) gd u d hm)
  simp only [Nd.V, Nd.L] at RI
  obtain ⟨r, hr⟩ : ∃ r, r = rightsV T u d := ⟨_, rfl⟩
  obtain ⟨z, hz⟩ : ∃ z, z = mayV T u d xi := ⟨_, rfl⟩
  rw [← hr] at RI HV
  rw [← hz] at HV ⊢
  clear hw1 hR hr hz hxi hx h gd hm
  go_enter Tryz.func124, Tryz.ntmps124
  go_upto_region 1 with fail
  rw [← HW1.out, ← HR.out]
  obtain ⟨c0, c1, c2, c3, c4, c5, c6, c7, c8, c9, c10, c11, c12⟩ := nd_cells (d := d) B1.out
  go_wp2_with (go_at_call 162; refine RI.out.mono ?_; rintro e w2 ⟨rfl, k2⟩)
  go_ret
  exact ⟨congrArg (fun b => Ending.returned (.bool b)) HV.out, K1.out.trans k2 (fun i hi => by cases hi)⟩
theorem wants_small (mode : Nat) (h : mode < 256) : ∃ x : Nat, x ≤ 7 ∧ wantsV mode = (x : Int) := by
  have : ∀ m : Fin 256, ∃ x : Fin 8, wantsV ((m.val : Nat) : Int) = ((x.val : Nat) : Int) := by decide +kernel
  obtain ⟨x, hx⟩ := this ⟨mode, h⟩
  exact ⟨x.val, by omega, hx⟩
end Ru
end Go.Proofs.YtahjmpfjidijaaaGreatDoor
end

section
namespace Go.Proofs.YtahjmpfjidijaaaGreatDoor
set_option linter.unusedVariables false
open Go.RowKit Go.Shelf
attribute [local go_sem] Oper.semAt_some
namespace Ru
open Go.Proofs.YtahjmpfjidijaaaGreatDoor.Utf Go.Proofs.YtahjmpfjidijaaaGreatDoor.Txt Go.PlainAid Go.Proofs.YtahjmpfjidijaaaGreatDoor.Mpf Go.Proofs.YtahjmpfjidijaaaGreatDoor.Us
theorem permE_two (pm : Int) : permE pm = 0 ∨ permE pm = 91 := by unfold permE; split <;> simp
theorem wantsE_two (m : Int) : wantsE m = 0 ∨ wantsE m = 91 := by unfold wantsE; split <;> simp
end Ru
end Go.Proofs.YtahjmpfjidijaaaGreatDoor
end

namespace Go.Proofs.YtahjmpfjidijaaaGreatDoor
set_option linter.unusedVariables false
open Go.RowKit Go.Shelf
attribute [local go_sem] Oper.semAt_some
namespace Ru
open Go.Proofs.YtahjmpfjidijaaaGreatDoor.Utf Go.Proofs.YtahjmpfjidijaaaGreatDoor.Txt Go.PlainAid Go.Proofs.YtahjmpfjidijaaaGreatDoor.Mpf Go.Proofs.YtahjmpfjidijaaaGreatDoor.Us

theorem gd_table (text : ByteArray) : Gd (tableT text) := by
  unfold tableT
  split
  · rename_i T e l h
    have : (e = 0 ∧ l = 0) := by
      unfold parse at h
      split at h
      · cases h
      · split at h
        · cases h
        · split at h
          · cases h
          · split at h
            · cases h
            · cases h; exact ⟨rfl, rfl⟩
    obtain ⟨rfl, rfl⟩ := this
    exact parse_gd h
  · exact parse_gd parse_people
theorem ml_k {w w' : World} (hm : Ml w) (k : Kept [] w w') : Ml w' := by
  obtain ⟨m, hc⟩ := hm
  exact ⟨m, by rw [← hc]; exact World.cell?_of_block (k.block _ (World.block_lt_of_cell? w _ hc) (by simp))⟩
set_option maxHeartbeats 8000000 in
set_option maxRecDepth 100000 in
theorem tables_any (w : World) (text : ByteArray) (hm : Ml w) (hs : text.size ≤ 140737488355328) :
    Calls Tryz.prog 22 #[.string text] w fun e w' => ∃ B p q, e = .returned (.tuple #[.pointer (some ⟨p, 0, none⟩), .pointer (some ⟨q, 0, none⟩), .bool true]) ∧ Tb w' B p (tableT text) ∧ Rt w' q (tableT text) ∧ Kept [] w w' := by
  have PAR := Lib.hid (parse_any w text hm hs)
  have RPA := Lib.hid (fun w' => rparse_any w' text hs)
  have PEX : Hid (∀ w', Kept [] w w' → Calls Tryz.prog 16 #[.string ⟨#[103, 108, 101, 110, 100, 97, 58, 58, 58, 10, 115, 121, 115, 58, 103, 108, 101, 110, 100, 97, 58, 98, 111, 98, 58, 10, 98, 111, 98, 58, 58, 58, 10, 101, 118, 101, 58, 58, 58, 10]⟩] w' fun e w'' => ∃ B p, e = .returned (.tuple #[.pointer (some ⟨p, 0, none⟩), .int .i64 0, .int .i64 0]) ∧ Tb w'' B p peopleT ∧ Kept [] w' w'') := fun w' k => parse_example w' (ml_k hm k)
  have REX : Hid (∀ w', Calls Tryz.prog 17 #[.string ⟨#[103, 108, 101, 110, 100, 97, 58, 58, 58, 10, 115, 121, 115, 58, 103, 108, 101, 110, 100, 97, 58, 98, 111, 98, 58, 10, 98, 111, 98, 58, 58, 58, 10, 101, 118, 101, 58, 58, 58, 10]⟩] w' fun e w'' => ∃ q, e = .returned (.tuple #[.pointer (some ⟨q, 0, none⟩), .int .i64 0, .int .i64 0]) ∧ Rt w'' q peopleT ∧ Kept [] w' w'') := fun w' => by
    refine (rparse_any w' people (by decide)).mono ?_
    rintro e w2 (⟨T, p, h1, rfl, h3, h4⟩ | ⟨er, ln, h1, -, -⟩)
    · rw [parse_people] at h1
      cases h1
      exact ⟨p, rfl, h3, h4⟩
    · rw [parse_people] at h1
      cases h1
  clear hm hs
  cases hp : parse text with
  | mk r el =>
  obtain ⟨er, ln⟩ := el
  cases r with
  | some T =>
    have hz : er = 0 ∧ ln = 0 := by
      unfold parse at hp
      split at hp
      · cases hp
      · split at hp
        · cases hp
        · split at hp
          · cases hp
          · split at hp
            · cases hp
            · cases hp; exact ⟨rfl, rfl⟩
    obtain ⟨rfl, rfl⟩ := hz
    have HT : Hid (tableT text = T) := by show _ = _; unfold tableT; rw [hp]
    have PA : Hid (Calls Tryz.prog 16 #[.string text] w fun e w' => ∃ B p, e = .returned (.tuple #[.pointer (some ⟨p, 0, none⟩), .int .i64 0, .int .i64 0]) ∧ Tb w' B p T ∧ Kept [] w w') := by
      refine PAR.out.mono ?_
      rintro e w2 (⟨T', B, p, h1, he, h3, -, -, h4⟩ | ⟨er, ln, h1, -⟩)
      · rw [hp] at h1; cases h1
        exact ⟨B, p, he, h3, h4⟩
      · rw [hp] at h1; cases h1
    have RA : Hid (∀ w', Calls Tryz.prog 17 #[.string text] w' fun e w'' => ∃ q, e = .returned (.tuple #[.pointer (some ⟨q, 0, none⟩), .int .i64 0, .int .i64 0]) ∧ Rt w'' q T ∧ Kept [] w' w'') := fun w' => by
      refine (RPA.out w').mono ?_
      rintro e w2 (⟨T', q, h1, he, h3, h4⟩ | ⟨er, ln, h1, -⟩)
      · rw [hp] at h1; cases h1
        exact ⟨q, he, h3, h4⟩
      · rw [hp] at h1; cases h1
    clear PAR RPA PEX REX hp
    go_enter Tryz.func22, Tryz.ntmps22
    go_wp2_with (first | (go_at_call 16; refine PA.out.mono ?_; rintro e w2 ⟨B, p, rfl, t2, k2⟩) | (go_at_call 17; refine (RA.out w2).mono ?_; rintro e w3 ⟨q, rfl, t3, k3⟩))
    go_ret3
    exact ⟨B, p, q, rfl, by rw [HT.out]; exact t2.kept k3, by rw [HT.out]; exact t3, k2.trans k3 (fun i hi => by cases hi)⟩
  | none =>
    have HT : Hid (tableT text = peopleT) := by show _ = _; unfold tableT; rw [hp]
    have PA : Hid (Calls Tryz.prog 16 #[.string text] w fun e w' => e = .returned (.tuple #[.pointer none, .int .i64 er, .int .i64 ln]) ∧ Kept [] w w') := by
      refine PAR.out.mono ?_
      rintro e w2 (⟨T', B, p, h1, -⟩ | ⟨er', ln', h1, -, he, h4⟩)
      · rw [hp] at h1; cases h1
      · rw [hp] at h1; cases h1
        exact ⟨he, h4⟩
    have RA : Hid (∀ w', Calls Tryz.prog 17 #[.string text] w' fun e w'' => e = .returned (.tuple #[.pointer none, .int .i64 er, .int .i64 ln]) ∧ Kept [] w' w'') := fun w' => by
      refine (RPA.out w').mono ?_
      rintro e w2 (⟨T', q, h1, -⟩ | ⟨er', ln', h1, he, h4⟩)
      · rw [hp] at h1; cases h1
      · rw [hp] at h1; cases h1
        exact ⟨he, h4⟩
    clear PAR RPA hp
    go_enter Tryz.func22, Tryz.ntmps22
    go_wp2_with (first | (go_at_call 16; ((with_reducible refine PA.out.mono ?_)); rintro e w2 ⟨rfl, k2⟩) | (go_at_call 17; ((with_reducible refine (RA.out w2).mono ?_)); rintro e w3 ⟨rfl, k3⟩; have K3 : Hid (Kept [] w w3) := k2.trans k3 (fun i hi => by cases hi)) | (go_at_call 16; refine (PEX.out _ K3.out).mono ?_; rintro e w4 ⟨B, p, rfl, t4, k4⟩) | (go_at_call 17; refine (REX.out w4).mono ?_; rintro e w5 ⟨q, rfl, t5, k5⟩))
    go_ret3
    exact ⟨B, p, q, rfl, by rw [HT.out]; exact t4.kept k5, by rw [HT.out]; exact t5, (K3.out.trans k4 (fun i hi => by cases hi)).trans k5 (fun i hi => by cases hi)⟩
end Ru
end Go.Proofs.YtahjmpfjidijaaaGreatDoor
