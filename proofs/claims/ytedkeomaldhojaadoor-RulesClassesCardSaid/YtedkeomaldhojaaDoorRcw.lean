/- RulesClasses walked. -/
import Derived.Test.YtedkeomaldhojaaDoorRcl
import Derived.Test.YtedkeomaldhojaaDoorRmo
namespace Go.Proofs.YtedkeomaldhojaaDoor
set_option linter.unusedVariables false
open Go.RowKit Go.Shelf
attribute [local go_sem] Oper.semAt_some
namespace Ru
open Go.Proofs.YtedkeomaldhojaaDoor.Utf Go.Proofs.YtedkeomaldhojaaDoor.Txt Go.PlainAid Go.Proofs.YtedkeomaldhojaaDoor.Mpf Go.Proofs.YtedkeomaldhojaaDoor.Us

def Bz8 (w : World) (R : Nat) (d : Nd) : Prop := w.heap[R]? = some (.cells #[.int .u64 d.path, .int .u64 d.parent, .string d.name, .int .u32 d.mode, .string d.uid, .string d.gid, .string d.muid, .int .u32 d.atime, .int .u32 d.mtime, .int .u32 d.vers, .int .u64 d.length, .int .i64 d.opens, .int .i64 d.kids] 34 (0, 0))
theorem Bz8.kept {w w' : World} {R : Nat} {d : Nd} (h : Bz8 w R d) (k : Kept [] w w') : Bz8 w' R d := (k.block R (block_lt h) (by simp)).trans h
theorem Bz8.three {w : World} {R : Nat} {d : Nd} (h : Bz8 w R d) : w.cell? ⟨R, 3, none⟩ = some (Value.int .u32 d.mode) := by rw [cell_of_row w R _ _ _ (0, 0) h]; rfl
set_option maxHeartbeats 8000000 in
set_option maxRecDepth 100000 in
theorem classesL_any {w : World} {B q : Nat} {T : List Acc} (h : Tb w B q T) (u : ByteArray) (d : Nd) (hu : u.size ≤ maxLen) (hg : d.gid.size ≤ maxLen) (hm : d.mode < 4294967296) :
    Calls Tryd.prog 18 #[.pointer (some ⟨q, 0, none⟩), .string u, .agg #[.int .u64 d.path, .int .u64 d.parent, .string d.name, .int .u32 d.mode, .string d.uid, .string d.gid, .string d.muid, .int .u32 d.atime, .int .u32 d.mtime, .int .u32 d.vers, .int .u64 d.length, .int .i64 d.opens, .int .i64 d.kids]] w fun e w' => e = .returned (.int .u32 (ownN T u d)) ∧ Kept [] w w' := by
  have MEM := Lib.hid (fun w' k => member_t (w := w') (h.kept k) u d.gid hu hg)
  obtain ⟨z, hz⟩ : ∃ z, z = ownN T u d := ⟨_, rfl⟩
  rw [← hz]
  unfold ownN rN at hz
  have HY : Hid ((u = d.uid) ↔ (d.uid = u)) := ⟨fun h => h.symm, fun h => h.symm⟩
  obtain ⟨gb, hgb⟩ : ∃ x, x = member T u d.gid := ⟨_, rfl⟩
  rw [← hgb] at MEM hz
  have KA : Hid (Kept [] w (w.alloc (.cells #[.int .u64 d.path, .int .u64 d.parent, .string d.name, .int .u32 d.mode, .string d.uid, .string d.gid, .string d.muid, .int .u32 d.atime, .int .u32 d.mtime, .int .u32 d.vers, .int .u64 d.length, .int .i64 d.opens, .int .i64 d.kids] 34))) := (Kept.refl _ _).alloc _
  have BA : Hid (Bz8 (w.alloc (.cells #[.int .u64 d.path, .int .u64 d.parent, .string d.name, .int .u32 d.mode, .string d.uid, .string d.gid, .string d.muid, .int .u32 d.atime, .int .u32 d.mtime, .int .u32 d.vers, .int .u64 d.length, .int .i64 d.opens, .int .i64 d.kids] 34)) w.heap.size d) := (MapKept.heap_alloc w _).1
  have m0 : (0 : Int) ≤ (d.mode : Int) := by omega
  have m1 : (d.mode : Int) ≤ 4294967295 := by omega
  have l0 : d.mode % 8 < 4294967296 := by omega
  have l6 : d.mode / 64 % 8 < 4294967296 := by omega
  have l3 : d.mode / 8 % 8 < 4294967296 := by omega
  have p0 : ((d.mode : Int) % 8) = ((d.mode % 8 : Nat) : Int) := by omega
  have p6 : ((d.mode : Int) / 64 % 8) = ((d.mode / 64 % 8 : Nat) : Int) := by omega
  have p3 : ((d.mode : Int) / 8 % 8) = ((d.mode / 8 % 8 : Nat) : Int) := by omega
  have o1 := or_nat (d.mode % 8) (d.mode / 64 % 8) l0 l6
  have l1 : (d.mode % 8 ||| d.mode / 64 % 8) < 4294967296 := Nat.lt_of_lt_of_le (Nat.or_lt_two_pow (n := 3) (by omega) (by omega)) (by decide)
  have o2 := or_nat (d.mode % 8 ||| d.mode / 64 % 8) (d.mode / 8 % 8) l1 l3
  have o3 := or_nat (d.mode % 8) (d.mode / 8 % 8) l0 l3
  have HO : Hid (bits .or .u32 ((d.mode : Int) % 8) ((d.mode : Int) / 64 % 8) = ((d.mode % 8 ||| d.mode / 64 % 8 : Nat) : Int) ∧ bits .or .u32 ((d.mode % 8 ||| d.mode / 64 % 8 : Nat) : Int) ((d.mode : Int) / 8 % 8) = ((d.mode % 8 ||| d.mode / 64 % 8 ||| d.mode / 8 % 8 : Nat) : Int) ∧ bits .or .u32 ((d.mode : Int) % 8) ((d.mode : Int) / 8 % 8) = ((d.mode % 8 ||| d.mode / 8 % 8 : Nat) : Int)) := by rw [p0, p6, p3]; exact ⟨o1, o2, o3⟩
  have HP0 := Lib.hid p0
  clear h hu hg hm hgb l0 l6 l3 l1 o1 o2 o3 p0 p6 p3
  by_cases hy : u = d.uid
  · have hq : (d.uid.toList == u.toList) = true := by rw [hy]; simp
    have hz' : z = (d.mode % 8 ||| d.mode / 64 % 8) ||| (if gb = true then d.mode / 8 % 8 else 0) := by rw [hz, decide_eq_true hy]; rfl
    have HZ := Lib.hid hz'
    clear hz hz' hy HY
    cases gb with
    | true =>
      go_enter Tryd.func18, Tryd.ntmps18
      go_wp2_with (go_at_call 29; refine (MEM.out _ KA.out).mono ?_; rintro e w2 ⟨rfl, k2⟩; have c3 := (Bz8.kept BA.out k2).three)
      go_ret
      exact ⟨by rw [HZ.out, HO.out.1, HO.out.2.1]; rfl, KA.out.trans k2 (fun i hi => by cases hi)⟩
    | false =>
      go_enter Tryd.func18, Tryd.ntmps18
      go_wp2_with (go_at_call 29; refine (MEM.out _ KA.out).mono ?_; rintro e w2 ⟨rfl, k2⟩; have c3 := (Bz8.kept BA.out k2).three)
      go_ret
      exact ⟨by rw [HZ.out, HO.out.1]; simp, KA.out.trans k2 (fun i hi => by cases hi)⟩
  · have hq : (d.uid.toList == u.toList) = false := by
      rw [Bool.eq_false_iff]
      intro hc
      exact hy ((Lib.bytes_beq_iff _ _).1 hc).symm
    have hz' : z = (d.mode % 8 ||| 0) ||| (if gb = true then d.mode / 8 % 8 else 0) := by rw [hz, decide_eq_false hy]; rfl
    have HZ := Lib.hid hz'
    clear hz hz' hy HY
    cases gb with
    | true =>
      go_enter Tryd.func18, Tryd.ntmps18
      go_wp2_with (go_at_call 29; refine (MEM.out _ KA.out).mono ?_; rintro e w2 ⟨rfl, k2⟩; have c3 := (Bz8.kept BA.out k2).three)
      go_ret
      exact ⟨by rw [HZ.out, HO.out.2.2]; simp, KA.out.trans k2 (fun i hi => by cases hi)⟩
    | false =>
      go_enter Tryd.func18, Tryd.ntmps18
      go_wp2_with (go_at_call 29; refine (MEM.out _ KA.out).mono ?_; rintro e w2 ⟨rfl, k2⟩; have c3 := (Bz8.kept BA.out k2).three)
      go_ret
      exact ⟨by rw [HZ.out, HP0.out]; simp, KA.out.trans k2 (fun i hi => by cases hi)⟩
end Ru
end Go.Proofs.YtedkeomaldhojaaDoor
