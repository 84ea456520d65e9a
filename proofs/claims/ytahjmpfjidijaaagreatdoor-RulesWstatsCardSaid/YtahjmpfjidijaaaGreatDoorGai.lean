/- What names' Check does. rules: who asks, and what they may (asks, classes, rights, may, mayWrite). rules: may, mayWrite, isDir, isRoot, Wants, Perm, Step, Remove. -/
import Derived.Lib.Strings
import Derived.Lib.IndexLaws
import Derived.Deep.RegionWith
import Derived.Test.YtahjmpfjidijaaaGreatDoorGae
import Derived.Test.YtahjmpfjidijaaaGreatDoorHShf
import Derived.Test.YtahjmpfjidijaaaGreatDoorHUtx
section
namespace Go.Proofs.YtahjmpfjidijaaaGreatDoor
set_option linter.unusedVariables false
open Go.RowKit

namespace Nm
open Go.Proofs.YtahjmpfjidijaaaGreatDoor.Utf Go.Proofs.YtahjmpfjidijaaaGreatDoor.Txt Go.PlainAid
def dl (s : ByteArray) : List UInt8 := s.data.toList
theorem dl_length (t : ByteArray) : (dl t).length = t.size := by unfold dl; simp
theorem ret_int {k : IntKind} {a b : Int} (h : a = b) : Ending.returned (.int k a) = .returned (.int k b) := by rw [h]
/-- May a file be called so? -/
def chk (p : ByteArray) : Bool := decide (dl p ≠ [] ∧ dl p ≠ [46] ∧ dl p ≠ [46, 46] ∧ (dl p).length ≤ 255 ∧ (47 : UInt8) ∉ dl p ∧ good p = true)
theorem toList_dl (p : ByteArray) : p.toList = dl p := ByteArray.toList_eq p
theorem check_any (w : World) (p : ByteArray) (hs : p.size ≤ 140737488355328) :
    Calls Tryz.prog 126 #[.string p] w fun e w' => e = .returned (.int .i64 (if chk p = true then 0 else 50)) ∧ Kept [] w w' := by
  obtain ⟨z, hz⟩ : ∃ z : Int, z = if chk p = true then 0 else 50 := ⟨_, rfl⟩
  have HZ := Lib.hid hz
  rw [← hz]
  have NO : Hid (¬ (chk p = true) → (50 : Int) = z) := fun h => by rw [HZ.out, if_neg h]
  have YES : Hid (chk p = true → (0 : Int) = z) := fun h => by rw [HZ.out, if_pos h]
  have hl := dl_length p
  have T := toList_dl p
  have HT := Lib.hid T
  have HL := Lib.hid hl
  have CON := Lib.hid (Tryz.strings_Contains_one p 47 w)
  have GOOD := Lib.hid (fun w => good_any p w hs)
  clear hz T hl
  by_cases h1 : p.toList = []
  · have hv : (50 : Int) = z := NO.out (fun h => by unfold chk at h; have := of_decide_eq_true h; exact this.1 (by rw [← HT.out]; exact h1))
    have HV := Lib.hid hv
    clear hv
    go_enter Tryz.func126, Tryz.ntmps126
    go_wp2_with fail
    go_ret
    exact ⟨ret_int HV.out, Kept.refl _ _⟩
  by_cases h2 : p.toList = [46]
  · have hv : (50 : Int) = z := NO.out (fun h => by unfold chk at h; have := of_decide_eq_true h; exact this.2.1 (by rw [← HT.out]; exact h2))
    have HV := Lib.hid hv
    clear hv
    go_enter Tryz.func126, Tryz.ntmps126
    go_wp2_with fail
    go_ret
    exact ⟨ret_int HV.out, Kept.refl _ _⟩
  by_cases h3 : p.toList = [46, 46]
  · have hv : (50 : Int) = z := NO.out (fun h => by unfold chk at h; have := of_decide_eq_true h; exact this.2.2.1 (by rw [← HT.out]; exact h3))
    have HV := Lib.hid hv
    clear hv
    go_enter Tryz.func126, Tryz.ntmps126
    go_wp2_with fail
    go_ret
    exact ⟨ret_int HV.out, Kept.refl _ _⟩
  have b1 : p.toList.isEmpty = false := by rw [List.isEmpty_eq_false_iff]; exact h1
  have b2 : (p.toList == [46]) = false := by rw [beq_eq_false_iff_ne]; exact h2
  have b3 : (p.toList == [46, 46]) = false := by rw [beq_eq_false_iff_ne]; exact h3
  have b0 : (p.toList == []) = false := by rw [beq_eq_false_iff_ne]; exact h1
  by_cases h4 : p.size ≤ 255
  · have h4' : ¬ (255 : Int) < (p.size : Int) := by omega
    by_cases h5 : 0 ≤ Lib.indexByte p.data.toList 47
    · have hv : (50 : Int) = z := NO.out (fun h => by
        unfold chk at h
        have := of_decide_eq_true h
        obtain ⟨i, hi⟩ : ∃ i : Nat, Lib.indexByte p.data.toList 47 = i := ⟨(Lib.indexByte p.data.toList 47).toNat, by omega⟩
        exact this.2.2.2.2.1 (List.mem_of_getElem? (Lib.indexByte_some hi).1))
      have HV := Lib.hid hv
      rw [decide_eq_true h5] at CON
      clear hv h5 h1 h2 h3
      go_enter Tryz.func126, Tryz.ntmps126
      go_wp2_with (go_at_call 163; refine CON.out.mono ?_; rintro e w1 ⟨rfl, rfl⟩)
      go_ret
      exact ⟨ret_int HV.out, Kept.refl _ _⟩
    · have h5' : Lib.indexByte p.data.toList 47 = -1 := by have := Lib.indexByte_ge p.data.toList 47; omega
      have hv : Hid ((if good p = true then (0 : Int) else 50) = z) := by
        show _ = _
        by_cases hg : good p = true
        · rw [if_pos hg]
          refine YES.out ?_
          unfold chk
          refine decide_eq_true ⟨by rw [← HT.out]; exact h1, by rw [← HT.out]; exact h2, by rw [← HT.out]; exact h3, by rw [HL.out]; exact h4, fun hm => ?_, hg⟩
          obtain ⟨k, hk, e⟩ := List.mem_iff_getElem.1 hm
          exact Lib.indexByte_none h5' k (by show (dl p)[k]? = _; rw [List.getElem?_eq_getElem hk, e])
        · rw [if_neg hg]
          exact NO.out (fun h => by unfold chk at h; have := of_decide_eq_true h; exact hg this.2.2.2.2.2)
      rw [decide_eq_false h5] at CON
      obtain ⟨q, hq⟩ : ∃ q, q = good p := ⟨_, rfl⟩
      rw [← hq] at GOOD hv
      clear hq h5 h5' h1 h2 h3
      go_enter Tryz.func126, Tryz.ntmps126
      cases q
      · go_wp2_with (first | (go_at_call 163; refine CON.out.mono ?_; rintro e w1 ⟨rfl, rfl⟩) | (go_at_call 164; refine (GOOD.out _).mono ?_; rintro e w2 ⟨rfl, kb⟩))
        go_ret
        exact ⟨ret_int hv.out, Kept.of_below kb []⟩
      · go_wp2_with (first | (go_at_call 163; refine CON.out.mono ?_; rintro e w1 ⟨rfl, rfl⟩) | (go_at_call 164; refine (GOOD.out _).mono ?_; rintro e w2 ⟨rfl, kb⟩))
        go_ret
        exact ⟨ret_int hv.out, Kept.of_below kb []⟩
  · have hv : (50 : Int) = z := NO.out (fun h => by unfold chk at h; have := of_decide_eq_true h; have h2 := this.2.2.2.1; rw [HL.out] at h2; exact h4 h2)
    have HV := Lib.hid hv
    have h4' : (255 : Int) < (p.size : Int) := by omega
    clear hv h1 h2 h3
    go_enter Tryz.func126, Tryz.ntmps126
    go_wp2_with fail
    go_ret
    exact ⟨ret_int HV.out, Kept.refl _ _⟩
end Nm
end Go.Proofs.YtahjmpfjidijaaaGreatDoor
end
section
namespace Go.Proofs.YtahjmpfjidijaaaGreatDoor
set_option linter.unusedVariables false
open Go.RowKit Go.Shelf
attribute [local go_sem] Oper.semAt_some
namespace Ru
open Go.Proofs.YtahjmpfjidijaaaGreatDoor.Utf Go.Proofs.YtahjmpfjidijaaaGreatDoor.Txt Go.PlainAid Go.Proofs.YtahjmpfjidijaaaGreatDoor.Mpf Go.Proofs.YtahjmpfjidijaaaGreatDoor.Us

/-- A node's fields. -/
structure Nd where
  path : Nat
  parent : Nat
  name : ByteArray
  mode : Nat
  uid : ByteArray
  gid : ByteArray
  muid : ByteArray
  atime : Nat
  mtime : Nat
  vers : Nat
  length : Nat
  opens : Int
  kids : Int
def Nd.L (d : Nd) : List Value := [.int .u64 d.path, .int .u64 d.parent, .string d.name, .int .u32 d.mode, .string d.uid, .string d.gid, .string d.muid, .int .u32 d.atime, .int .u32 d.mtime, .int .u32 d.vers, .int .u64 d.length, .int .i64 d.opens, .int .i64 d.kids]
def Nd.V (d : Nd) : Value := .agg d.L.toArray
def whoV (p : Nat) (u : ByteArray) : Value := .agg #[.pointer (some ⟨p, 0, none⟩), .string u]

theorem member_t {w : World} {B p : Nat} {T : List Acc} (h : Tb w B p T) (u g : ByteArray) (hu : u.size ≤ maxLen) (hg : g.size ≤ maxLen) :
    Calls Tryz.prog 36 #[.pointer (some ⟨p, 0, none⟩), .string u, .string g] w fun e w' => e = .returned (.bool (member T u g)) ∧ Kept [] w w' := by
  obtain ⟨sl, m1, m2, n2, L, h, rfl⟩ := h
  exact member_x h u g hu hg
theorem asks_any (w : World) (p : Nat) (u : ByteArray) : Calls Tryz.prog 67 #[.pointer (some ⟨p, 0, none⟩), .string u] w fun e w' => e = .returned (whoV p u) ∧ Kept [] w w' := by
  unfold whoV
  go_enter Tryz.func67, Tryz.ntmps67
  go_wp2_with fail
  refine bodyPost_ret (v := .agg #[.pointer (some ⟨p, 0, none⟩), .string u]) (by simp [results, Tryz.results67, go_sem]) rfl ⟨rfl, (Kept.refl _ _).alloc _⟩
set_option maxHeartbeats 4000000 in
set_option maxRecDepth 100000 in
theorem classes_any {w : World} {B p : Nat} {T : List Acc} (h : Tb w B p T) (u : ByteArray) (d : Nd) (hu : u.size ≤ maxLen) (hg : d.gid.size ≤ maxLen) :
    Calls Tryz.prog 128 #[whoV p u, d.V] w fun e w' => ∃ G, e = .returned (.slice (some ⟨G, 0, none⟩) 3 3) ∧ w'.heap[G]? = some (.cells #[.int .i64 6, .bool (decide (u = d.uid)), .int .i64 3, .bool (member T u d.gid), .int .i64 0, .bool true] 178 (0, 0)) ∧ Kept [] w w' := by
  obtain ⟨path, parent, name, mode, uid, gid, muid, atime, mtime, vers, length, opens, kids⟩ := d
  simp only [Nd.V, Nd.L, whoV] at hg ⊢
  have ME : Hid (∀ w', Kept [] w w' → _) := fun w' k => member_t (h.kept k) u gid hu hg
  have BQ := beq_str u uid
  obtain ⟨q, hq⟩ : ∃ q, q = member T u gid := ⟨_, rfl⟩
  obtain ⟨y, hy⟩ : ∃ y, y = decide (u = uid) := ⟨_, rfl⟩
  rw [← hq] at ME ⊢
  rw [← hy] at BQ ⊢
  clear hq hy h
  go_enter Tryz.func128, Tryz.ntmps128
  go_wp2_with fail
  obtain ⟨w1, hw1⟩ : ∃ w1, w1 = ((w.alloc (.cells #[.pointer (some ⟨p, 0, none⟩), .string u] 111)).alloc (.cells #[.int .u64 path, .int .u64 parent, .string name, .int .u32 mode, .string uid, .string gid, .string muid, .int .u32 atime, .int .u32 mtime, .int .u32 vers, .int .u64 length, .int .i64 opens, .int .i64 kids] 51)) := ⟨_, rfl⟩
  obtain ⟨R2, hR2⟩ : ∃ R, R = w.heap.size + 1 := ⟨_, rfl⟩
  obtain ⟨R1, hR1⟩ : ∃ R, R = w.heap.size := ⟨_, rfl⟩
  have k1 : Kept [] w w1 := by rw [hw1]; exact ((Kept.refl _ _).alloc _).alloc _
  have b1 : w1.heap[R1]? = some (.cells #[.pointer (some ⟨p, 0, none⟩), .string u] 111 (0, 0)) := by
    rw [hw1, hR1]
    exact (Below.heap_alloc _ _ _ (by simp)).trans (MapKept.heap_alloc w _).1
  have b2 : w1.heap[R2]? = some (.cells #[.int .u64 path, .int .u64 parent, .string name, .int .u32 mode, .string uid, .string gid, .string muid, .int .u32 atime, .int .u32 mtime, .int .u32 vers, .int .u64 length, .int .i64 opens, .int .i64 kids] 51 (0, 0)) := by
    rw [hw1, hR2]
    have := (MapKept.heap_alloc (w.alloc (.cells #[.pointer (some ⟨p, 0, none⟩), .string u] 111)) (.cells #[.int .u64 path, .int .u64 parent, .string name, .int .u32 mode, .string uid, .string gid, .string muid, .int .u32 atime, .int .u32 mtime, .int .u32 vers, .int .u64 length, .int .i64 opens, .int .i64 kids] 51)).1
    rwa [World.size_alloc] at this
  rw [← hw1, ← hR2, ← hR1]
  have CELLS : Hid (∀ wr, Kept [] w1 wr → wr.cell? ⟨R1, 0, none⟩ = some (.pointer (some ⟨p, 0, none⟩)) ∧ wr.cell? ⟨R1, 1, none⟩ = some (.string u) ∧ wr.cell? ⟨R2, 4, none⟩ = some (.string uid) ∧ wr.cell? ⟨R2, 5, none⟩ = some (.string gid)) := fun wr k => by
    have x1 := (k.block _ (block_lt b1) (by simp)).trans b1
    have x2 := (k.block _ (block_lt b2) (by simp)).trans b2
    refine ⟨?_, ?_, ?_, ?_⟩
    · rw [cell_of_row wr R1 0 _ _ (0, 0) x1]; rfl
    · rw [cell_of_row wr R1 1 _ _ (0, 0) x1]; rfl
    · rw [cell_of_row wr R2 4 _ _ (0, 0) x2]; rfl
    · rw [cell_of_row wr R2 5 _ _ (0, 0) x2]; rfl
  have K1 := Lib.hid k1
  have kd : Kept [] w1 w1.drew := (Kept.refl [] w1).drew
  have MEd := Lib.hid (ME.out w1.drew (k1.trans kd (fun i hi => by cases hi)))
  obtain ⟨s0, s1, s2, s3⟩ := CELLS.out w1 (Kept.refl _ _)
  clear hw1 hR1 hR2 k1 b1 b2 ME
  go_region_held3 (fun w' => w'.cell? ⟨R1, 0, none⟩ = some (Value.pointer (some ⟨p, 0, none⟩)) ∧ w'.cell? ⟨R1, 1, none⟩ = some (Value.string u) ∧ w'.cell? ⟨R2, 4, none⟩ = some (Value.string uid) ∧ w'.cell? ⟨R2, 5, none⟩ = some (Value.string gid)) (first | exact CELLS.out _ kd | exact CELLS.out _ K4 | exact CELLS.out _ (K4.alloc _)) (first | (go_at_call 36; refine MEd.out.mono ?_; rintro e w4 ⟨rfl, k4⟩; have K4 : Kept [] w1 w4 := kd.trans k4 (fun i hi => by cases hi)))
  go_wp2_with fail
  go_ret
  exact ⟨w4.heap.size, rfl, (MapKept.heap_alloc w4 _).1, (K1.out.trans K4 (fun i hi => by cases hi)).alloc _⟩
/-- What of a mode's rights a class has. -/
def rOf (y q : Bool) (mode : Nat) : Int :=
  bits .or .u8 (if q = true then bits .or .u8 (if y = true then bits .or .u8 0 (bits .and .u32 ((mode : Int) / 64) 7 % 256) else 0) (bits .and .u32 ((mode : Int) / 8) 7 % 256) else (if y = true then bits .or .u8 0 (bits .and .u32 ((mode : Int) / 64) 7 % 256) else 0)) (bits .and .u32 (mode : Int) 7 % 256)
set_option maxHeartbeats 4000000 in
set_option maxRecDepth 100000 in
theorem rights_any {w : World} {B p : Nat} {T : List Acc} (h : Tb w B p T) (u : ByteArray) (d : Nd) (hu : u.size ≤ maxLen) (hg : d.gid.size ≤ maxLen) :
    Calls Tryz.prog 83 #[whoV p u, d.V] w fun e w' => e = .returned (.int .u8 (rOf (decide (u = d.uid)) (member T u d.gid) d.mode)) ∧ Kept [] w w' := by
  have CL := Lib.hid (fun w' k => classes_any (w := w') (h.kept k) u d hu hg)
  obtain ⟨path, parent, name, mode, uid, gid, muid, atime, mtime, vers, length, opens, kids⟩ := d
  simp only [Nd.V, Nd.L, whoV] at hg CL ⊢
  obtain ⟨q, hq⟩ : ∃ q, q = member T u gid := ⟨_, rfl⟩
  obtain ⟨y, hy⟩ : ∃ y, y = decide (u = uid) := ⟨_, rfl⟩
  rw [← hq, ← hy] at CL ⊢
  clear hq hy h
  have KA : Hid (Kept [] w ((w.alloc (.cells #[.pointer (some ⟨p, 0, none⟩), .string u] 111)).alloc (.cells #[.int .u64 path, .int .u64 parent, .string name, .int .u32 mode, .string uid, .string gid, .string muid, .int .u32 atime, .int .u32 mtime, .int .u32 vers, .int .u64 length, .int .i64 opens, .int .i64 kids] 51))) := ((Kept.refl _ _).alloc _).alloc _
  have CLA := Lib.hid (CL.out _ KA.out)
  clear CL
  go_enter Tryz.func83, Tryz.ntmps83
  go_wp2_with fail
  refine CLA.out.mono ?_
  rintro e w2 ⟨G, rfl, bG, k2⟩
  have b3 : w2.heap[w.heap.size + 1]? = some (.cells #[.int .u64 path, .int .u64 parent, .string name, .int .u32 mode, .string uid, .string gid, .string muid, .int .u32 atime, .int .u32 mtime, .int .u32 vers, .int .u64 length, .int .i64 opens, .int .i64 kids] 51 (0, 0)) := by
    refine (k2.block (w.heap.size + 1) (by simp) (by simp)).trans ?_
    have := (MapKept.heap_alloc (w.alloc (.cells #[.pointer (some ⟨p, 0, none⟩), .string u] 111)) (.cells #[.int .u64 path, .int .u64 parent, .string name, .int .u32 mode, .string uid, .string gid, .string muid, .int .u32 atime, .int .u32 mtime, .int .u32 vers, .int .u64 length, .int .i64 opens, .int .i64 kids] 51)).1
    rwa [World.size_alloc] at this
  obtain ⟨R2, hR2⟩ : ∃ R, R = w.heap.size + 1 := ⟨_, rfl⟩
  rw [← hR2] at b3 ⊢
  have K2 : Hid (Kept [] w w2) := KA.out.trans k2 (fun i hi => by cases hi)
  have CE : Hid (∀ wr, Kept [] w2 wr → wr.cell? ⟨R2, 3, none⟩ = some (.int .u32 mode) ∧ wr.cell? ⟨G, 0, none⟩ = some (.int .i64 6) ∧ wr.cell? ⟨G, 1, none⟩ = some (.bool y) ∧ wr.cell? ⟨G, 2, none⟩ = some (.int .i64 3) ∧ wr.cell? ⟨G, 3, none⟩ = some (.bool q) ∧ wr.cell? ⟨G, 4, none⟩ = some (.int .i64 0) ∧ wr.cell? ⟨G, 5, none⟩ = some (.bool true)) := fun wr k => by
    have x1 := (k.block _ (block_lt b3) (by simp)).trans b3
    have x2 := (k.block _ (block_lt bG) (by simp)).trans bG
    refine ⟨?_, ?_, ?_, ?_, ?_, ?_, ?_⟩
    · rw [cell_of_row wr R2 3 _ _ (0, 0) x1]; rfl
    · rw [cell_of_row wr G 0 _ _ (0, 0) x2]; rfl
    · rw [cell_of_row wr G 1 _ _ (0, 0) x2]; rfl
    · rw [cell_of_row wr G 2 _ _ (0, 0) x2]; rfl
    · rw [cell_of_row wr G 3 _ _ (0, 0) x2]; rfl
    · rw [cell_of_row wr G 4 _ _ (0, 0) x2]; rfl
    · rw [cell_of_row wr G 5 _ _ (0, 0) x2]; rfl
  have a1 : Hid (∀ wr (i : Int) (b : Bool), Kept [] w2 wr → Kept [] w2 (wr.alloc (.cells #[.int .i64 i, .bool b] 178))) := fun wr i b k => k.alloc _
  have e0 := CE.out w2 (Kept.refl _ _)
  have e1 := fun (b : Bool) => CE.out _ (a1.out w2 6 b (Kept.refl _ _))
  have e2 := fun (b c : Bool) => CE.out _ (a1.out _ 3 c (a1.out w2 6 b (Kept.refl _ _)))
  have e3 := fun (b c : Bool) => CE.out _ (a1.out _ 0 true (a1.out _ 3 c (a1.out w2 6 b (Kept.refl _ _))))
  have KF : Hid (∀ b c, Kept [] w (((w2.alloc (.cells #[.int .i64 6, .bool b] 178)).alloc (.cells #[.int .i64 3, .bool c] 178)).alloc (.cells #[.int .i64 0, .bool true] 178))) := fun b c => ((K2.out.alloc _).alloc _).alloc _
  clear hR2 b3 bG k2 CLA
  cases y <;> cases q
  · obtain ⟨m0, g0, g1, g2, g3, g4, g5⟩ := e0
    obtain ⟨m10, g10, g11, g12, g13, g14, g15⟩ := e1 false
    obtain ⟨m20, g20, g21, g22, g23, g24, g25⟩ := e2 false false
    obtain ⟨m30, g30, g31, g32, g33, g34, g35⟩ := e3 false false
    clear e1 e2 e3
    go_wp2_with fail
    refine wp_loop_rounds 4 ?_
    rw [rounds_succ]
    go_wp2_with fail
    rw [rounds_succ]
    go_wp2_with fail
    rw [rounds_succ]
    go_wp2_with fail
    rw [rounds_succ]
    go_wp2_with fail
    go_ret
    exact ⟨rfl, KF.out _ _⟩
  · obtain ⟨m0, g0, g1, g2, g3, g4, g5⟩ := e0
    obtain ⟨m10, g10, g11, g12, g13, g14, g15⟩ := e1 false
    obtain ⟨m20, g20, g21, g22, g23, g24, g25⟩ := e2 false true
    obtain ⟨m30, g30, g31, g32, g33, g34, g35⟩ := e3 false true
    clear e1 e2 e3
    go_wp2_with fail
    refine wp_loop_rounds 4 ?_
    rw [rounds_succ]
    go_wp2_with fail
    rw [rounds_succ]
    go_wp2_with fail
    rw [rounds_succ]
    go_wp2_with fail
    rw [rounds_succ]
    go_wp2_with fail
    go_ret
    exact ⟨rfl, KF.out _ _⟩
  · obtain ⟨m0, g0, g1, g2, g3, g4, g5⟩ := e0
    obtain ⟨m10, g10, g11, g12, g13, g14, g15⟩ := e1 true
    obtain ⟨m20, g20, g21, g22, g23, g24, g25⟩ := e2 true false
    obtain ⟨m30, g30, g31, g32, g33, g34, g35⟩ := e3 true false
    clear e1 e2 e3
    go_wp2_with fail
    refine wp_loop_rounds 4 ?_
    rw [rounds_succ]
    go_wp2_with fail
    rw [rounds_succ]
    go_wp2_with fail
    rw [rounds_succ]
    go_wp2_with fail
    rw [rounds_succ]
    go_wp2_with fail
    go_ret
    exact ⟨rfl, KF.out _ _⟩
  · obtain ⟨m0, g0, g1, g2, g3, g4, g5⟩ := e0
    obtain ⟨m10, g10, g11, g12, g13, g14, g15⟩ := e1 true
    obtain ⟨m20, g20, g21, g22, g23, g24, g25⟩ := e2 true true
    obtain ⟨m30, g30, g31, g32, g33, g34, g35⟩ := e3 true true
    clear e1 e2 e3
    go_wp2_with fail
    refine wp_loop_rounds 4 ?_
    rw [rounds_succ]
    go_wp2_with fail
    rw [rounds_succ]
    go_wp2_with fail
    rw [rounds_succ]
    go_wp2_with fail
    rw [rounds_succ]
    go_wp2_with fail
    go_ret
    exact ⟨rfl, KF.out _ _⟩
end Ru
end Go.Proofs.YtahjmpfjidijaaaGreatDoor
end
section
namespace Go.Proofs.YtahjmpfjidijaaaGreatDoor
set_option linter.unusedVariables false
open Go.RowKit Go.Shelf
attribute [local go_sem] Oper.semAt_some
namespace Ru
open Go.Proofs.YtahjmpfjidijaaaGreatDoor.Utf Go.Proofs.YtahjmpfjidijaaaGreatDoor.Txt Go.PlainAid Go.Proofs.YtahjmpfjidijaaaGreatDoor.Mpf Go.Proofs.YtahjmpfjidijaaaGreatDoor.Us
/-- The rights of a user on a node. -/
def rightsV (T : List Acc) (u : ByteArray) (d : Nd) : Int := rOf (decide (u = d.uid)) (member T u d.gid) d.mode
def mayV (T : List Acc) (u : ByteArray) (d : Nd) (x : Int) : Bool := bits .andNot .u8 x (rightsV T u d) == 0
def dirV (d : Nd) : Bool := bits .and .u32 (d.mode : Int) 2147483648 != 0
theorem nd_cells {w : World} {R : Nat} {d : Nd} (h : w.heap[R]? = some (.cells d.L.toArray 51 (0, 0))) : w.cell? ⟨R, 0, none⟩ = some (Value.int .u64 d.path) ∧ w.cell? ⟨R, 1, none⟩ = some (Value.int .u64 d.parent) ∧ w.cell? ⟨R, 2, none⟩ = some (Value.string d.name) ∧ w.cell? ⟨R, 3, none⟩ = some (Value.int .u32 d.mode) ∧ w.cell? ⟨R, 4, none⟩ = some (Value.string d.uid) ∧ w.cell? ⟨R, 5, none⟩ = some (Value.string d.gid) ∧ w.cell? ⟨R, 6, none⟩ = some (Value.string d.muid) ∧ w.cell? ⟨R, 7, none⟩ = some (Value.int .u32 d.atime) ∧ w.cell? ⟨R, 8, none⟩ = some (Value.int .u32 d.mtime) ∧ w.cell? ⟨R, 9, none⟩ = some (Value.int .u32 d.vers) ∧ w.cell? ⟨R, 10, none⟩ = some (Value.int .u64 d.length) ∧ w.cell? ⟨R, 11, none⟩ = some (Value.int .i64 d.opens) ∧ w.cell? ⟨R, 12, none⟩ = some (Value.int .i64 d.kids) := by
  refine ⟨?_, ?_, ?_, ?_, ?_, ?_, ?_, ?_, ?_, ?_, ?_, ?_, ?_⟩ <;> (rw [cell_of_row w R _ _ _ (0, 0) h]; rfl)
section
variable {w : World} {B p : Nat} {T : List Acc}
theorem isDir_any (w : World) (d : Nd) : Calls Tryz.prog 79 #[d.V] w fun e w' => e = .returned (.bool (dirV d)) ∧ Kept [] w w' := by
  obtain ⟨path, parent, name, mode, uid, gid, muid, atime, mtime, vers, length, opens, kids⟩ := d
  simp only [Nd.V, Nd.L, dirV]
  go_enter Tryz.func79, Tryz.ntmps79
  go_wp2_with fail
  go_ret
  exact ⟨rfl, (Kept.refl _ _).alloc _⟩
theorem may_any (h : Tb w B p T) (u : ByteArray) (d : Nd) (x : Int) (hu : u.size ≤ maxLen) (hg : d.gid.size ≤ maxLen) :
    Calls Tryz.prog 80 #[whoV p u, d.V, .int .u8 x] w fun e w' => e = .returned (.bool (mayV T u d x)) ∧ Kept [] w w' := by
  have RI := Lib.hid (fun w' k => rights_any (w := w') (h.kept k) u d hu hg)
  have HV : Hid (mayV T u d x = (bits .andNot .u8 x (rOf (decide (u = d.uid)) (member T u d.gid) d.mode) == 0)) := rfl
  obtain ⟨z, hz⟩ : ∃ z, z = mayV T u d x := ⟨_, rfl⟩
  rw [← hz] at HV ⊢
  obtain ⟨r, hr⟩ : ∃ r, r = rOf (decide (u = d.uid)) (member T u d.gid) d.mode := ⟨_, rfl⟩
  rw [← hr] at RI HV
  obtain ⟨path, parent, name, mode, uid, gid, muid, atime, mtime, vers, length, opens, kids⟩ := d
  simp only [Nd.V, Nd.L, whoV] at RI ⊢
  have KA : Hid (Kept [] w ((w.alloc (.cells #[.pointer (some ⟨p, 0, none⟩), .string u] 111)).alloc (.cells #[.int .u64 path, .int .u64 parent, .string name, .int .u32 mode, .string uid, .string gid, .string muid, .int .u32 atime, .int .u32 mtime, .int .u32 vers, .int .u64 length, .int .i64 opens, .int .i64 kids] 51))) := ((Kept.refl _ _).alloc _).alloc _
  have RIA := Lib.hid (RI.out _ KA.out)
  clear RI h hz hr
  go_enter Tryz.func80, Tryz.ntmps80
  go_wp2_with (first | (go_at_call 83; refine RIA.out.mono ?_; rintro e w2 ⟨rfl, k2⟩))
  go_ret
  exact ⟨by rw [HV.out]; rfl, KA.out.trans k2 (fun i hi => by cases hi)⟩
theorem mayWrite_any (h : Tb w B p T) (u : ByteArray) (d : Nd) (hu : u.size ≤ maxLen) (hg : d.gid.size ≤ maxLen) :
    Calls Tryz.prog 81 #[whoV p u, d.V] w fun e w' => e = .returned (.bool (mayV T u d 2)) ∧ Kept [] w w' := by
  have RI := Lib.hid (fun w' k => may_any (w := w') (h.kept k) u d 2 hu hg)
  obtain ⟨z, hz⟩ : ∃ z, z = mayV T u d 2 := ⟨_, rfl⟩
  rw [← hz] at RI ⊢
  obtain ⟨path, parent, name, mode, uid, gid, muid, atime, mtime, vers, length, opens, kids⟩ := d
  simp only [Nd.V, Nd.L, whoV] at RI ⊢
  have KA : Hid (Kept [] w ((w.alloc (.cells #[.pointer (some ⟨p, 0, none⟩), .string u] 111)).alloc (.cells #[.int .u64 path, .int .u64 parent, .string name, .int .u32 mode, .string uid, .string gid, .string muid, .int .u32 atime, .int .u32 mtime, .int .u32 vers, .int .u64 length, .int .i64 opens, .int .i64 kids] 51))) := ((Kept.refl _ _).alloc _).alloc _
  have RIA := Lib.hid (RI.out _ KA.out)
  clear RI h hz
  go_enter Tryz.func81, Tryz.ntmps81
  go_wp2_with (first | (go_at_call 80; refine RIA.out.mono ?_; rintro e w2 ⟨rfl, k2⟩))
  go_ret
  exact ⟨rfl, KA.out.trans k2 (fun i hi => by cases hi)⟩
theorem rights_t (h : Tb w B p T) (u : ByteArray) (d : Nd) (hu : u.size ≤ maxLen) (hg : d.gid.size ≤ maxLen) :
    Calls Tryz.prog 30 #[.pointer (some ⟨p, 0, none⟩), .string u, d.V] w fun e w' => e = .returned (.int .u8 (rightsV T u d)) ∧ Kept [] w w' := by
  have RI : Hid (∀ w', Kept [] w w' → Calls Tryz.prog 83 #[whoV p u, d.V] w' fun e w'' => e = .returned (.int .u8 (rightsV T u d)) ∧ Kept [] w' w'') := fun w' k => rights_any (w := w') (h.kept k) u d hu hg
  have AS := Lib.hid (fun w => asks_any w p u)
  obtain ⟨z, hz⟩ : ∃ z, z = rightsV T u d := ⟨_, rfl⟩
  rw [← hz] at RI ⊢
  obtain ⟨w1, hw1⟩ : ∃ w1, w1 = w.alloc (.cells d.L.toArray 51) := ⟨_, rfl⟩
  obtain ⟨R, hR⟩ : ∃ R, R = w.heap.size := ⟨_, rfl⟩
  have b1 : w1.heap[R]? = some (.cells d.L.toArray 51 (0, 0)) := by rw [hw1, hR]; exact (MapKept.heap_alloc w _).1
  have K1 : Hid (Kept [] w w1) := by rw [hw1]; exact (Kept.refl _ _).alloc _
  have CE : Hid (∀ wr, Kept [] w1 wr → _) := fun wr k => nd_cells ((k.block _ (block_lt b1) (by simp)).trans b1)
  have HW1 := Lib.hid hw1
  have HR := Lib.hid hR
  have kd : Kept [] w1 w1.drew := (Kept.refl [] w1).drew
  clear hw1 hR h hz b1
  obtain ⟨path, parent, name, mode, uid, gid, muid, atime, mtime, vers, length, opens, kids⟩ := d
  simp only [Nd.V, Nd.L, whoV] at RI AS CE HW1 ⊢
  go_enter Tryz.func30, Tryz.ntmps30
  go_wp2_with fail
  rw [← HW1.out, ← HR.out]
  go_region_held3 (fun w' => w'.cell? ⟨R, 0, none⟩ = some (Value.int .u64 path) ∧ w'.cell? ⟨R, 1, none⟩ = some (Value.int .u64 parent) ∧ w'.cell? ⟨R, 2, none⟩ = some (Value.string name) ∧ w'.cell? ⟨R, 3, none⟩ = some (Value.int .u32 mode) ∧ w'.cell? ⟨R, 4, none⟩ = some (Value.string uid) ∧ w'.cell? ⟨R, 5, none⟩ = some (Value.string gid) ∧ w'.cell? ⟨R, 6, none⟩ = some (Value.string muid) ∧ w'.cell? ⟨R, 7, none⟩ = some (Value.int .u32 atime) ∧ w'.cell? ⟨R, 8, none⟩ = some (Value.int .u32 mtime) ∧ w'.cell? ⟨R, 9, none⟩ = some (Value.int .u32 vers) ∧ w'.cell? ⟨R, 10, none⟩ = some (Value.int .u64 length) ∧ w'.cell? ⟨R, 11, none⟩ = some (Value.int .i64 opens) ∧ w'.cell? ⟨R, 12, none⟩ = some (Value.int .i64 kids)) (first | exact CE.out _ kd | exact CE.out _ K2 | exact CE.out _ K3) (first | (go_at_call 67; refine (AS.out _).mono ?_; rintro e w2 ⟨rfl, k2⟩; have K2 : Kept [] w1 w2 := kd.trans k2 (fun i hi => by cases hi)) | (go_at_call 83; refine (RI.out _ (K1.out.trans K2 (fun i hi => by cases hi))).mono ?_; rintro e w3 ⟨rfl, k3⟩; have K3 : Kept [] w1 w3 := K2.trans k3 (fun i hi => by cases hi)))
  go_wp2_with fail
  go_ret
  exact ⟨rfl, K1.out.trans K3 (fun i hi => by cases hi)⟩
end
end Ru
end Go.Proofs.YtahjmpfjidijaaaGreatDoor
end
