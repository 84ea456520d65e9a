/- rules: governs, mayGive. -/
import Derived.Test.YteeheapenfklcaaGreatDoorRrm
namespace Go.Proofs.YteeheapenfklcaaGreatDoor
set_option linter.unusedVariables false
open Go.RowKit Go.Shelf
attribute [local go_sem] Oper.semAt_some
namespace Ru
open Go.Proofs.YteeheapenfklcaaGreatDoor.Utf Go.Proofs.YteeheapenfklcaaGreatDoor.Txt Go.PlainAid Go.Proofs.YteeheapenfklcaaGreatDoor.Mpf Go.Proofs.YteeheapenfklcaaGreatDoor.Us

theorem leadsX_eq (L : List (Acc × Value)) (u g : ByteArray) : leadsX (bel (accs L)) L u g = leads (accs L) u g := by
  unfold leadsX leaderOf accAt leads
  cases hp : placeOf (accs L) 0 g with
  | none => rfl
  | some k =>
    obtain ⟨hk, -, -⟩ := placeOf_some g (accs L) 0 k hp
    rw [Nat.sub_zero] at hk
    have hkl : k < L.length := by rw [accs_length] at hk; exact hk
    simp only
    rw [List.getElem?_eq_getElem hk]
    have e : (accs L)[k] = L[k].1 := by simp only [accs, List.getElem_map]
    rw [e]
    simp only [List.getD, List.getElem?_eq_getElem hkl, Option.getD_some, Option.elim_some]
    by_cases h0 : L[k].1.leader.size = 0
    · simp [h0, memX, member]
    · simp [h0]
theorem leads_t {w : World} {B p : Nat} {T : List Acc} (h : Tb w B p T) (hT : T.length ≤ 1048576) (u g : ByteArray) (hu : u.size ≤ maxLen) (hg : g.size ≤ maxLen) :
    Calls Tryz.prog 24 #[.pointer (some ⟨p, 0, none⟩), .string u, .string g] w fun e w' => e = .returned (.bool (leads T u g)) ∧ Kept [] w w' := by
  obtain ⟨sl, m1, m2, n2, L, h, rfl⟩ := h
  have := leads_x h u g hu hg (by rw [accs_length] at hT; exact hT)
  rwa [leadsX_eq] at this
theorem known_t {w : World} {B p : Nat} {T : List Acc} (h : Tb w B p T) (u : ByteArray) (hu : u.size ≤ maxLen) :
    Calls Tryz.prog 13 #[.pointer (some ⟨p, 0, none⟩), .string u] w fun e w' => e = .returned (.bool (known T u)) ∧ Kept [] w w' := by
  obtain ⟨sl, m1, m2, n2, L, h, rfl⟩ := h
  exact (known_x h u hu).mono fun e w' ⟨h1, h2⟩ => ⟨h1, by rw [h2]; exact Kept.refl _ _⟩
def govV (T : List Acc) (u : ByteArray) (n : Nd) : Bool := decide (u = n.uid) || leads T u n.gid
def giveV (T : List Acc) (u : ByteArray) (n : Nd) (g : ByteArray) : Bool := (decide (u = n.uid) && member T u g) || (leads T u n.gid && leads T u g)
set_option maxHeartbeats 4000000 in
set_option maxRecDepth 100000 in
theorem governs_any {w : World} {B p : Nat} {T : List Acc} (h : Tb w B p T) (hT : T.length ≤ 1048576) (u : ByteArray) (d : Nd) (hu : u.size ≤ maxLen) (hg : d.gid.size ≤ maxLen) :
    Calls Tryz.prog 118 #[whoV p u, d.V] w fun e w' => e = .returned (.bool (govV T u d)) ∧ Kept [] w w' := by
  have LE := Lib.hid (fun w' (k : Kept [] w w') => leads_t (h.kept k) hT u d.gid hu hg)
  have BQ := beq_str u d.uid
  unfold govV
  obtain ⟨path, parent, name, mode, uid, gid, muid, atime, mtime, vers, length, opens, kids⟩ := d
  simp only [Nd.V, Nd.L, whoV] at LE BQ ⊢
  obtain ⟨lb, hlb⟩ : ∃ b, b = leads T u gid := ⟨_, rfl⟩
  obtain ⟨ob, hob⟩ : ∃ b, b = decide (u = uid) := ⟨_, rfl⟩
  rw [← hlb] at LE ⊢
  rw [← hob] at BQ ⊢
  have KA : Hid (Kept [] w ((w.alloc (.cells #[.pointer (some ⟨p, 0, none⟩), .string u] 97)).alloc (.cells #[.int .u64 path, .int .u64 parent, .string name, .int .u32 mode, .string uid, .string gid, .string muid, .int .u32 atime, .int .u32 mtime, .int .u32 vers, .int .u64 length, .int .i64 opens, .int .i64 kids] 46))) := ((Kept.refl _ _).alloc _).alloc _
  have LEA := Lib.hid (LE.out _ KA.out)
  clear LE h hlb hob
  cases ob
  all_goals
    go_enter Tryz.func118, Tryz.ntmps118
    go_wp2_with (first | (go_at_call 24; refine LEA.out.mono ?_; rintro e w2 ⟨rfl, k2⟩; have K2 := Lib.hid (KA.out.trans k2 (fun i hi => by cases hi)); clear k2))
    go_ret
    first | exact ⟨rfl, KA.out⟩ | exact ⟨rfl, K2.out⟩
set_option maxHeartbeats 8000000 in
set_option maxRecDepth 100000 in
theorem mayGive_any {w : World} {B p : Nat} {T : List Acc} (h : Tb w B p T) (hT : T.length ≤ 1048576) (u : ByteArray) (d : Nd) (g : ByteArray) (hu : u.size ≤ maxLen) (hd : d.gid.size ≤ maxLen) (hg : g.size ≤ maxLen) :
    Calls Tryz.prog 120 #[whoV p u, d.V, .string g] w fun e w' => e = .returned (.bool (giveV T u d g)) ∧ Kept [] w w' := by
  have ME := Lib.hid (fun w' (k : Kept [] w w') => member_t (h.kept k) u g hu hg)
  have LD := Lib.hid (fun w' (k : Kept [] w w') => leads_t (h.kept k) hT u d.gid hu hd)
  have LG := Lib.hid (fun w' (k : Kept [] w w') => leads_t (h.kept k) hT u g hu hg)
  have BQ := beq_str u d.uid
  unfold giveV
  obtain ⟨path, parent, name, mode, uid, gid, muid, atime, mtime, vers, length, opens, kids⟩ := d
  simp only [Nd.V, Nd.L, whoV] at LD BQ ⊢
  obtain ⟨mb, hmb⟩ : ∃ b, b = member T u g := ⟨_, rfl⟩
  obtain ⟨lb, hlb⟩ : ∃ b, b = leads T u gid := ⟨_, rfl⟩
  obtain ⟨lg, hlg⟩ : ∃ b, b = leads T u g := ⟨_, rfl⟩
  obtain ⟨ob, hob⟩ : ∃ b, b = decide (u = uid) := ⟨_, rfl⟩
  rw [← hlb] at LD ⊢
  rw [← hlg] at LG ⊢
  rw [← hmb] at ME ⊢
  rw [← hob] at BQ ⊢
  obtain ⟨w1, hw1⟩ : ∃ w1, w1 = ((w.alloc (.cells #[.pointer (some ⟨p, 0, none⟩), .string u] 97)).alloc (.cells #[.int .u64 path, .int .u64 parent, .string name, .int .u32 mode, .string uid, .string gid, .string muid, .int .u32 atime, .int .u32 mtime, .int .u32 vers, .int .u64 length, .int .i64 opens, .int .i64 kids] 46)) := ⟨_, rfl⟩
  have K1 : Hid (Kept [] w w1) := by rw [hw1]; exact ((Kept.refl _ _).alloc _).alloc _
  have b0 : w1.heap[w.heap.size]? = some (.cells #[.pointer (some ⟨p, 0, none⟩), .string u] 97 (0, 0)) := by rw [hw1]; exact (Below.heap_alloc _ _ _ (by simp)).trans (MapKept.heap_alloc w _).1
  have b1 : w1.heap[w.heap.size + 1]? = some (.cells #[.int .u64 path, .int .u64 parent, .string name, .int .u32 mode, .string uid, .string gid, .string muid, .int .u32 atime, .int .u32 mtime, .int .u32 vers, .int .u64 length, .int .i64 opens, .int .i64 kids] 46 (0, 0)) := by
    rw [hw1]
    have := (MapKept.heap_alloc (w.alloc (.cells #[.pointer (some ⟨p, 0, none⟩), .string u] 97)) (.cells #[.int .u64 path, .int .u64 parent, .string name, .int .u32 mode, .string uid, .string gid, .string muid, .int .u32 atime, .int .u32 mtime, .int .u32 vers, .int .u64 length, .int .i64 opens, .int .i64 kids] 46)).1
    simpa using this
  have HW1 := Lib.hid hw1
  have CW : Hid (∀ w', Kept [] w1 w' → w'.cell? ⟨w.heap.size, 0, none⟩ = some (.pointer (some ⟨p, 0, none⟩)) ∧ w'.cell? ⟨w.heap.size, 1, none⟩ = some (.string u) ∧ w'.cell? ⟨w.heap.size + 1, 5, none⟩ = some (.string gid)) := fun w' k => by
    have c0 := (k.block _ (block_lt b0) (by simp)).trans b0
    have c1 := (k.block _ (block_lt b1) (by simp)).trans b1
    refine ⟨?_, ?_, ?_⟩
    · rw [cell_of_row w' w.heap.size 0 _ _ (0, 0) c0]; rfl
    · rw [cell_of_row w' w.heap.size 1 _ _ (0, 0) c0]; rfl
    · rw [cell_of_row w' (w.heap.size + 1) 5 _ _ (0, 0) c1]; rfl
  have a4 : w1.cell? ⟨w.heap.size + 1, 4, none⟩ = some (.string uid) := by rw [cell_of_row w1 (w.heap.size + 1) 4 _ _ (0, 0) b1]; rfl
  obtain ⟨a0, a1, a5⟩ := CW.out w1 (Kept.refl _ _)
  have HV : Hid (∀ b : Bool, b = ((ob && mb) || (lb && lg)) → b = ((ob && mb) || (lb && lg))) := fun b h => h
  clear h hmb hlb hlg hob hw1 b0 b1
  cases ob <;> cases mb <;> cases lb
  all_goals
    go_enter Tryz.func120, Tryz.ntmps120
    (try rw [← HW1.out])
    go_wp2_with (first
      | (go_at_call 23; (try rw [← HW1.out]); refine (ME.out _ K1.out).mono ?_; rintro e w2 ⟨rfl, k2⟩; obtain ⟨d0, d1, d5⟩ := CW.out _ k2; have K2 := Lib.hid (K1.out.trans k2 (fun i hi => by cases hi)); have T2 := Lib.hid k2; clear k2 ME)
      | (go_at_call 24; (try rw [← HW1.out]); refine (LD.out _ K1.out).mono ?_; rintro e w2 ⟨rfl, k2⟩; obtain ⟨d0, d1, d5⟩ := CW.out _ k2; have K2 := Lib.hid (K1.out.trans k2 (fun i hi => by cases hi)); clear k2 LD)
      | (go_at_call 24; refine (LD.out _ K2.out).mono ?_; rintro e w3 ⟨rfl, k3⟩; obtain ⟨f0, f1, f5⟩ := CW.out _ (T2.out.trans k3 (fun i hi => by cases hi)); have K3 := Lib.hid (K2.out.trans k3 (fun i hi => by cases hi)); clear k3 LD)
      | (go_at_call 24; refine (LG.out _ K3.out).mono ?_; rintro e w4 ⟨rfl, k4⟩; have K4 := Lib.hid (K3.out.trans k4 (fun i hi => by cases hi)); clear k4 LG)
      | (go_at_call 24; refine (LG.out _ K2.out).mono ?_; rintro e w4 ⟨rfl, k4⟩; have K4 := Lib.hid (K2.out.trans k4 (fun i hi => by cases hi)); clear k4 LG))
    go_ret
    first | exact ⟨rfl, K4.out⟩ | exact ⟨rfl, K3.out⟩ | exact ⟨rfl, K2.out⟩
end Ru
end Go.Proofs.YteeheapenfklcaaGreatDoor
