/- RulesEmpty walked. -/
import Derived.Test.YtahjmpfjidijaaaGreatDoorGan
import Derived.Test.YtahjmpfjidijaaaGreatDoorGaq
import Derived.Test.YtahjmpfjidijaaaGreatDoorHRqr
import Derived.Test.YtahjmpfjidijaaaGreatDoorHRwx
import Derived.Test.YtahjmpfjidijaaaGreatDoorHRwz
namespace Go.Proofs.YtahjmpfjidijaaaGreatDoor
set_option linter.unusedVariables false
open Go.RowKit Go.Shelf
attribute [local go_sem] Oper.semAt_some
namespace Ru
open Go.Proofs.YtahjmpfjidijaaaGreatDoor.Utf Go.Proofs.YtahjmpfjidijaaaGreatDoor.Txt Go.PlainAid Go.Proofs.YtahjmpfjidijaaaGreatDoor.Mpf Go.Proofs.YtahjmpfjidijaaaGreatDoor.Us
set_option maxRecDepth 100000 in
theorem modes_cells {w : World} {R : Nat} {text u : ByteArray} {n p : Nd} {tk fl : Bool} {name : ByteArray} {pm mode : Int} (h : Bc w R text u n p tk fl name pm mode) : w.cell? ⟨R, 5, none⟩ = some (.int .u32 n.mode) ∧ w.cell? ⟨R, 18, none⟩ = some (.int .u32 p.mode) := by
  refine ⟨?_, ?_⟩ <;> (rw [cell_of_row w R _ _ _ (0, 0) h]; rfl)
theorem wstA_ok (x : Nd) : (wstA x).size = 13 ∧ (wstA x).all (·.oneCell') = true := ⟨rfl, by simp [wstA, Value.oneCell']⟩
theorem set_len (w : World) (R : Nat) (v : Value) (h : w.heap[R]? = some (.cells #[.int .u16 65535, .int .u32 4294967295, .int .u8 255, .int .u32 4294967295, .int .u64 18446744073709551615, .int .u32 4294967295, .int .u32 4294967295, .int .u32 4294967295, .int .u64 18446744073709551615, .string ⟨#[]⟩, .string ⟨#[]⟩, .string ⟨#[]⟩, .string ⟨#[]⟩] 60 (0, 0))) : (w.setCell ⟨R, 8, none⟩ v).heap[R]? = some (.cells #[.int .u16 65535, .int .u32 4294967295, .int .u8 255, .int .u32 4294967295, .int .u64 18446744073709551615, .int .u32 4294967295, .int .u32 4294967295, .int .u32 4294967295, v, .string ⟨#[]⟩, .string ⟨#[]⟩, .string ⟨#[]⟩, .string ⟨#[]⟩] 60 (0, 0)) := (heap_set _ h).trans rfl
theorem set_nam (w : World) (R : Nat) (v : Value) (h : w.heap[R]? = some (.cells #[.int .u16 65535, .int .u32 4294967295, .int .u8 255, .int .u32 4294967295, .int .u64 18446744073709551615, .int .u32 4294967295, .int .u32 4294967295, .int .u32 4294967295, .int .u64 18446744073709551615, .string ⟨#[]⟩, .string ⟨#[]⟩, .string ⟨#[]⟩, .string ⟨#[]⟩] 60 (0, 0))) : (w.setCell ⟨R, 9, none⟩ v).heap[R]? = some (.cells #[.int .u16 65535, .int .u32 4294967295, .int .u8 255, .int .u32 4294967295, .int .u64 18446744073709551615, .int .u32 4294967295, .int .u32 4294967295, .int .u32 4294967295, .int .u64 18446744073709551615, v, .string ⟨#[]⟩, .string ⟨#[]⟩, .string ⟨#[]⟩] 60 (0, 0)) := (heap_set _ h).trans rfl
set_option maxHeartbeats 32000000 in
set_option maxRecDepth 100000 in
theorem empty_law (w : World) (hm : Ml w) (text u : ByteArray) (n p : Nd) (tk fl : Bool) (name : ByteArray) (pm mode : Int) (ln : Nat) (h0 : text.size ≤ 140737488355328) (h1 : u.size ≤ 140737488355328) (h2 : name.size ≤ 140737488355328) (n1 : n.name.size ≤ 140737488355328) (n2 : n.uid.size ≤ 140737488355328) (n3 : n.gid.size ≤ 140737488355328) (n4 : n.muid.size ≤ 140737488355328) (p1 : p.name.size ≤ 140737488355328) (p2 : p.uid.size ≤ 140737488355328) (p3 : p.gid.size ≤ 140737488355328) (p4 : p.muid.size ≤ 140737488355328) (hln : ln ≤ 18446744073709551615) :
    Calls Tryz.prog 6 #[.agg #[.string text, .string u, .int .u64 n.path, .int .u64 n.parent, .string n.name, .int .u32 n.mode, .string n.uid, .string n.gid, .string n.muid, .int .u32 n.atime, .int .u32 n.mtime, .int .u32 n.vers, .int .u64 n.length, .int .i64 n.opens, .int .i64 n.kids, .int .u64 p.path, .int .u64 p.parent, .string p.name, .int .u32 p.mode, .string p.uid, .string p.gid, .string p.muid, .int .u32 p.atime, .int .u32 p.mtime, .int .u32 p.vers, .int .u64 p.length, .int .i64 p.opens, .int .i64 p.kids, .bool tk, .bool fl, .string name, .int .u32 pm, .int .u8 mode], .int .u64 (ln : Int)] w fun e w' => e = .returned (.bool true) ∧ Kept [] w w' := by
  obtain ⟨V, hV⟩ : ∃ V : Array Value, V = #[.string text, .string u, .int .u64 n.path, .int .u64 n.parent, .string n.name, .int .u32 n.mode, .string n.uid, .string n.gid, .string n.muid, .int .u32 n.atime, .int .u32 n.mtime, .int .u32 n.vers, .int .u64 n.length, .int .i64 n.opens, .int .i64 n.kids, .int .u64 p.path, .int .u64 p.parent, .string p.name, .int .u32 p.mode, .string p.uid, .string p.gid, .string p.muid, .int .u32 p.atime, .int .u32 p.mtime, .int .u32 p.vers, .int .u64 p.length, .int .i64 p.opens, .int .i64 p.kids, .bool tk, .bool fl, .string name, .int .u32 pm, .int .u8 mode] := ⟨_, rfl⟩
  have HVS : Hid (V.size = 33) := by rw [hV]; rfl
  rw [← hV]
  have MUC : Hid (∀ w, Calls Tryz.prog 20 #[.agg V] w fun e w' => e = .returned (.int .i64 (weightC text u n p name)) ∧ Kept [] w w') := fun w => by rw [hV]; exact much_any w text u n p tk fl name pm mode h0 h1 h2 n1 n2 n3 n4 p1 p2 p3 p4
  obtain ⟨wt, hwt⟩ : ∃ wt, wt = weightC text u n p name := ⟨_, rfl⟩
  rw [← hwt] at MUC
  have B0 : Hid ((w.alloc (.cells V 55)).heap[w.heap.size]? = some (.cells V 55 (0, 0))) := (MapKept.heap_alloc w _).1
  obtain ⟨w1, hw1⟩ : ∃ w1, w1 = w.alloc (.cells V 55) := ⟨_, rfl⟩
  obtain ⟨R, hR⟩ : ∃ R, R = w.heap.size := ⟨_, rfl⟩
  have K1 : Hid (Kept [] w w1) := by rw [hw1]; exact (Kept.refl _ _).alloc _
  have C1 : Hid (Bc w1 R text u n p tk fl name pm mode) := by
    have := B0.out
    rw [← hw1, ← hR, hV] at this
    exact this
  have NRW : Hid (w.heap.size ≤ R) := by show _ ≤ _; omega
  have HW1 := Lib.hid hw1
  have HR := Lib.hid hR
  have KNO := Lib.hid (fun w' (k : Kept [] w w') => known_any w' (ml_kept hm k))
  have TAB := Lib.hid (fun w' (k : Kept [] w w') => table_any w' text (ml_kept hm k) h0)
  have TL := tableT_len text
  obtain ⟨T, hT⟩ : ∃ T, T = tableT text := ⟨_, rfl⟩
  rw [← hT] at TAB TL
  have TL2 : T.length ≤ 1048576 := by omega
  clear hT hw1 hR hm hV TL
  by_cases hbig : 8388608 < wt
  · have hb : (8388608 : Int) < (wt : Int) := by omega
    clear hbig hwt h0 h1 h2 n1 n2 n3 n4 p1 p2 p3 p4
    go_enter Tryz.func6, Tryz.ntmps6
    go_wp2_with (first | (refine wpList_cmid (by rfl) (.tmp 2) rfl w.heap.size rfl V B0.out HVS.out ?_) | (go_at_call 20; rw [← HW1.out, ← HR.out]; refine (MUC.out _).mono ?_; rintro e w2 ⟨rfl, k2⟩))
    go_ret
    exact ⟨rfl, K1.out.trans k2 (fun i hi => by cases hi)⟩
  · have hb : ¬ (8388608 : Int) < (wt : Int) := by omega
    have small : ∀ s : ByteArray, s.size ≤ wt → s.size ≤ maxLen := fun s h => by unfold maxLen; omega
    have su : u.size ≤ maxLen := small u (by rw [hwt]; unfold weightC; omega)
    have sg : n.gid.size ≤ maxLen := small n.gid (by rw [hwt]; unfold weightC; omega)
    have sp : p.gid.size ≤ maxLen := small p.gid (by rw [hwt]; unfold weightC; omega)
    clear hbig hwt small h0 h1 n1 n2 n3 n4 p1 p2 p3 p4
    have e0s : ((⟨#[]⟩ : ByteArray)).size ≤ maxLen := by decide
    obtain ⟨F28, hF28⟩ : ∃ F : List Value, F = [.int .u64 n.path, .int .u64 n.parent, .string n.name, .int .u32 (bareM n.mode : Nat), .string n.uid, .string n.gid, .string n.muid, .int .u32 n.atime, .int .u32 n.mtime, .int .u32 n.vers, .int .u64 n.length, .int .i64 n.opens, .int .i64 n.kids, .int .u64 p.path, .int .u64 p.parent, .string p.name, .int .u32 (bareM p.mode : Nat), .string p.uid, .string p.gid, .string p.muid, .int .u32 p.atime, .int .u32 p.mtime, .int .u32 p.vers, .int .u64 p.length, .int .i64 p.opens, .int .i64 p.kids, .bool tk, .bool fl] := ⟨_, rfl⟩
    have HL : Hid (F28.length = 28) := by rw [hF28]; rfl
    have hFV : factsV n.bare p.bare tk fl = .agg F28.toArray := by rw [hF28]; rfl
    have FR : Hid (∀ wr, Bc wr R text u n.bare p.bare tk fl name pm mode → wr.rangeAt R 2 F28) := fun wr b => by rw [hF28]; exact b.facts
    have CRE0 := fun w' B q (h : Tb w' B q T) => Create_any h u n.bare p.bare tk fl name pm mode su sg h2
    have hN : createA T u n.bare tk fl name pm mode = #[.int .u64 0, .int .u64 0, .string ⟨#[]⟩, .int .u32 0, .string ⟨#[]⟩, .string ⟨#[]⟩, .string ⟨#[]⟩, .int .u32 0, .int .u32 0, .int .u32 0, .int .u64 0, .int .i64 0, .int .i64 0] := by unfold createA; rw [if_neg (bare_make T u n tk fl name pm mode)]
    rw [hN] at CRE0
    have OPE0 := fun w' B q (h : Tb w' B q T) => Open_any h u n.bare p.bare tk fl mode su sg sp
    have REM0 := fun w' B q (h : Tb w' B q T) => Remove_any h u n.bare p.bare tk fl su sp
    have CLO0 := fun w' B q (h : Tb w' B q T) => Closes_any h u n.bare p.bare tk fl su sp
    have WSL0 := fun w' B q (h : Tb w' B q T) => Wstat_any h TL2 u n.bare p.bare tk fl { keepW with ln := ln } su sg sp (show (0 : Nat) ≤ 140737488355328 by decide) e0s (bare_lt n.mode)
    have WSN0 := fun w' B q (h : Tb w' B q T) => Wstat_any h TL2 u n.bare p.bare tk fl { keepW with nm := name } su sg sp h2 e0s (bare_lt n.mode)
    have mk := bare_make T u n tk fl name pm mode
    have ok := bare_open T u n p.bare mode
    have rk := bare_remove T u n.bare p
    have sk := bare_step T u n
    have STE0 := fun w' B q (h : Tb w' B q T) => Step_any h u n.bare su sg
    have RIG0 := fun w' B q (h : Tb w' B q T) => rights_t h u n.bare su sg
    rw [bare_rights] at RIG0
    have REC0 := fun w' => Record_any w' n.bare (bare_lt n.mode)
    have bl := bare_len T u n p.bare tk ln
    have bn := bare_name T u n.bare p tk name
    obtain ⟨e1, he1⟩ : ∃ z, z = makeE T u n.bare tk fl name pm mode := ⟨_, rfl⟩
    obtain ⟨o1, ho1⟩ : ∃ z, z = openE T u n.bare p.bare mode := ⟨_, rfl⟩
    obtain ⟨r1, hr1⟩ : ∃ z, z = removeE T u n.bare p.bare := ⟨_, rfl⟩
    obtain ⟨s1, hs1⟩ : ∃ z, z = stepE T u n.bare := ⟨_, rfl⟩
    obtain ⟨e2, he2⟩ : ∃ z, z = wstE T u n.bare p.bare tk { keepW with ln := ln } := ⟨_, rfl⟩
    obtain ⟨e3, he3⟩ : ∃ z, z = wstE T u n.bare p.bare tk { keepW with nm := name } := ⟨_, rfl⟩
    obtain ⟨A2, hA2⟩ : ∃ z, z = wstA (wstN T u n.bare p.bare tk { keepW with ln := ln }) := ⟨_, rfl⟩
    obtain ⟨A3, hA3⟩ : ∃ z, z = wstA (wstN T u n.bare p.bare tk { keepW with nm := name }) := ⟨_, rfl⟩
    obtain ⟨rl, hrl⟩ : ∃ z, z = recLen n.bare := ⟨_, rfl⟩
    have M2 : Hid (A2.size = 13 ∧ A2.all (·.oneCell') = true) := by rw [hA2]; exact wstA_ok _
    have M3 : Hid (A3.size = 13 ∧ A3.all (·.oneCell') = true) := by rw [hA3]; exact wstA_ok _
    rw [← he1] at CRE0 mk
    rw [← ho1] at OPE0 ok
    rw [← hr1] at REM0 CLO0 rk
    rw [← hs1] at STE0 sk
    rw [← he2, ← hrl] at bl
    rw [← he2, ← hA2] at WSL0
    rw [← he3] at bn
    rw [← he3, ← hA3] at WSN0
    rw [hFV] at OPE0 REM0
    have hFA : (Value.agg #[.int .u64 n.path, .int .u64 n.parent, .string n.name, .int .u32 (bareM n.mode : Nat), .string n.uid, .string n.gid, .string n.muid, .int .u32 n.atime, .int .u32 n.mtime, .int .u32 n.vers, .int .u64 n.length, .int .i64 n.opens, .int .i64 n.kids, .int .u64 p.path, .int .u64 p.parent, .string p.name, .int .u32 (bareM p.mode : Nat), .string p.uid, .string p.gid, .string p.muid, .int .u32 p.atime, .int .u32 p.mtime, .int .u32 p.vers, .int .u64 p.length, .int .i64 p.opens, .int .i64 p.kids, .bool tk, .bool fl]) = .agg F28.toArray := hFV
    have hbn : bits .andNot .u32 (n.mode : Int) 511 = (bareM n.mode : Int) := bare_cast n.mode
    have hbp : bits .andNot .u32 (p.mode : Int) 511 = (bareM p.mode : Int) := bare_cast p.mode
    have CRE : Hid (∀ w', ∀ {B q : Nat}, Tb w' B q T → Calls Tryz.prog 26 #[.pointer (some ⟨q, 0, none⟩), .string u, .agg F28.toArray, .string name, .int .u32 pm, .int .u8 mode] w' fun e w'' => e = .returned (.tuple #[.agg #[.int .u64 0, .int .u64 0, .string ⟨#[]⟩, .int .u32 0, .string ⟨#[]⟩, .string ⟨#[]⟩, .string ⟨#[]⟩, .int .u32 0, .int .u32 0, .int .u32 0, .int .u64 0, .int .i64 0, .int .i64 0], .int .i64 e1]) ∧ Kept [] w' w'') := fun w' B q h => by rw [← hFA]; exact CRE0 w' B q h
    have OPE : Hid (∀ w', ∀ {B q : Nat}, Tb w' B q T → Calls Tryz.prog 27 #[.pointer (some ⟨q, 0, none⟩), .string u, .agg F28.toArray, .int .u8 mode] w' fun e w'' => e = .returned (.int .i64 o1) ∧ Kept [] w' w'') := fun w' B q h => OPE0 w' B q h
    have REM : Hid (∀ w', ∀ {B q : Nat}, Tb w' B q T → Calls Tryz.prog 28 #[.pointer (some ⟨q, 0, none⟩), .string u, .agg F28.toArray] w' fun e w'' => e = .returned (.int .i64 r1) ∧ Kept [] w' w'') := fun w' B q h => REM0 w' B q h
    have CLO : Hid (∀ w', ∀ {B q : Nat}, Tb w' B q T → Calls Tryz.prog 31 #[.pointer (some ⟨q, 0, none⟩), .string u, .agg F28.toArray] w' fun e w'' => e = .returned (.bool (r1 == 0)) ∧ Kept [] w' w'') := fun w' B q h => by have := CLO0 w' B q h; rw [hFV] at this; exact this
    have WSL : Hid (∀ w', ∀ {B q : Nat}, Tb w' B q T → Calls Tryz.prog 23 #[.pointer (some ⟨q, 0, none⟩), .string u, .agg F28.toArray, .agg #[.int .u16 65535, .int .u32 4294967295, .int .u8 255, .int .u32 4294967295, .int .u64 18446744073709551615, .int .u32 4294967295, .int .u32 4294967295, .int .u32 4294967295, .int .u64 ln, .string ⟨#[]⟩, .string ⟨#[]⟩, .string ⟨#[]⟩, .string ⟨#[]⟩]] w' fun e w'' => e = .returned (.tuple #[.agg A2, .int .i64 e2]) ∧ Kept [] w' w'') := fun w' B q h => by rw [← hFA]; exact WSL0 w' B q h
    have WSN : Hid (∀ w', ∀ {B q : Nat}, Tb w' B q T → Calls Tryz.prog 23 #[.pointer (some ⟨q, 0, none⟩), .string u, .agg F28.toArray, .agg #[.int .u16 65535, .int .u32 4294967295, .int .u8 255, .int .u32 4294967295, .int .u64 18446744073709551615, .int .u32 4294967295, .int .u32 4294967295, .int .u32 4294967295, .int .u64 18446744073709551615, .string name, .string ⟨#[]⟩, .string ⟨#[]⟩, .string ⟨#[]⟩]] w' fun e w'' => e = .returned (.tuple #[.agg A3, .int .i64 e3]) ∧ Kept [] w' w'') := fun w' B q h => by rw [← hFA]; exact WSN0 w' B q h
    obtain ⟨nb, hnb⟩ : ∃ x : Nat, x = bareM n.mode := ⟨_, rfl⟩
    obtain ⟨pb, hpb⟩ : ∃ x : Nat, x = bareM p.mode := ⟨_, rfl⟩
    have BCB : Hid (∀ wr, Bc wr R text u { n with mode := nb } { p with mode := pb } tk fl name pm mode → Bc wr R text u n.bare p.bare tk fl name pm mode) := fun wr b => by rw [hnb, hpb] at b; exact b
    have STE : Hid (∀ w', ∀ {B q : Nat}, Tb w' B q T → Calls Tryz.prog 29 #[.pointer (some ⟨q, 0, none⟩), .string u, .agg #[.int .u64 n.path, .int .u64 n.parent, .string n.name, .int .u32 nb, .string n.uid, .string n.gid, .string n.muid, .int .u32 n.atime, .int .u32 n.mtime, .int .u32 n.vers, .int .u64 n.length, .int .i64 n.opens, .int .i64 n.kids]] w' fun e w'' => e = .returned (.int .i64 s1) ∧ Kept [] w' w'') := fun w' B q h => by rw [hnb]; exact STE0 w' B q h
    have RIG : Hid (∀ w', ∀ {B q : Nat}, Tb w' B q T → Calls Tryz.prog 30 #[.pointer (some ⟨q, 0, none⟩), .string u, .agg #[.int .u64 n.path, .int .u64 n.parent, .string n.name, .int .u32 nb, .string n.uid, .string n.gid, .string n.muid, .int .u32 n.atime, .int .u32 n.mtime, .int .u32 n.vers, .int .u64 n.length, .int .i64 n.opens, .int .i64 n.kids]] w' fun e w'' => e = .returned (.int .u8 0) ∧ Kept [] w' w'') := fun w' B q h => by rw [hnb]; exact RIG0 w' B q h
    have REC : Hid (∀ w', Calls Tryz.prog 32 #[.agg #[.int .u64 n.path, .int .u64 n.parent, .string n.name, .int .u32 nb, .string n.uid, .string n.gid, .string n.muid, .int .u32 n.atime, .int .u32 n.mtime, .int .u32 n.vers, .int .u64 n.length, .int .i64 n.opens, .int .i64 n.kids]] w' fun e w'' => e = .returned (.agg #[.int .u16 0, .int .u32 0, .int .u8 ((nb : Int) / 16777216), .int .u32 n.vers, .int .u64 n.path, .int .u32 nb, .int .u32 n.atime, .int .u32 n.mtime, .int .u64 rl, .string n.name, .string n.uid, .string n.gid, .string n.muid]) ∧ Kept [] w' w'') := fun w' => by rw [hnb, hrl]; exact REC0 w'
    have KEE : Hid (∀ w', Calls Tryz.prog 33 #[] w' fun e w'' => e = .returned (.agg #[.int .u16 65535, .int .u32 4294967295, .int .u8 255, .int .u32 4294967295, .int .u64 18446744073709551615, .int .u32 4294967295, .int .u32 4294967295, .int .u32 4294967295, .int .u64 18446744073709551615, .string ⟨#[]⟩, .string ⟨#[]⟩, .string ⟨#[]⟩, .string ⟨#[]⟩]) ∧ Kept [] w' w'') := fun w' => Stt.keep_any w'
    rw [← hnb] at hbn
    rw [← hpb] at hbp
    have HBN := Lib.hid hbn
    have HBP := Lib.hid hbp
    have BL := Lib.hid bl
    have BN := Lib.hid bn
    have m1 : (e1 == 0) = false := by simpa using mk
    have o2 : (o1 == 0) = false := by simpa using ok
    have r2 : (r1 == 0) = false := by simpa using rk
    have s2 : (s1 == 0) = false := by simpa using sk
    clear CRE0 OPE0 REM0 CLO0 WSL0 WSN0 STE0 RIG0 REC0 hF28 hFV hFA hN he1 ho1 hr1 hs1 he2 he3 hA2 hA3 hrl hnb hpb mk ok rk sk bl bn su sg sp h2 e0s TL2 hbn hbp hln
    go_enter Tryz.func6, Tryz.ntmps6
    go_upto_region 7 with (first | (refine wpList_cmid (by rfl) (.tmp 2) rfl w.heap.size rfl V B0.out HVS.out ?_) | (go_at_call 20; rw [← HW1.out, ← HR.out]; refine (MUC.out _).mono ?_; rintro e w2 ⟨rfl, k2⟩; have K2 : Hid (Kept [] w w2) := K1.out.trans k2 (fun i hi => by cases hi); have C2 := Lib.hid (C1.out.kept k2 (by simp)); obtain ⟨x0, x1, x30, x31, x32⟩ := C2.out.five; clear k2) | (go_at_call 21; refine (KNO.out _ K2.out).mono ?_; rintro e w3 ⟨rfl, k3⟩; clear x0 x1 x30 x31 x32; have K3 : Hid (Kept [] w w3) := K2.out.trans k3 (fun i hi => by cases hi); have C3 := Lib.hid (C2.out.kept k3 (by simp)); obtain ⟨x0, x1, x30, x31, x32⟩ := C3.out.five; clear k3) | (go_at_call 25; refine (TAB.out _ K3.out).mono ?_; rintro e w4 ⟨B, q, rfl, t4, k4⟩; clear x0 x1 x30 x31 x32; have K4 : Hid (Kept [] w w4) := K3.out.trans k4 (fun i hi => by cases hi); have C4 := Lib.hid (C3.out.kept k4 (by simp)); obtain ⟨x0, x1, x30, x31, x32⟩ := C4.out.five; have T4 := Lib.hid t4; clear k4 t4))
    have hbn := HBN.out
    have hbp := HBP.out
    obtain ⟨y5, y18⟩ := (modes_cells C4.out)
    have z5 := frozen_of_row w4 R 5 _ _ C4.out
    have z18 := frozen_of_row w4 R 18 _ _ C4.out
    go_upto_region 9 with fail
    obtain ⟨w5, hw5⟩ : ∃ w5, w5 = (w4.setCell ⟨R, 5, none⟩ (.int .u32 nb)).setCell ⟨R, 18, none⟩ (.int .u32 pb) := ⟨_, rfl⟩
    rw [← hw5]
    have k5 : Kept [R] w4 w5 := by rw [hw5]; exact ((Kept.refl [R] w4).setCell (Or.inl (by simp)) _).setCell (Or.inl (by simp)) _
    have C5 : Hid (Bc w5 R text u { n with mode := nb } { p with mode := pb } tk fl name pm mode) := by rw [hw5]; exact C4.out.modes_set nb pb
    have K5 : Hid (Kept [] w w5) := K4.out.trans k5 (fun i hi => Or.inr (by rw [List.mem_singleton] at hi; subst hi; exact NRW.out))
    have T5 := Lib.hid (Tb.keptC T4.out k5 C4.out)
    clear x0 x1 x30 x31 x32 y5 y18 z5 z18 hbn hbp hw5 k5 HBN HBP
    obtain ⟨x0, x1, x30, x31, x32⟩ := C5.out.five
    go_upto_region 10 with (first | (refine wpList_fmid (by rfl) (.tmp 48) rfl R 2 rfl F28 (FR.out _ (BCB.out _ C5.out)) HL.out ?_) | (go_at_call 26; refine (CRE.out _ T5.out).mono ?_; rintro e w6 ⟨rfl, k6⟩; clear x0 x1 x30 x31 x32; have K6 : Hid (Kept [] w w6) := K5.out.trans k6 (fun i hi => by cases hi); have C6 := Lib.hid (C5.out.kept k6 (by simp)); obtain ⟨x0, x1, x30, x31, x32⟩ := C6.out.five; have T6 := Lib.hid (T5.out.kept k6); clear k6) | (refine wpList_srow8 rfl (.tmp 7) (.tmp 57) rfl w6.heap.size rfl _ #[.int .u64 0, .int .u64 0, .string ⟨#[]⟩, .int .u32 0, .string ⟨#[]⟩, .string ⟨#[]⟩, .string ⟨#[]⟩, .int .u32 0, .int .u32 0, .int .u32 0, .int .u64 0, .int .i64 0, .int .i64 0] rfl (MapKept.heap_alloc w6 _).1 rfl rfl (by simp [Value.oneCell']) ?_; intro w7 b7 k7; have k67 : Kept [] w6 w7 := ((Kept.refl [] w6).alloc _).trans k7 (fun i hi => Or.inr (by have h1 := List.mem_singleton.1 hi; omega)); have K7 : Hid (Kept [] w w7) := K6.out.trans k67 (fun i hi => by cases hi); have C7 := Lib.hid (C6.out.kept k67 (by simp)); have T7 := Lib.hid (T6.out.kept k67); clear x0 x1 x30 x31 x32; obtain ⟨x0, x1, x30, x31, x32⟩ := C7.out.five; clear k67 b7 k7))
    go_upto_region 12 with (first | (refine wpList_fmid (by rfl) (.tmp 62) rfl R 2 rfl F28 (FR.out _ (BCB.out _ C7.out)) HL.out ?_) | (go_at_call 27; refine (OPE.out _ T7.out).mono ?_; rintro e w8 ⟨rfl, k8⟩; clear x0 x1 x30 x31 x32; have K8 : Hid (Kept [] w w8) := K7.out.trans k8 (fun i hi => by cases hi); have C8 := Lib.hid (C7.out.kept k8 (by simp)); obtain ⟨x0, x1, x30, x31, x32⟩ := C8.out.five; have T8 := Lib.hid (T7.out.kept k8); clear k8) | (refine wpList_fmid (by rfl) (.tmp 76) rfl R 2 rfl F28 (FR.out _ (BCB.out _ C8.out)) HL.out ?_) | (go_at_call 28; refine (REM.out _ T8.out).mono ?_; rintro e w9 ⟨rfl, k9⟩; clear x0 x1 x30 x31 x32; have K9 : Hid (Kept [] w w9) := K8.out.trans k9 (fun i hi => by cases hi); have C9 := Lib.hid (C8.out.kept k9 (by simp)); obtain ⟨x0, x1, x30, x31, x32⟩ := C9.out.five; have T9 := Lib.hid (T8.out.kept k9); clear k9) | (refine wpList_nmid (by rfl) (.tmp 86) rfl R 2 rfl [.int .u64 n.path, .int .u64 n.parent, .string n.name, .int .u32 nb, .string n.uid, .string n.gid, .string n.muid, .int .u32 n.atime, .int .u32 n.mtime, .int .u32 n.vers, .int .u64 n.length, .int .i64 n.opens, .int .i64 n.kids] C9.out.node rfl ?_) | (go_at_call 29; refine (STE.out _ T9.out).mono ?_; rintro e w10 ⟨rfl, k10⟩; clear x0 x1 x30 x31 x32; have K10 : Hid (Kept [] w w10) := K9.out.trans k10 (fun i hi => by cases hi); have C10 := Lib.hid (C9.out.kept k10 (by simp)); obtain ⟨x0, x1, x30, x31, x32⟩ := C10.out.five; have T10 := Lib.hid (T9.out.kept k10); clear k10))
    go_upto_region 14 with (first | (refine wpList_nmid (by rfl) (.tmp 95) rfl R 2 rfl [.int .u64 n.path, .int .u64 n.parent, .string n.name, .int .u32 nb, .string n.uid, .string n.gid, .string n.muid, .int .u32 n.atime, .int .u32 n.mtime, .int .u32 n.vers, .int .u64 n.length, .int .i64 n.opens, .int .i64 n.kids] C10.out.node rfl ?_) | (go_at_call 30; refine (RIG.out _ T10.out).mono ?_; rintro e w11 ⟨rfl, k11⟩; clear x0 x1 x30 x31 x32; have K11 : Hid (Kept [] w w11) := K10.out.trans k11 (fun i hi => by cases hi); have C11 := Lib.hid (C10.out.kept k11 (by simp)); obtain ⟨x0, x1, x30, x31, x32⟩ := C11.out.five; have T11 := Lib.hid (T10.out.kept k11); clear k11) | (refine wpList_fmid (by rfl) (.tmp 103) rfl R 2 rfl F28 (FR.out _ (BCB.out _ C11.out)) HL.out ?_) | (go_at_call 31; refine (CLO.out _ T11.out).mono ?_; rintro e w12 ⟨rfl, k12⟩; clear x0 x1 x30 x31 x32; have K12 : Hid (Kept [] w w12) := K11.out.trans k12 (fun i hi => by cases hi); have C12 := Lib.hid (C11.out.kept k12 (by simp)); obtain ⟨x0, x1, x30, x31, x32⟩ := C12.out.five; have T12 := Lib.hid (T11.out.kept k12); clear k12))
    go_upto_region 15 with (first | (refine wpList_nmid (by rfl) (.tmp 108) rfl R 2 rfl [.int .u64 n.path, .int .u64 n.parent, .string n.name, .int .u32 nb, .string n.uid, .string n.gid, .string n.muid, .int .u32 n.atime, .int .u32 n.mtime, .int .u32 n.vers, .int .u64 n.length, .int .i64 n.opens, .int .i64 n.kids] C12.out.node rfl ?_) | (go_at_call 32; refine (REC.out _).mono ?_; rintro e w13 ⟨rfl, k13⟩; clear x0 x1 x30 x31 x32; have K13 : Hid (Kept [] w w13) := K12.out.trans k13 (fun i hi => by cases hi); have C13 := Lib.hid (C12.out.kept k13 (by simp)); obtain ⟨x0, x1, x30, x31, x32⟩ := C13.out.five; have T13 := Lib.hid (T12.out.kept k13); clear k13) | (refine wpList_sstat rfl (.tmp 9) (.tmp 110) rfl w13.heap.size rfl _ #[.int .u16 0, .int .u32 0, .int .u8 ((nb : Int) / 16777216), .int .u32 n.vers, .int .u64 n.path, .int .u32 nb, .int .u32 n.atime, .int .u32 n.mtime, .int .u64 rl, .string n.name, .string n.uid, .string n.gid, .string n.muid] rfl (MapKept.heap_alloc w13 _).1 rfl rfl (by simp [Value.oneCell']) ?_; intro w14 b14 k14; have k134 : Kept [] w13 w14 := ((Kept.refl [] w13).alloc _).trans k14 (fun i hi => Or.inr (by have h1 := List.mem_singleton.1 hi; omega)); have K14 : Hid (Kept [] w w14) := K13.out.trans k134 (fun i hi => by cases hi); have C14 := Lib.hid (C13.out.kept k134 (by simp)); have T14 := Lib.hid (T13.out.kept k134); have B14 := Lib.hid b14; clear x0 x1 x30 x31 x32; clear k134 b14 k14))
    have FAC : Hid (∀ w', Kept [] w14 w' → w'.rangeAt R 2 F28 ∧ Tb w' B q T ∧ w'.heap[w13.heap.size]? = some (.cells #[.int .u16 0, .int .u32 0, .int .u8 ((nb : Int) / 16777216), .int .u32 n.vers, .int .u64 n.path, .int .u32 nb, .int .u32 n.atime, .int .u32 n.mtime, .int .u64 rl, .string n.name, .string n.uid, .string n.gid, .string n.muid] 60 (0, 0)) ∧ w'.cell? ⟨R, 1, none⟩ = some (.string u) ∧ w'.cell? ⟨R, 30, none⟩ = some (.string name)) := fun w' k => by
      have c := C14.out.kept k (by simp)
      exact ⟨FR.out _ (BCB.out _ c), T14.out.kept k, (k.block _ (block_lt B14.out) (by simp)).trans B14.out, c.five.2.1, c.five.2.2.1⟩
    have Z14 : Hid (w13.heap.size < w14.heap.size) := block_lt B14.out
    clear C5 C6 C7 C8 C9 C10 C11 C12 C13 T5 T6 T7 T8 T9 T10 T11 T12 T13
    go_upto_region 16 with (first | (go_at_call 33; refine (KEE.out _).mono ?_; rintro e w15 ⟨rfl, k15⟩; have L15 := Lib.hid k15; clear k15) | (refine wpList_sstat rfl (.tmp 10) (.tmp 111) rfl w15.heap.size rfl _ #[.int .u16 65535, .int .u32 4294967295, .int .u8 255, .int .u32 4294967295, .int .u64 18446744073709551615, .int .u32 4294967295, .int .u32 4294967295, .int .u32 4294967295, .int .u64 18446744073709551615, .string ⟨#[]⟩, .string ⟨#[]⟩, .string ⟨#[]⟩, .string ⟨#[]⟩] rfl (MapKept.heap_alloc w15 _).1 rfl rfl (by simp [Value.oneCell']) ?_; intro w16 b16 k16; have L16 : Hid (Kept [] w14 w16) := L15.out.trans (((Kept.refl [] w15).alloc _).trans k16 (fun i hi => Or.inr (by have h1 := List.mem_singleton.1 hi; omega))) (fun i hi => by cases hi); have B16 := Lib.hid b16; clear k16 b16))
    obtain ⟨-, -, -, -, -, -, -, -, q8, -, -, -, -⟩ := stat_cells B16.out
    have f8 := frozen_of_row w16 w15.heap.size 8 _ _ B16.out
    go_upto_region 17 with fail
    obtain ⟨w17, hw17⟩ : ∃ w17, w17 = w16.setCell ⟨w15.heap.size, 8, none⟩ (.int .u64 (ln : Int)) := ⟨_, rfl⟩
    rw [← hw17]
    have B17 : Hid (w17.heap[w15.heap.size]? = some (.cells #[.int .u16 65535, .int .u32 4294967295, .int .u8 255, .int .u32 4294967295, .int .u64 18446744073709551615, .int .u32 4294967295, .int .u32 4294967295, .int .u32 4294967295, .int .u64 ln, .string ⟨#[]⟩, .string ⟨#[]⟩, .string ⟨#[]⟩, .string ⟨#[]⟩] 60 (0, 0))) := by rw [hw17]; exact set_len _ _ _ B16.out
    have L17 : Hid (Kept [] w14 w17) := by rw [hw17]; exact L16.out.trans ((Kept.refl [w15.heap.size] w16).setCell (Or.inl (by simp)) _) (fun i hi => Or.inr (by have h1 := List.mem_singleton.1 hi; have := L15.out.size; omega))
    clear hw17 q8 f8
    obtain ⟨-, -, -, x1, x30⟩ := FAC.out _ L17.out
    go_upto_region 18 with (first | (refine wpList_fmid (by rfl) (.tmp 118) rfl R 2 rfl F28 (FAC.out _ L17.out).1 HL.out ?_) | (refine wpList_lstat rfl (.tmp 10) rfl w15.heap.size _ rfl B17.out rfl ?_) | (go_at_call 23; refine (WSL.out _ (FAC.out _ L17.out).2.1).mono ?_; rintro e w18 ⟨rfl, k18⟩; have L18 : Hid (Kept [] w14 w18) := L17.out.trans k18 (fun i hi => by cases hi); have B18 : Hid (w18.heap[w15.heap.size]? = some (.cells #[.int .u16 65535, .int .u32 4294967295, .int .u8 255, .int .u32 4294967295, .int .u64 18446744073709551615, .int .u32 4294967295, .int .u32 4294967295, .int .u32 4294967295, .int .u64 ln, .string ⟨#[]⟩, .string ⟨#[]⟩, .string ⟨#[]⟩, .string ⟨#[]⟩] 60 (0, 0))) := (k18.block _ (block_lt B17.out) (by simp)).trans B17.out; clear k18 WSL) | (refine wpList_srow8 rfl (.tmp 11) (.tmp 122) rfl w18.heap.size rfl _ A2 rfl (MapKept.heap_alloc w18 _).1 rfl M2.out.1 M2.out.2 ?_; intro w19 b19 k19; have k189 : Kept [] w18 w19 := ((Kept.refl [] w18).alloc _).trans k19 (fun i hi => Or.inr (by have h1 := List.mem_singleton.1 hi; omega)); have L19 : Hid (Kept [] w14 w19) := L18.out.trans k189 (fun i hi => by cases hi); have B19 : Hid (w19.heap[w15.heap.size]? = some (.cells #[.int .u16 65535, .int .u32 4294967295, .int .u8 255, .int .u32 4294967295, .int .u64 18446744073709551615, .int .u32 4294967295, .int .u32 4294967295, .int .u32 4294967295, .int .u64 ln, .string ⟨#[]⟩, .string ⟨#[]⟩, .string ⟨#[]⟩, .string ⟨#[]⟩] 60 (0, 0))) := (k189.block _ (block_lt B18.out) (by simp)).trans B18.out; clear k19 b19 k189))
    clear x1 x30
    go_cut [134] from 124 to 133 (fun sc wx => sc = .bool false ∧ w19 = wx)
    case first =>
      obtain ⟨-, -, bo, -, -⟩ := FAC.out _ L19.out
      obtain ⟨-, -, -, -, -, -, -, -, q8, -, -, -, -⟩ := stat_cells bo
      by_cases h1 : ln = 18446744073709551615
      · have he : e2 = 0 := BL.out.2 (Or.inl h1)
        subst he
        subst h1
        clear BL BN bo
        go_wp2_with fail
        go_meet
        exact ⟨rfl, rfl⟩
      · have b1 : ((ln : Int) == 18446744073709551615) = false := by simp; omega
        by_cases h2 : (ln : Int) = rl
        · have he : e2 = 0 := BL.out.2 (Or.inr h2)
          have b2 : ((ln : Int) == rl) = true := by simpa using h2
          subst he
          clear h1 h2 BL BN bo
          go_wp2_with fail
          go_meet
          exact ⟨rfl, rfl⟩
        · have he : e2 ≠ 0 := fun h => by
            rcases BL.out.1 h with h | h
            · exact h1 h
            · exact h2 h
          have b0 : (e2 == 0) = false := by simpa using he
          have b2 : ((ln : Int) == rl) = false := by simpa using h2
          clear h1 h2 he BL BN bo
          go_wp2_with fail
          go_meet
          exact ⟨rfl, rfl⟩
    case rest =>
      obtain ⟨rfl, hw⟩ := hcut
      subst hw
      go_upto_region 21 with (first | (go_at_call 33; refine (KEE.out _).mono ?_; rintro e w20 ⟨rfl, k20⟩; have L20 : Hid (Kept [] w14 w20) := L19.out.trans k20 (fun i hi => by cases hi); have B20 : Hid (w20.heap[w15.heap.size]? = some (.cells #[.int .u16 65535, .int .u32 4294967295, .int .u8 255, .int .u32 4294967295, .int .u64 18446744073709551615, .int .u32 4294967295, .int .u32 4294967295, .int .u32 4294967295, .int .u64 ln, .string ⟨#[]⟩, .string ⟨#[]⟩, .string ⟨#[]⟩, .string ⟨#[]⟩] 60 (0, 0))) := (k20.block _ (block_lt B19.out) (by simp)).trans B19.out; clear k20) | (refine wpList_sstat rfl (.tmp 10) (.tmp 135) rfl w15.heap.size rfl _ #[.int .u16 65535, .int .u32 4294967295, .int .u8 255, .int .u32 4294967295, .int .u64 18446744073709551615, .int .u32 4294967295, .int .u32 4294967295, .int .u32 4294967295, .int .u64 18446744073709551615, .string ⟨#[]⟩, .string ⟨#[]⟩, .string ⟨#[]⟩, .string ⟨#[]⟩] rfl B20.out rfl rfl (by simp [Value.oneCell']) ?_; intro w21 b21 k21; have L21 : Hid (Kept [] w14 w21) := L20.out.trans k21 (fun i hi => Or.inr (by have h1 := List.mem_singleton.1 hi; have := L15.out.size; omega)); have B21 := Lib.hid b21; clear k21 b21))
      obtain ⟨-, -, -, -, -, -, -, -, -, q9, -, -, -⟩ := stat_cells B21.out
      have f9 := frozen_of_row w21 w15.heap.size 9 _ _ B21.out
      obtain ⟨-, -, -, x1, x30⟩ := FAC.out _ L21.out
      go_upto_region 22 with fail
      obtain ⟨w22, hw22⟩ : ∃ w22, w22 = w21.setCell ⟨w15.heap.size, 9, none⟩ (.string name) := ⟨_, rfl⟩
      rw [← hw22]
      have B22 : Hid (w22.heap[w15.heap.size]? = some (.cells #[.int .u16 65535, .int .u32 4294967295, .int .u8 255, .int .u32 4294967295, .int .u64 18446744073709551615, .int .u32 4294967295, .int .u32 4294967295, .int .u32 4294967295, .int .u64 18446744073709551615, .string name, .string ⟨#[]⟩, .string ⟨#[]⟩, .string ⟨#[]⟩] 60 (0, 0))) := by rw [hw22]; exact set_nam _ _ _ B21.out
      have L22 : Hid (Kept [] w14 w22) := by rw [hw22]; exact L21.out.trans ((Kept.refl [w15.heap.size] w21).setCell (Or.inl (by simp)) _) (fun i hi => Or.inr (by have h1 := List.mem_singleton.1 hi; have := L15.out.size; omega))
      clear hw22 q9 f9 x1 x30
      obtain ⟨-, -, -, x1, x30⟩ := FAC.out _ L22.out
      go_upto_region 23 with (first | (refine wpList_fmid (by rfl) (.tmp 143) rfl R 2 rfl F28 (FAC.out _ L22.out).1 HL.out ?_) | (refine wpList_lstat rfl (.tmp 10) rfl w15.heap.size _ rfl B22.out rfl ?_) | (go_at_call 23; refine (WSN.out _ (FAC.out _ L22.out).2.1).mono ?_; rintro e w23 ⟨rfl, k23⟩; have L23 : Hid (Kept [] w14 w23) := L22.out.trans k23 (fun i hi => by cases hi); clear k23 WSN) | (refine wpList_srow8 rfl (.tmp 13) (.tmp 147) rfl w23.heap.size rfl _ A3 rfl (MapKept.heap_alloc w23 _).1 rfl M3.out.1 M3.out.2 ?_; intro w24 b24 k24; have k234 : Kept [] w23 w24 := ((Kept.refl [] w23).alloc _).trans k24 (fun i hi => Or.inr (by have h1 := List.mem_singleton.1 hi; omega)); have L24 : Hid (Kept [] w14 w24) := L23.out.trans k234 (fun i hi => by cases hi); clear k24 b24 k234))
      clear x1 x30
      obtain ⟨-, -, bo, x1, x30⟩ := FAC.out _ L24.out
      obtain ⟨-, -, -, -, -, -, -, -, -, q9, -, -, -⟩ := stat_cells bo
      have KF : Hid (Kept [] w w24) := K14.out.trans L24.out (fun i hi => by cases hi)
      by_cases h1 : name.toList = []
      · have he : e3 = 0 := BN.out.2 (Or.inl h1)
        have b1 : name.toList.isEmpty = true := by rw [List.isEmpty_iff]; exact h1
        have b2 : (name.toList == []) = true := by simp [h1]
        subst he
        clear BL BN bo h1
        go_wp2_with fail
        go_ret
        exact ⟨by simp, KF.out⟩
      · have b1 : name.toList.isEmpty = false := by rw [List.isEmpty_eq_false_iff]; exact h1
        have b2 : (name.toList == []) = false := by rw [beq_eq_false_iff_ne]; exact h1
        by_cases h2 : name.toList = n.name.toList
        · have he : e3 = 0 := BN.out.2 (Or.inr h2)
          have b3 : (name.toList == n.name.toList) = true := by simp [h2]
          subst he
          clear h1 h2 BL BN bo
          go_wp2_with fail
          go_ret
          exact ⟨by simp, KF.out⟩
        · have he : e3 ≠ 0 := fun h => by
            rcases BN.out.1 h with h | h
            · exact h1 h
            · exact h2 h
          have b0 : (e3 == 0) = false := by simpa using he
          have b3 : (name.toList == n.name.toList) = false := by rw [beq_eq_false_iff_ne]; exact h2
          clear h1 h2 he BL BN bo
          go_wp2_with fail
          go_ret
          exact ⟨by simp, KF.out⟩
end Ru
end Go.Proofs.YtahjmpfjidijaaaGreatDoor
