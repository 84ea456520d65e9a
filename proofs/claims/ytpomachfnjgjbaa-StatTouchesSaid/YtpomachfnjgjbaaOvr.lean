/- What Over does. -/
import Derived.Test.YtpomachfnjgjbaaMix
import Derived.Test.YtpomachfnjgjbaaMva
import Derived.Test.YtpomachfnjgjbaaMvb
import Derived.Test.YtpomachfnjgjbaaMvc
import Derived.Test.YtpomachfnjgjbaaMvd
namespace Go.Proofs.Ytpomachfnjgjbaa
set_option linter.unusedVariables false
open Go.RowKit
structure OInv (w : World) (o B : Nat) (s m : Rec) (wr : World) : Prop where
  want : Lies wr w.heap.size s
  over : Lies wr o m
  tab : Tab.Lies wr B
  res : wr.heap[w.heap.size + 2]? = some (.cells #[.int .u16 0, .int .u32 0, .int .u8 0, .int .u32 0, .int .u64 0, .int .u32 0, .int .u32 0, .int .u32 0, .int .u64 0, .string ⟨#[]⟩, .string ⟨#[]⟩, .string ⟨#[]⟩, .string ⟨#[]⟩] 31 (0, 0))
  kept : Kept [] w wr
  o1 : w.heap.size + 2 < o
  o2 : o < B
theorem OInv.pure {w : World} {o B : Nat} {s m : Rec} {wr w' : World} (I : OInv w o B s m wr) (hk : Kept [] wr w') : OInv w o B s m w' :=
  ⟨I.want.kept hk (by simp), I.over.kept hk (by simp), I.tab.kept hk (fun _ _ _ => by simp), (hk.block _ (block_lt I.res) (by simp)).trans I.res, I.kept.trans hk (fun i hi => by simp at hi), I.o1, I.o2⟩
theorem OInv.moved {w : World} {o B : Nat} {s m m' : Rec} {wr w' : World} (I : OInv w o B s m wr) (hk : Kept [o] wr w') (h : Lies w' o m') : OInv w o B s m' w' := by
  have h1 := I.o1
  have h2 := I.o2
  exact ⟨I.want.kept hk (by (try simp); omega), h, I.tab.kept hk (fun i hi _ hm => by simp at hm; omega), (hk.block _ (block_lt I.res) (by simp; omega)).trans I.res, I.kept.trans hk (fun i hi => by simp at hi; right; omega), h1, h2⟩

namespace Stt
open Go.Proofs.Ytpomachfnjgjbaa.Txt

set_option maxHeartbeats 8000000 in
set_option maxRecDepth 100000 in
theorem over_any (w : World) (s h : Rec) : Calls Try.prog 22 #[s.val, h.val] w fun e w' => e = .returned (mix (tk s h) s h 13).val ∧ Kept [] w w' := by
  have TC := fun w => touched_any w s h
  obtain ⟨f, hf⟩ : ∃ f, f = tk s h := ⟨_, rfl⟩
  rw [← hf] at TC ⊢
  clear hf
  obtain ⟨t, ht⟩ : ∃ t, t = tb f 13 := ⟨_, rfl⟩
  rw [← ht] at TC
  have AND : Hid (∀ k, k < 13 → bits .and .u16 (t : Int) ((2 ^ k : Nat) : Int) = ((if f k then 2 ^ k else 0 : Nat) : Int)) := fun k hk => by rw [ht]; exact and_bit f k hk
  clear ht
  obtain ⟨m, hm⟩ : ∃ m, m = mix f s h 13 := ⟨_, rfl⟩
  rw [← hm]
  have HM := Lib.hid hm
  have H0 := Lib.hid (mix_start f s h)
  clear hm
  have A0 : Hid (Lies (((w.alloc (.cells s.cells 31 (0, 0))).alloc (.cells h.cells 31 (0, 0))).alloc (.cells #[.int .u16 0, .int .u32 0, .int .u8 0, .int .u32 0, .int .u64 0, .int .u32 0, .int .u32 0, .int .u32 0, .int .u64 0, .string ⟨#[]⟩, .string ⟨#[]⟩, .string ⟨#[]⟩, .string ⟨#[]⟩] 31 (0, 0))) w.heap.size s) := Lies.kept (two_old w _ _) ((Kept.refl [] _).alloc _) (by simp)
  have A1 : Hid (Lies (((w.alloc (.cells s.cells 31 (0, 0))).alloc (.cells h.cells 31 (0, 0))).alloc (.cells #[.int .u16 0, .int .u32 0, .int .u8 0, .int .u32 0, .int .u64 0, .int .u32 0, .int .u32 0, .int .u32 0, .int .u64 0, .string ⟨#[]⟩, .string ⟨#[]⟩, .string ⟨#[]⟩, .string ⟨#[]⟩] 31 (0, 0))) (w.heap.size + 1) h) := Lies.kept (two_new w _ _) ((Kept.refl [] _).alloc _) (by simp)
  have A2 : Hid ((((w.alloc (.cells s.cells 31 (0, 0))).alloc (.cells h.cells 31 (0, 0))).alloc (.cells #[.int .u16 0, .int .u32 0, .int .u8 0, .int .u32 0, .int .u64 0, .int .u32 0, .int .u32 0, .int .u32 0, .int .u64 0, .string ⟨#[]⟩, .string ⟨#[]⟩, .string ⟨#[]⟩, .string ⟨#[]⟩] 31 (0, 0))).heap[w.heap.size + 2]? = some (.cells #[.int .u16 0, .int .u32 0, .int .u8 0, .int .u32 0, .int .u64 0, .int .u32 0, .int .u32 0, .int .u32 0, .int .u64 0, .string ⟨#[]⟩, .string ⟨#[]⟩, .string ⟨#[]⟩, .string ⟨#[]⟩] 31 (0, 0))) := by
    have e : w.heap.size + 2 = ((w.alloc (.cells s.cells 31 (0, 0))).alloc (.cells h.cells 31 (0, 0))).heap.size := by simp
    rw [e]
    exact heap_alloc_new _ _
  have K0 : Hid (Kept [] w (((w.alloc (.cells s.cells 31 (0, 0))).alloc (.cells h.cells 31 (0, 0))).alloc (.cells #[.int .u16 0, .int .u32 0, .int .u8 0, .int .u32 0, .int .u64 0, .int .u32 0, .int .u32 0, .int .u32 0, .int .u64 0, .string ⟨#[]⟩, .string ⟨#[]⟩, .string ⟨#[]⟩, .string ⟨#[]⟩] 31 (0, 0)))) := (((Kept.refl [] _).alloc _).alloc _).alloc _
  have TC' := Lib.hid TC
  clear TC
  unfold Rec.val
  unfold Rec.val at TC'
  unfold Rec.cells at A0 A1 A2 K0 TC' ⊢
  go_enter Try.func22, Try.ntmps22
  go_wp2_with fail
  refine (TC'.out _).mono ?_
  rintro e w1 ⟨rfl, k1⟩
  have L1 : Hid (Lies w1 (w.heap.size + 1) h) := A1.out.kept k1 (by simp)
  have B0 : Hid (Lies (w1.alloc (.cells #[.int .u16 h.ty, .int .u32 h.dev, .int .u8 h.kind, .int .u32 h.vers, .int .u64 h.path, .int .u32 h.mode, .int .u32 h.atime, .int .u32 h.mtime, .int .u64 h.len, .string h.name, .string h.uid, .string h.gid, .string h.muid] 31 (0, 0))) w.heap.size s) := (A0.out.kept k1 (by simp)).kept ((Kept.refl [] w1).alloc _) (by simp)
  have B1 : Hid (Lies (w1.alloc (.cells #[.int .u16 h.ty, .int .u32 h.dev, .int .u8 h.kind, .int .u32 h.vers, .int .u64 h.path, .int .u32 h.mode, .int .u32 h.atime, .int .u32 h.mtime, .int .u64 h.len, .string h.name, .string h.uid, .string h.gid, .string h.muid] 31 (0, 0))) w1.heap.size h) := heap_alloc_new w1 _
  have B2 : Hid ((w1.alloc (.cells #[.int .u16 h.ty, .int .u32 h.dev, .int .u8 h.kind, .int .u32 h.vers, .int .u64 h.path, .int .u32 h.mode, .int .u32 h.atime, .int .u32 h.mtime, .int .u64 h.len, .string h.name, .string h.uid, .string h.gid, .string h.muid] 31 (0, 0))).heap[w.heap.size + 2]? = some (.cells #[.int .u16 0, .int .u32 0, .int .u8 0, .int .u32 0, .int .u64 0, .int .u32 0, .int .u32 0, .int .u32 0, .int .u64 0, .string ⟨#[]⟩, .string ⟨#[]⟩, .string ⟨#[]⟩, .string ⟨#[]⟩] 31 (0, 0))) := (((Kept.refl [] w1).alloc _).block _ (Nat.lt_of_lt_of_le (block_lt A2.out) k1.size) (by simp)).trans ((k1.block _ (block_lt A2.out) (by simp)).trans A2.out)
  have K1 : Hid (Kept [] w (w1.alloc (.cells #[.int .u16 h.ty, .int .u32 h.dev, .int .u8 h.kind, .int .u32 h.vers, .int .u64 h.path, .int .u32 h.mode, .int .u32 h.atime, .int .u32 h.mtime, .int .u64 h.len, .string h.name, .string h.uid, .string h.gid, .string h.muid] 31 (0, 0)))) := (K0.out.trans k1 (fun i hi => by simp at hi)).alloc _
  have O1 : Hid (w.heap.size + 2 < w1.heap.size) := by have := k1.size; show _ < _; simp at this; omega
  obtain ⟨c0, c1, c2, c3, c4, c5, c6, c7, c8, c9, c10, c11, c12⟩ := L1.out.cells
  clear k1 A0 A1 A2 K0 L1 TC'
  go_wp2_with fail
  refine (Tab.fields_any _).mono ?_
  rintro e w2 ⟨rfl, ht, k2⟩
  obtain ⟨B, hB⟩ : ∃ B, B = (w1.alloc (.cells #[.int .u16 h.ty, .int .u32 h.dev, .int .u8 h.kind, .int .u32 h.vers, .int .u64 h.path, .int .u32 h.mode, .int .u32 h.atime, .int .u32 h.mtime, .int .u64 h.len, .string h.name, .string h.uid, .string h.gid, .string h.muid] 31 (0, 0))).heap.size := ⟨_, rfl⟩
  have O2 : w1.heap.size < B := by rw [hB]; simp
  rw [← hB] at ht ⊢
  have I0 : Hid (OInv w w1.heap.size B s (mix f s h 0) w2) := by
    rw [H0.out]
    exact ⟨B0.out.kept k2 (by simp), B1.out.kept k2 (by simp), ht.out, (k2.block _ (block_lt B2.out) (by simp)).trans B2.out, K1.out.trans k2 (fun i hi => by simp at hi), O1.out, O2⟩
  obtain ⟨o, ho⟩ : ∃ o, o = w1.heap.size := ⟨_, rfl⟩
  rw [← ho] at I0
  clear hB ht k2 B0 B1 B2 K1 O1 O2 c0 c1 c2 c3 c4 c5 c6 c7 c8 c9 c10 c11 c12
  go_wp2_with fail
  rw [← ho]
  clear ho
  go_loopw [15] (fun iv' wr => ∃ i : Nat, i ≤ 13 ∧ iv' = .int .i64 i ∧ Hid (OInv w o B s (mix f s h i) wr)) (fun iv' _ => 13 - (intOf iv').toNat)
  case atStart => exact ⟨0, by omega, rfl, I0⟩
  case round =>
    clear I0
    obtain ⟨i, hi, rfl, I⟩ := hrel
    obtain rfl | rfl | rfl | rfl | rfl | rfl | rfl | rfl | rfl | rfl | rfl | rfl | rfl | rfl : i = 0 ∨ i = 1 ∨ i = 2 ∨ i = 3 ∨ i = 4 ∨ i = 5 ∨ i = 6 ∨ i = 7 ∨ i = 8 ∨ i = 9 ∨ i = 10 ∨ i = 11 ∨ i = 12 ∨ i = 13 := by omega
    · obtain ⟨r1, r2, r3, r4⟩ := I.out.tab.row0
      have IW : Hid (OInv w o B s (mix f s h 0) (wr.alloc (.cells #[.int .u16 1, .func (.func 93) #[] #[.pointer (some ⟨B + 0, 0, none⟩)], .func (.func 94) #[] #[.pointer (some ⟨B + 0, 0, none⟩)]] 75 (0, 0)))) := I.out.pure ((Kept.refl [] _).alloc _)
      have hand := AND.out 0 (by decide)
      cases hfk : f 0 with
      | true =>
        have hand' : bits .and .u16 (t : Int) 1 = 1 := by rw [hfk] at hand; exact hand
        have MV := Lib.hid (Tab.move_0 (wr.alloc (.cells #[.int .u16 1, .func (.func 93) #[] #[.pointer (some ⟨B + 0, 0, none⟩)], .func (.func 94) #[] #[.pointer (some ⟨B + 0, 0, none⟩)]] 75 (0, 0))) o w.heap.size (B + 0) _ _ _ _ IW.out.tab.row0.2.2.2 IW.out.over IW.out.over.cells.1 IW.out.want.cells.1)
        have HON := Lib.hid (mix_on0 s h hfk)
        clear hand hfk
        go_wp2_with fail
        refine MV.out.mono ?_
        rintro e w3 ⟨rfl, hh, k3⟩
        have I3 : Hid (OInv w o B s (mix f s h 1) w3) := IW.out.moved k3 (by unfold Lies; rw [← HON.out]; exact hh.out)
        clear hh k3 IW MV HON I
        go_wp2_with fail
        go_roundw
        case rel => exact ⟨1, by omega, rfl, I3⟩
        case measure => decide
      | false =>
        have hand' : bits .and .u16 (t : Int) 1 = 0 := by rw [hfk] at hand; exact hand
        have HOFF := Lib.hid (mix_off0 s h hfk)
        clear hand hfk
        go_wp2_with fail
        go_roundw
        case rel => exact ⟨1, by omega, rfl, by rw [← HOFF.out]; exact IW⟩
        case measure => decide
    · obtain ⟨r1, r2, r3, r4⟩ := I.out.tab.row1
      have IW : Hid (OInv w o B s (mix f s h 1) (wr.alloc (.cells #[.int .u16 2, .func (.func 95) #[] #[.pointer (some ⟨B + 2, 0, none⟩)], .func (.func 96) #[] #[.pointer (some ⟨B + 2, 0, none⟩)]] 75 (0, 0)))) := I.out.pure ((Kept.refl [] _).alloc _)
      have hand := AND.out 1 (by decide)
      cases hfk : f 1 with
      | true =>
        have hand' : bits .and .u16 (t : Int) 2 = 2 := by rw [hfk] at hand; exact hand
        have MV := Lib.hid (Tab.move_1 (wr.alloc (.cells #[.int .u16 2, .func (.func 95) #[] #[.pointer (some ⟨B + 2, 0, none⟩)], .func (.func 96) #[] #[.pointer (some ⟨B + 2, 0, none⟩)]] 75 (0, 0))) o w.heap.size (B + 2) _ _ _ _ IW.out.tab.row1.2.2.2 IW.out.over IW.out.over.cells.2.1 IW.out.want.cells.2.1)
        have HON := Lib.hid (mix_on1 s h hfk)
        clear hand hfk
        go_wp2_with fail
        refine MV.out.mono ?_
        rintro e w3 ⟨rfl, hh, k3⟩
        have I3 : Hid (OInv w o B s (mix f s h 2) w3) := IW.out.moved k3 (by unfold Lies; rw [← HON.out]; exact hh.out)
        clear hh k3 IW MV HON I
        go_wp2_with fail
        go_roundw
        case rel => exact ⟨2, by omega, rfl, I3⟩
        case measure => decide
      | false =>
        have hand' : bits .and .u16 (t : Int) 2 = 0 := by rw [hfk] at hand; exact hand
        have HOFF := Lib.hid (mix_off1 s h hfk)
        clear hand hfk
        go_wp2_with fail
        go_roundw
        case rel => exact ⟨2, by omega, rfl, by rw [← HOFF.out]; exact IW⟩
        case measure => decide
    · obtain ⟨r1, r2, r3, r4⟩ := I.out.tab.row2
      have IW : Hid (OInv w o B s (mix f s h 2) (wr.alloc (.cells #[.int .u16 4, .func (.func 97) #[] #[.pointer (some ⟨B + 4, 0, none⟩)], .func (.func 98) #[] #[.pointer (some ⟨B + 4, 0, none⟩)]] 75 (0, 0)))) := I.out.pure ((Kept.refl [] _).alloc _)
      have hand := AND.out 2 (by decide)
      cases hfk : f 2 with
      | true =>
        have hand' : bits .and .u16 (t : Int) 4 = 4 := by rw [hfk] at hand; exact hand
        have MV := Lib.hid (Tab.move_2 (wr.alloc (.cells #[.int .u16 4, .func (.func 97) #[] #[.pointer (some ⟨B + 4, 0, none⟩)], .func (.func 98) #[] #[.pointer (some ⟨B + 4, 0, none⟩)]] 75 (0, 0))) o w.heap.size (B + 4) _ _ _ _ IW.out.tab.row2.2.2.2 IW.out.over IW.out.over.cells.2.2.1 IW.out.want.cells.2.2.1)
        have HON := Lib.hid (mix_on2 s h hfk)
        clear hand hfk
        go_wp2_with fail
        refine MV.out.mono ?_
        rintro e w3 ⟨rfl, hh, k3⟩
        have I3 : Hid (OInv w o B s (mix f s h 3) w3) := IW.out.moved k3 (by unfold Lies; rw [← HON.out]; exact hh.out)
        clear hh k3 IW MV HON I
        go_wp2_with fail
        go_roundw
        case rel => exact ⟨3, by omega, rfl, I3⟩
        case measure => decide
      | false =>
        have hand' : bits .and .u16 (t : Int) 4 = 0 := by rw [hfk] at hand; exact hand
        have HOFF := Lib.hid (mix_off2 s h hfk)
        clear hand hfk
        go_wp2_with fail
        go_roundw
        case rel => exact ⟨3, by omega, rfl, by rw [← HOFF.out]; exact IW⟩
        case measure => decide
    · obtain ⟨r1, r2, r3, r4⟩ := I.out.tab.row3
      have IW : Hid (OInv w o B s (mix f s h 3) (wr.alloc (.cells #[.int .u16 8, .func (.func 95) #[] #[.pointer (some ⟨B + 6, 0, none⟩)], .func (.func 96) #[] #[.pointer (some ⟨B + 6, 0, none⟩)]] 75 (0, 0)))) := I.out.pure ((Kept.refl [] _).alloc _)
      have hand := AND.out 3 (by decide)
      cases hfk : f 3 with
      | true =>
        have hand' : bits .and .u16 (t : Int) 8 = 8 := by rw [hfk] at hand; exact hand
        have MV := Lib.hid (Tab.move_3 (wr.alloc (.cells #[.int .u16 8, .func (.func 95) #[] #[.pointer (some ⟨B + 6, 0, none⟩)], .func (.func 96) #[] #[.pointer (some ⟨B + 6, 0, none⟩)]] 75 (0, 0))) o w.heap.size (B + 6) _ _ _ _ IW.out.tab.row3.2.2.2 IW.out.over IW.out.over.cells.2.2.2.1 IW.out.want.cells.2.2.2.1)
        have HON := Lib.hid (mix_on3 s h hfk)
        clear hand hfk
        go_wp2_with fail
        refine MV.out.mono ?_
        rintro e w3 ⟨rfl, hh, k3⟩
        have I3 : Hid (OInv w o B s (mix f s h 4) w3) := IW.out.moved k3 (by unfold Lies; rw [← HON.out]; exact hh.out)
        clear hh k3 IW MV HON I
        go_wp2_with fail
        go_roundw
        case rel => exact ⟨4, by omega, rfl, I3⟩
        case measure => decide
      | false =>
        have hand' : bits .and .u16 (t : Int) 8 = 0 := by rw [hfk] at hand; exact hand
        have HOFF := Lib.hid (mix_off3 s h hfk)
        clear hand hfk
        go_wp2_with fail
        go_roundw
        case rel => exact ⟨4, by omega, rfl, by rw [← HOFF.out]; exact IW⟩
        case measure => decide
    · obtain ⟨r1, r2, r3, r4⟩ := I.out.tab.row4
      have IW : Hid (OInv w o B s (mix f s h 4) (wr.alloc (.cells #[.int .u16 16, .func (.func 99) #[] #[.pointer (some ⟨B + 8, 0, none⟩)], .func (.func 100) #[] #[.pointer (some ⟨B + 8, 0, none⟩)]] 75 (0, 0)))) := I.out.pure ((Kept.refl [] _).alloc _)
      have hand := AND.out 4 (by decide)
      cases hfk : f 4 with
      | true =>
        have hand' : bits .and .u16 (t : Int) 16 = 16 := by rw [hfk] at hand; exact hand
        have MV := Lib.hid (Tab.move_4 (wr.alloc (.cells #[.int .u16 16, .func (.func 99) #[] #[.pointer (some ⟨B + 8, 0, none⟩)], .func (.func 100) #[] #[.pointer (some ⟨B + 8, 0, none⟩)]] 75 (0, 0))) o w.heap.size (B + 8) _ _ _ _ IW.out.tab.row4.2.2.2 IW.out.over IW.out.over.cells.2.2.2.2.1 IW.out.want.cells.2.2.2.2.1)
        have HON := Lib.hid (mix_on4 s h hfk)
        clear hand hfk
        go_wp2_with fail
        refine MV.out.mono ?_
        rintro e w3 ⟨rfl, hh, k3⟩
        have I3 : Hid (OInv w o B s (mix f s h 5) w3) := IW.out.moved k3 (by unfold Lies; rw [← HON.out]; exact hh.out)
        clear hh k3 IW MV HON I
        go_wp2_with fail
        go_roundw
        case rel => exact ⟨5, by omega, rfl, I3⟩
        case measure => decide
      | false =>
        have hand' : bits .and .u16 (t : Int) 16 = 0 := by rw [hfk] at hand; exact hand
        have HOFF := Lib.hid (mix_off4 s h hfk)
        clear hand hfk
        go_wp2_with fail
        go_roundw
        case rel => exact ⟨5, by omega, rfl, by rw [← HOFF.out]; exact IW⟩
        case measure => decide
    · obtain ⟨r1, r2, r3, r4⟩ := I.out.tab.row5
      have IW : Hid (OInv w o B s (mix f s h 5) (wr.alloc (.cells #[.int .u16 32, .func (.func 95) #[] #[.pointer (some ⟨B + 10, 0, none⟩)], .func (.func 96) #[] #[.pointer (some ⟨B + 10, 0, none⟩)]] 75 (0, 0)))) := I.out.pure ((Kept.refl [] _).alloc _)
      have hand := AND.out 5 (by decide)
      cases hfk : f 5 with
      | true =>
        have hand' : bits .and .u16 (t : Int) 32 = 32 := by rw [hfk] at hand; exact hand
        have MV := Lib.hid (Tab.move_5 (wr.alloc (.cells #[.int .u16 32, .func (.func 95) #[] #[.pointer (some ⟨B + 10, 0, none⟩)], .func (.func 96) #[] #[.pointer (some ⟨B + 10, 0, none⟩)]] 75 (0, 0))) o w.heap.size (B + 10) _ _ _ _ IW.out.tab.row5.2.2.2 IW.out.over IW.out.over.cells.2.2.2.2.2.1 IW.out.want.cells.2.2.2.2.2.1)
        have HON := Lib.hid (mix_on5 s h hfk)
        clear hand hfk
        go_wp2_with fail
        refine MV.out.mono ?_
        rintro e w3 ⟨rfl, hh, k3⟩
        have I3 : Hid (OInv w o B s (mix f s h 6) w3) := IW.out.moved k3 (by unfold Lies; rw [← HON.out]; exact hh.out)
        clear hh k3 IW MV HON I
        go_wp2_with fail
        go_roundw
        case rel => exact ⟨6, by omega, rfl, I3⟩
        case measure => decide
      | false =>
        have hand' : bits .and .u16 (t : Int) 32 = 0 := by rw [hfk] at hand; exact hand
        have HOFF := Lib.hid (mix_off5 s h hfk)
        clear hand hfk
        go_wp2_with fail
        go_roundw
        case rel => exact ⟨6, by omega, rfl, by rw [← HOFF.out]; exact IW⟩
        case measure => decide
    · obtain ⟨r1, r2, r3, r4⟩ := I.out.tab.row6
      have IW : Hid (OInv w o B s (mix f s h 6) (wr.alloc (.cells #[.int .u16 64, .func (.func 95) #[] #[.pointer (some ⟨B + 12, 0, none⟩)], .func (.func 96) #[] #[.pointer (some ⟨B + 12, 0, none⟩)]] 75 (0, 0)))) := I.out.pure ((Kept.refl [] _).alloc _)
      have hand := AND.out 6 (by decide)
      cases hfk : f 6 with
      | true =>
        have hand' : bits .and .u16 (t : Int) 64 = 64 := by rw [hfk] at hand; exact hand
        have MV := Lib.hid (Tab.move_6 (wr.alloc (.cells #[.int .u16 64, .func (.func 95) #[] #[.pointer (some ⟨B + 12, 0, none⟩)], .func (.func 96) #[] #[.pointer (some ⟨B + 12, 0, none⟩)]] 75 (0, 0))) o w.heap.size (B + 12) _ _ _ _ IW.out.tab.row6.2.2.2 IW.out.over IW.out.over.cells.2.2.2.2.2.2.1 IW.out.want.cells.2.2.2.2.2.2.1)
        have HON := Lib.hid (mix_on6 s h hfk)
        clear hand hfk
        go_wp2_with fail
        refine MV.out.mono ?_
        rintro e w3 ⟨rfl, hh, k3⟩
        have I3 : Hid (OInv w o B s (mix f s h 7) w3) := IW.out.moved k3 (by unfold Lies; rw [← HON.out]; exact hh.out)
        clear hh k3 IW MV HON I
        go_wp2_with fail
        go_roundw
        case rel => exact ⟨7, by omega, rfl, I3⟩
        case measure => decide
      | false =>
        have hand' : bits .and .u16 (t : Int) 64 = 0 := by rw [hfk] at hand; exact hand
        have HOFF := Lib.hid (mix_off6 s h hfk)
        clear hand hfk
        go_wp2_with fail
        go_roundw
        case rel => exact ⟨7, by omega, rfl, by rw [← HOFF.out]; exact IW⟩
        case measure => decide
    · obtain ⟨r1, r2, r3, r4⟩ := I.out.tab.row7
      have IW : Hid (OInv w o B s (mix f s h 7) (wr.alloc (.cells #[.int .u16 128, .func (.func 95) #[] #[.pointer (some ⟨B + 14, 0, none⟩)], .func (.func 96) #[] #[.pointer (some ⟨B + 14, 0, none⟩)]] 75 (0, 0)))) := I.out.pure ((Kept.refl [] _).alloc _)
      have hand := AND.out 7 (by decide)
      cases hfk : f 7 with
      | true =>
        have hand' : bits .and .u16 (t : Int) 128 = 128 := by rw [hfk] at hand; exact hand
        have MV := Lib.hid (Tab.move_7 (wr.alloc (.cells #[.int .u16 128, .func (.func 95) #[] #[.pointer (some ⟨B + 14, 0, none⟩)], .func (.func 96) #[] #[.pointer (some ⟨B + 14, 0, none⟩)]] 75 (0, 0))) o w.heap.size (B + 14) _ _ _ _ IW.out.tab.row7.2.2.2 IW.out.over IW.out.over.cells.2.2.2.2.2.2.2.1 IW.out.want.cells.2.2.2.2.2.2.2.1)
        have HON := Lib.hid (mix_on7 s h hfk)
        clear hand hfk
        go_wp2_with fail
        refine MV.out.mono ?_
        rintro e w3 ⟨rfl, hh, k3⟩
        have I3 : Hid (OInv w o B s (mix f s h 8) w3) := IW.out.moved k3 (by unfold Lies; rw [← HON.out]; exact hh.out)
        clear hh k3 IW MV HON I
        go_wp2_with fail
        go_roundw
        case rel => exact ⟨8, by omega, rfl, I3⟩
        case measure => decide
      | false =>
        have hand' : bits .and .u16 (t : Int) 128 = 0 := by rw [hfk] at hand; exact hand
        have HOFF := Lib.hid (mix_off7 s h hfk)
        clear hand hfk
        go_wp2_with fail
        go_roundw
        case rel => exact ⟨8, by omega, rfl, by rw [← HOFF.out]; exact IW⟩
        case measure => decide
    · obtain ⟨r1, r2, r3, r4⟩ := I.out.tab.row8
      have IW : Hid (OInv w o B s (mix f s h 8) (wr.alloc (.cells #[.int .u16 256, .func (.func 99) #[] #[.pointer (some ⟨B + 16, 0, none⟩)], .func (.func 100) #[] #[.pointer (some ⟨B + 16, 0, none⟩)]] 75 (0, 0)))) := I.out.pure ((Kept.refl [] _).alloc _)
      have hand := AND.out 8 (by decide)
      cases hfk : f 8 with
      | true =>
        have hand' : bits .and .u16 (t : Int) 256 = 256 := by rw [hfk] at hand; exact hand
        have MV := Lib.hid (Tab.move_8 (wr.alloc (.cells #[.int .u16 256, .func (.func 99) #[] #[.pointer (some ⟨B + 16, 0, none⟩)], .func (.func 100) #[] #[.pointer (some ⟨B + 16, 0, none⟩)]] 75 (0, 0))) o w.heap.size (B + 16) _ _ _ _ IW.out.tab.row8.2.2.2 IW.out.over IW.out.over.cells.2.2.2.2.2.2.2.2.1 IW.out.want.cells.2.2.2.2.2.2.2.2.1)
        have HON := Lib.hid (mix_on8 s h hfk)
        clear hand hfk
        go_wp2_with fail
        refine MV.out.mono ?_
        rintro e w3 ⟨rfl, hh, k3⟩
        have I3 : Hid (OInv w o B s (mix f s h 9) w3) := IW.out.moved k3 (by unfold Lies; rw [← HON.out]; exact hh.out)
        clear hh k3 IW MV HON I
        go_wp2_with fail
        go_roundw
        case rel => exact ⟨9, by omega, rfl, I3⟩
        case measure => decide
      | false =>
        have hand' : bits .and .u16 (t : Int) 256 = 0 := by rw [hfk] at hand; exact hand
        have HOFF := Lib.hid (mix_off8 s h hfk)
        clear hand hfk
        go_wp2_with fail
        go_roundw
        case rel => exact ⟨9, by omega, rfl, by rw [← HOFF.out]; exact IW⟩
        case measure => decide
    · obtain ⟨r1, r2, r3, r4⟩ := I.out.tab.row9
      have IW : Hid (OInv w o B s (mix f s h 9) (wr.alloc (.cells #[.int .u16 512, .func (.func 101) #[] #[.pointer (some ⟨B + 18, 0, none⟩)], .func (.func 102) #[] #[.pointer (some ⟨B + 18, 0, none⟩)]] 75 (0, 0)))) := I.out.pure ((Kept.refl [] _).alloc _)
      have hand := AND.out 9 (by decide)
      cases hfk : f 9 with
      | true =>
        have hand' : bits .and .u16 (t : Int) 512 = 512 := by rw [hfk] at hand; exact hand
        have MV := Lib.hid (Tab.move_9 (wr.alloc (.cells #[.int .u16 512, .func (.func 101) #[] #[.pointer (some ⟨B + 18, 0, none⟩)], .func (.func 102) #[] #[.pointer (some ⟨B + 18, 0, none⟩)]] 75 (0, 0))) o w.heap.size (B + 18) _ _ _ _ IW.out.tab.row9.2.2.2 IW.out.over IW.out.over.cells.2.2.2.2.2.2.2.2.2.1 IW.out.want.cells.2.2.2.2.2.2.2.2.2.1)
        have HON := Lib.hid (mix_on9 s h hfk)
        clear hand hfk
        go_wp2_with fail
        refine MV.out.mono ?_
        rintro e w3 ⟨rfl, hh, k3⟩
        have I3 : Hid (OInv w o B s (mix f s h 10) w3) := IW.out.moved k3 (by unfold Lies; rw [← HON.out]; exact hh.out)
        clear hh k3 IW MV HON I
        go_wp2_with fail
        go_roundw
        case rel => exact ⟨10, by omega, rfl, I3⟩
        case measure => decide
      | false =>
        have hand' : bits .and .u16 (t : Int) 512 = 0 := by rw [hfk] at hand; exact hand
        have HOFF := Lib.hid (mix_off9 s h hfk)
        clear hand hfk
        go_wp2_with fail
        go_roundw
        case rel => exact ⟨10, by omega, rfl, by rw [← HOFF.out]; exact IW⟩
        case measure => decide
    · obtain ⟨r1, r2, r3, r4⟩ := I.out.tab.row10
      have IW : Hid (OInv w o B s (mix f s h 10) (wr.alloc (.cells #[.int .u16 1024, .func (.func 101) #[] #[.pointer (some ⟨B + 20, 0, none⟩)], .func (.func 102) #[] #[.pointer (some ⟨B + 20, 0, none⟩)]] 75 (0, 0)))) := I.out.pure ((Kept.refl [] _).alloc _)
      have hand := AND.out 10 (by decide)
      cases hfk : f 10 with
      | true =>
        have hand' : bits .and .u16 (t : Int) 1024 = 1024 := by rw [hfk] at hand; exact hand
        have MV := Lib.hid (Tab.move_10 (wr.alloc (.cells #[.int .u16 1024, .func (.func 101) #[] #[.pointer (some ⟨B + 20, 0, none⟩)], .func (.func 102) #[] #[.pointer (some ⟨B + 20, 0, none⟩)]] 75 (0, 0))) o w.heap.size (B + 20) _ _ _ _ IW.out.tab.row10.2.2.2 IW.out.over IW.out.over.cells.2.2.2.2.2.2.2.2.2.2.1 IW.out.want.cells.2.2.2.2.2.2.2.2.2.2.1)
        have HON := Lib.hid (mix_on10 s h hfk)
        clear hand hfk
        go_wp2_with fail
        refine MV.out.mono ?_
        rintro e w3 ⟨rfl, hh, k3⟩
        have I3 : Hid (OInv w o B s (mix f s h 11) w3) := IW.out.moved k3 (by unfold Lies; rw [← HON.out]; exact hh.out)
        clear hh k3 IW MV HON I
        go_wp2_with fail
        go_roundw
        case rel => exact ⟨11, by omega, rfl, I3⟩
        case measure => decide
      | false =>
        have hand' : bits .and .u16 (t : Int) 1024 = 0 := by rw [hfk] at hand; exact hand
        have HOFF := Lib.hid (mix_off10 s h hfk)
        clear hand hfk
        go_wp2_with fail
        go_roundw
        case rel => exact ⟨11, by omega, rfl, by rw [← HOFF.out]; exact IW⟩
        case measure => decide
    · obtain ⟨r1, r2, r3, r4⟩ := I.out.tab.row11
      have IW : Hid (OInv w o B s (mix f s h 11) (wr.alloc (.cells #[.int .u16 2048, .func (.func 101) #[] #[.pointer (some ⟨B + 22, 0, none⟩)], .func (.func 102) #[] #[.pointer (some ⟨B + 22, 0, none⟩)]] 75 (0, 0)))) := I.out.pure ((Kept.refl [] _).alloc _)
      have hand := AND.out 11 (by decide)
      cases hfk : f 11 with
      | true =>
        have hand' : bits .and .u16 (t : Int) 2048 = 2048 := by rw [hfk] at hand; exact hand
        have MV := Lib.hid (Tab.move_11 (wr.alloc (.cells #[.int .u16 2048, .func (.func 101) #[] #[.pointer (some ⟨B + 22, 0, none⟩)], .func (.func 102) #[] #[.pointer (some ⟨B + 22, 0, none⟩)]] 75 (0, 0))) o w.heap.size (B + 22) _ _ _ _ IW.out.tab.row11.2.2.2 IW.out.over IW.out.over.cells.2.2.2.2.2.2.2.2.2.2.2.1 IW.out.want.cells.2.2.2.2.2.2.2.2.2.2.2.1)
        have HON := Lib.hid (mix_on11 s h hfk)
        clear hand hfk
        go_wp2_with fail
        refine MV.out.mono ?_
        rintro e w3 ⟨rfl, hh, k3⟩
        have I3 : Hid (OInv w o B s (mix f s h 12) w3) := IW.out.moved k3 (by unfold Lies; rw [← HON.out]; exact hh.out)
        clear hh k3 IW MV HON I
        go_wp2_with fail
        go_roundw
        case rel => exact ⟨12, by omega, rfl, I3⟩
        case measure => decide
      | false =>
        have hand' : bits .and .u16 (t : Int) 2048 = 0 := by rw [hfk] at hand; exact hand
        have HOFF := Lib.hid (mix_off11 s h hfk)
        clear hand hfk
        go_wp2_with fail
        go_roundw
        case rel => exact ⟨12, by omega, rfl, by rw [← HOFF.out]; exact IW⟩
        case measure => decide
    · obtain ⟨r1, r2, r3, r4⟩ := I.out.tab.row12
      have IW : Hid (OInv w o B s (mix f s h 12) (wr.alloc (.cells #[.int .u16 4096, .func (.func 101) #[] #[.pointer (some ⟨B + 24, 0, none⟩)], .func (.func 102) #[] #[.pointer (some ⟨B + 24, 0, none⟩)]] 75 (0, 0)))) := I.out.pure ((Kept.refl [] _).alloc _)
      have hand := AND.out 12 (by decide)
      cases hfk : f 12 with
      | true =>
        have hand' : bits .and .u16 (t : Int) 4096 = 4096 := by rw [hfk] at hand; exact hand
        have MV := Lib.hid (Tab.move_12 (wr.alloc (.cells #[.int .u16 4096, .func (.func 101) #[] #[.pointer (some ⟨B + 24, 0, none⟩)], .func (.func 102) #[] #[.pointer (some ⟨B + 24, 0, none⟩)]] 75 (0, 0))) o w.heap.size (B + 24) _ _ _ _ IW.out.tab.row12.2.2.2 IW.out.over IW.out.over.cells.2.2.2.2.2.2.2.2.2.2.2.2 IW.out.want.cells.2.2.2.2.2.2.2.2.2.2.2.2)
        have HON := Lib.hid (mix_on12 s h hfk)
        clear hand hfk
        go_wp2_with fail
        refine MV.out.mono ?_
        rintro e w3 ⟨rfl, hh, k3⟩
        have I3 : Hid (OInv w o B s (mix f s h 13) w3) := IW.out.moved k3 (by unfold Lies; rw [← HON.out]; exact hh.out)
        clear hh k3 IW MV HON I
        go_wp2_with fail
        go_roundw
        case rel => exact ⟨13, by omega, rfl, I3⟩
        case measure => decide
      | false =>
        have hand' : bits .and .u16 (t : Int) 4096 = 0 := by rw [hfk] at hand; exact hand
        have HOFF := Lib.hid (mix_off12 s h hfk)
        clear hand hfk
        go_wp2_with fail
        go_roundw
        case rel => exact ⟨13, by omega, rfl, by rw [← HOFF.out]; exact IW⟩
        case measure => decide
    · have I' : Hid (OInv w o B s m wr) := by rw [HM.out]; exact I
      clear I HM H0
      obtain ⟨c0, c1, c2, c3, c4, c5, c6, c7, c8, c9, c10, c11, c12⟩ := I'.out.over.cells
      obtain ⟨d0, d1, d2, d3, d4, d5, d6, d7, d8, d9, d10, d11, d12, fz⟩ := thirteen I'.out.res
      have f0 := fz 0
      have f1 := fz 1
      have f2 := fz 2
      have f3 := fz 3
      have f4 := fz 4
      have f5 := fz 5
      have f6 := fz 6
      have f7 := fz 7
      have f8 := fz 8
      have f9 := fz 9
      have f10 := fz 10
      have f11 := fz 11
      have f12 := fz 12
      clear fz
      go_wp2_with fail
      have e3 := set13 (.int .u16 m.ty) (.int .u32 m.dev) (.int .u8 m.kind) (.int .u32 m.vers) (.int .u64 m.path) (.int .u32 m.mode) (.int .u32 m.atime) (.int .u32 m.mtime) (.int .u64 m.len) (.string m.name) (.string m.uid) (.string m.gid) (.string m.muid) I'.out.res
      obtain ⟨g0, g1, g2, g3, g4, g5, g6, g7, g8, g9, g10, g11, g12, -⟩ := thirteen e3
      refine bodyPost_ret (v := .agg #[.int .u16 m.ty, .int .u32 m.dev, .int .u8 m.kind, .int .u32 m.vers, .int .u64 m.path, .int .u32 m.mode, .int .u32 m.atime, .int .u32 m.mtime, .int .u64 m.len, .string m.name, .string m.uid, .string m.gid, .string m.muid]) (by simp [results, Try.results22, go_sem, g0, g1, g2, g3, g4, g5, g6, g7, g8, g9, g10, g11, g12]) rfl ⟨rfl, ?_⟩
      exact ((((((((((((I'.out.kept.setCell (Or.inr (by (try simp); omega)) _).setCell (Or.inr (by (try simp); omega)) _).setCell (Or.inr (by (try simp); omega)) _).setCell (Or.inr (by (try simp); omega)) _).setCell (Or.inr (by (try simp); omega)) _).setCell (Or.inr (by (try simp); omega)) _).setCell (Or.inr (by (try simp); omega)) _).setCell (Or.inr (by (try simp); omega)) _).setCell (Or.inr (by (try simp); omega)) _).setCell (Or.inr (by (try simp); omega)) _).setCell (Or.inr (by (try simp); omega)) _).setCell (Or.inr (by (try simp); omega)) _).setCell (Or.inr (by (try simp); omega)) _
end Stt
end Go.Proofs.Ytpomachfnjgjbaa
