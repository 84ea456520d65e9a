/- The reference's Touched. -/
import Derived.Test.YtahjmpfjidijaaaGreatDoorHRwv
namespace Go.Proofs.YtahjmpfjidijaaaGreatDoor
set_option linter.unusedVariables false
open Go.RowKit Go.Shelf
attribute [local go_sem] Oper.semAt_some
namespace Ru
open Go.Proofs.YtahjmpfjidijaaaGreatDoor.Utf Go.Proofs.YtahjmpfjidijaaaGreatDoor.Txt Go.PlainAid Go.Proofs.YtahjmpfjidijaaaGreatDoor.Mpf Go.Proofs.YtahjmpfjidijaaaGreatDoor.Us
theorem apart_any (w : World) (x y c : Int) (z : Bool) (hz : (!(x == c) && !(x == y)) = z) : Calls Tryz.prog 122 #[.int .u64 x, .int .u64 y, .int .u64 c] w fun e w' => e = .returned (.bool z) ∧ w = w' := by
  cases h1 : (x == c) with
  | true =>
    rw [h1] at hz
    subst hz
    have h2 : (x != c) = false := by simp [bne, h1]
    go_enter Tryz.func122, Tryz.ntmps122
    go_wp2_with fail
    go_ret
    exact ⟨by simp, rfl⟩
  | false =>
    rw [h1] at hz
    have h2 : (x != c) = true := by simp [bne, h1]
    cases h3 : (x == y) with
    | true =>
      rw [h3] at hz
      subst hz
      have h4 : (x != y) = false := by simp [bne, h3]
      go_enter Tryz.func122, Tryz.ntmps122
      go_wp2_with fail
      go_ret
      exact ⟨by simp, rfl⟩
    | false =>
      rw [h3] at hz
      subst hz
      have h4 : (x != y) = true := by simp [bne, h3]
      go_enter Tryz.func122, Tryz.ntmps122
      go_wp2_with fail
      go_ret
      exact ⟨by simp, rfl⟩
theorem rset_any (w : World) (x y : Int) (z : Bool) (hy : (if z = true then x else 0) = y) : Calls Tryz.prog 121 #[.int .u16 x, .bool z] w fun e w' => e = .returned (.int .u16 y) ∧ w = w' := by
  subst hy
  cases z <;> (go_enter Tryz.func121, Tryz.ntmps121; go_wp2_with fail; go_ret; exact ⟨by simp, rfl⟩)
theorem or_next (f : Nat → Bool) (k : Nat) (hk : k < 13) : bits .or .u16 ((tb f k : Nat) : Int) (if f k = true then ((2 ^ k : Nat) : Int) else 0) = ((tb f (k + 1) : Nat) : Int) := by
  cases h : f k with
  | true =>
    rw [if_pos rfl, or_bit _ _ (tb_lt f k) (by omega), tb_on h]
  | false =>
    rw [if_neg (by simp), tb_off h]
    have hl : tb f k < 65536 := Nat.lt_trans (tb_lt f k) (Nat.pow_lt_pow_right (m := k) (n := 16) (by decide) (by omega))
    have a1 : (BitVec.ofInt 16 ((tb f k : Nat) : Int)).toNat = tb f k := by
      rw [BitVec.ofInt_natCast, BitVec.toNat_ofNat]; exact Nat.mod_eq_of_lt hl
    show IntKind.u16.wrap ((BitVec.ofInt 16 ((tb f k : Nat) : Int) ||| BitVec.ofInt 16 0).toNat : Int) = _
    rw [BitVec.toNat_or, a1]
    simp [IntKind.wrap_u16]
    omega
set_option maxHeartbeats 16000000 in
set_option maxRecDepth 100000 in
theorem rtouched_any (w : World) (s h : Rec) (s0 : s.ty ≤ 65535) (h0 : h.ty ≤ 65535) (s1 : s.dev ≤ 4294967295) (h1 : h.dev ≤ 4294967295) (s2 : s.kind ≤ 255) (h2 : h.kind ≤ 255) (s3 : s.vers ≤ 4294967295) (h3 : h.vers ≤ 4294967295) (s4 : s.path ≤ 18446744073709551615) (h4 : h.path ≤ 18446744073709551615) (s5 : s.mode ≤ 4294967295) (h5 : h.mode ≤ 4294967295) (s6 : s.atime ≤ 4294967295) (h6 : h.atime ≤ 4294967295) (s7 : s.mtime ≤ 4294967295) (h7 : h.mtime ≤ 4294967295) (s8 : s.len ≤ 18446744073709551615) (h8 : h.len ≤ 18446744073709551615) : Calls Tryz.prog 70 #[.agg #[.int .u16 s.ty, .int .u32 s.dev, .int .u8 s.kind, .int .u32 s.vers, .int .u64 s.path, .int .u32 s.mode, .int .u32 s.atime, .int .u32 s.mtime, .int .u64 s.len, .string s.name, .string s.uid, .string s.gid, .string s.muid], .agg #[.int .u16 h.ty, .int .u32 h.dev, .int .u8 h.kind, .int .u32 h.vers, .int .u64 h.path, .int .u32 h.mode, .int .u32 h.atime, .int .u32 h.mtime, .int .u64 h.len, .string h.name, .string h.uid, .string h.gid, .string h.muid]] w fun e w' => e = .returned (.int .u16 (tb (tk s h) 13 : Nat)) ∧ Kept [] w w' := by
  obtain ⟨f, hf⟩ : ∃ f, f = tk s h := ⟨_, rfl⟩
  have NX := Lib.hid (fun k hk => or_next f k hk)
  have e0 : (⟨#[]⟩ : ByteArray).toList = [] := by kernel_rfl
  have T0 : Hid (((tb f 0 : Nat) : Int) = 0) := rfl
  have F0 : Hid ((!((s.ty : Int) == 65535) && !((s.ty : Int) == (h.ty : Int))) = f 0) := by show _ = _; rw [hf]; rfl
  have F1 : Hid ((!((s.dev : Int) == 4294967295) && !((s.dev : Int) == (h.dev : Int))) = f 1) := by show _ = _; rw [hf]; rfl
  have F2 : Hid ((!((s.kind : Int) == 255) && !((s.kind : Int) == (h.kind : Int))) = f 2) := by show _ = _; rw [hf]; rfl
  have F3 : Hid ((!((s.vers : Int) == 4294967295) && !((s.vers : Int) == (h.vers : Int))) = f 3) := by show _ = _; rw [hf]; rfl
  have F4 : Hid ((!((s.path : Int) == 18446744073709551615) && !((s.path : Int) == (h.path : Int))) = f 4) := by show _ = _; rw [hf]; rfl
  have F5 : Hid ((!((s.mode : Int) == 4294967295) && !((s.mode : Int) == (h.mode : Int))) = f 5) := by show _ = _; rw [hf]; rfl
  have F6 : Hid ((!((s.atime : Int) == 4294967295) && !((s.atime : Int) == (h.atime : Int))) = f 6) := by show _ = _; rw [hf]; rfl
  have F7 : Hid ((!((s.mtime : Int) == 4294967295) && !((s.mtime : Int) == (h.mtime : Int))) = f 7) := by show _ = _; rw [hf]; rfl
  have F8 : Hid ((!((s.len : Int) == 18446744073709551615) && !((s.len : Int) == (h.len : Int))) = f 8) := by show _ = _; rw [hf]; rfl
  have F9 : Hid ((!(s.name.toList == []) && !(s.name.toList == h.name.toList)) = f 9) := by
    have e : tk s h 9 = (!(s.name.toList == (⟨#[]⟩ : ByteArray).toList) && !(s.name.toList == h.name.toList)) := rfl
    show _ = _
    rw [hf, e, e0]
  have F10 : Hid ((!(s.uid.toList == []) && !(s.uid.toList == h.uid.toList)) = f 10) := by
    have e : tk s h 10 = (!(s.uid.toList == (⟨#[]⟩ : ByteArray).toList) && !(s.uid.toList == h.uid.toList)) := rfl
    show _ = _
    rw [hf, e, e0]
  have F11 : Hid ((!(s.gid.toList == []) && !(s.gid.toList == h.gid.toList)) = f 11) := by
    have e : tk s h 11 = (!(s.gid.toList == (⟨#[]⟩ : ByteArray).toList) && !(s.gid.toList == h.gid.toList)) := rfl
    show _ = _
    rw [hf, e, e0]
  have F12 : Hid ((!(s.muid.toList == []) && !(s.muid.toList == h.muid.toList)) = f 12) := by
    have e : tk s h 12 = (!(s.muid.toList == (⟨#[]⟩ : ByteArray).toList) && !(s.muid.toList == h.muid.toList)) := rfl
    show _ = _
    rw [hf, e, e0]
  rw [← hf]
  clear hf e0
  have A0 : Hid (Lies ((w.alloc (.cells #[.int .u16 s.ty, .int .u32 s.dev, .int .u8 s.kind, .int .u32 s.vers, .int .u64 s.path, .int .u32 s.mode, .int .u32 s.atime, .int .u32 s.mtime, .int .u64 s.len, .string s.name, .string s.uid, .string s.gid, .string s.muid] 60 (0, 0))).alloc (.cells #[.int .u16 h.ty, .int .u32 h.dev, .int .u8 h.kind, .int .u32 h.vers, .int .u64 h.path, .int .u32 h.mode, .int .u32 h.atime, .int .u32 h.mtime, .int .u64 h.len, .string h.name, .string h.uid, .string h.gid, .string h.muid] 60 (0, 0))) w.heap.size s) := two_old w _ _
  have A1 : Hid (Lies ((w.alloc (.cells #[.int .u16 s.ty, .int .u32 s.dev, .int .u8 s.kind, .int .u32 s.vers, .int .u64 s.path, .int .u32 s.mode, .int .u32 s.atime, .int .u32 s.mtime, .int .u64 s.len, .string s.name, .string s.uid, .string s.gid, .string s.muid] 60 (0, 0))).alloc (.cells #[.int .u16 h.ty, .int .u32 h.dev, .int .u8 h.kind, .int .u32 h.vers, .int .u64 h.path, .int .u32 h.mode, .int .u32 h.atime, .int .u32 h.mtime, .int .u64 h.len, .string h.name, .string h.uid, .string h.gid, .string h.muid] 60 (0, 0))) (w.heap.size + 1) h) := two_new w _ _
  obtain ⟨w1, hw1⟩ : ∃ w1, w1 = (w.alloc (.cells #[.int .u16 s.ty, .int .u32 s.dev, .int .u8 s.kind, .int .u32 s.vers, .int .u64 s.path, .int .u32 s.mode, .int .u32 s.atime, .int .u32 s.mtime, .int .u64 s.len, .string s.name, .string s.uid, .string s.gid, .string s.muid] 60 (0, 0))).alloc (.cells #[.int .u16 h.ty, .int .u32 h.dev, .int .u8 h.kind, .int .u32 h.vers, .int .u64 h.path, .int .u32 h.mode, .int .u32 h.atime, .int .u32 h.mtime, .int .u64 h.len, .string h.name, .string h.uid, .string h.gid, .string h.muid] 60 (0, 0)) := ⟨_, rfl⟩
  rw [← hw1] at A0 A1
  have K1 : Hid (Kept [] w w1) := by rw [hw1]; exact ((Kept.refl _ _).alloc _).alloc _
  obtain ⟨RA, hRA⟩ : ∃ R, R = w.heap.size := ⟨_, rfl⟩
  obtain ⟨RB, hRB⟩ : ∃ R, R = w.heap.size + 1 := ⟨_, rfl⟩
  rw [← hRA] at A0
  rw [← hRB] at A1
  have HW1 := Lib.hid hw1
  have HRA := Lib.hid hRA
  have HRB := Lib.hid hRB
  obtain ⟨a0, a1, a2, a3, a4, a5, a6, a7, a8, a9, a10, a11, a12⟩ := A0.out.cells
  obtain ⟨b0, b1, b2, b3, b4, b5, b6, b7, b8, b9, b10, b11, b12⟩ := A1.out.cells
  have i0 : (0 : Int) ≤ (s.ty : Int) := by omega
  have j0 : (s.ty : Int) ≤ 65535 := by omega
  have m0 : (0 : Int) ≤ (h.ty : Int) := by omega
  have n0 : (h.ty : Int) ≤ 65535 := by omega
  have i1 : (0 : Int) ≤ (s.dev : Int) := by omega
  have j1 : (s.dev : Int) ≤ 4294967295 := by omega
  have m1 : (0 : Int) ≤ (h.dev : Int) := by omega
  have n1 : (h.dev : Int) ≤ 4294967295 := by omega
  have i2 : (0 : Int) ≤ (s.kind : Int) := by omega
  have j2 : (s.kind : Int) ≤ 255 := by omega
  have m2 : (0 : Int) ≤ (h.kind : Int) := by omega
  have n2 : (h.kind : Int) ≤ 255 := by omega
  have i3 : (0 : Int) ≤ (s.vers : Int) := by omega
  have j3 : (s.vers : Int) ≤ 4294967295 := by omega
  have m3 : (0 : Int) ≤ (h.vers : Int) := by omega
  have n3 : (h.vers : Int) ≤ 4294967295 := by omega
  have i4 : (0 : Int) ≤ (s.path : Int) := by omega
  have j4 : (s.path : Int) ≤ 18446744073709551615 := by omega
  have m4 : (0 : Int) ≤ (h.path : Int) := by omega
  have n4 : (h.path : Int) ≤ 18446744073709551615 := by omega
  have i5 : (0 : Int) ≤ (s.mode : Int) := by omega
  have j5 : (s.mode : Int) ≤ 4294967295 := by omega
  have m5 : (0 : Int) ≤ (h.mode : Int) := by omega
  have n5 : (h.mode : Int) ≤ 4294967295 := by omega
  have i6 : (0 : Int) ≤ (s.atime : Int) := by omega
  have j6 : (s.atime : Int) ≤ 4294967295 := by omega
  have m6 : (0 : Int) ≤ (h.atime : Int) := by omega
  have n6 : (h.atime : Int) ≤ 4294967295 := by omega
  have i7 : (0 : Int) ≤ (s.mtime : Int) := by omega
  have j7 : (s.mtime : Int) ≤ 4294967295 := by omega
  have m7 : (0 : Int) ≤ (h.mtime : Int) := by omega
  have n7 : (h.mtime : Int) ≤ 4294967295 := by omega
  have i8 : (0 : Int) ≤ (s.len : Int) := by omega
  have j8 : (s.len : Int) ≤ 18446744073709551615 := by omega
  have m8 : (0 : Int) ≤ (h.len : Int) := by omega
  have n8 : (h.len : Int) ≤ 18446744073709551615 := by omega
  clear hw1 hRA hRB s0 h0 s1 h1 s2 h2 s3 h3 s4 h4 s5 h5 s6 h6 s7 h7 s8 h8
  go_enter Tryz.func70, Tryz.ntmps70
  go_upto_region 2 with fail
  rw [← HW1.out, ← HRB.out, ← HRA.out]
  obtain ⟨t1, ht1⟩ : ∃ t, t = ((tb f 1 : Nat) : Int) := ⟨_, rfl⟩
  have HT1 := Lib.hid ht1
  clear ht1
  obtain ⟨z0, hz0⟩ : ∃ z : Int, (if f 0 = true then (((2 ^ 0 : Nat) : Nat) : Int) else 0) = z := ⟨_, rfl⟩
  have O0 : bits .or .u16 0 z0 = t1 := by have := NX.out 0 (by decide); rw [hz0, ← HT1.out] at this; exact this
  have SE0 := Lib.hid (fun w => rset_any w 1 z0 (f 0) hz0)
  have AP0 := Lib.hid (fun w => apart_any w (s.ty : Int) (h.ty : Int) 65535 (f 0) F0.out)
  clear hz0
  go_upto_region 3 with (first | (go_at_call 122; refine (AP0.out _).mono ?_; rintro e w2 ⟨rfl, rfl⟩; clear AP0) | (go_at_call 121; refine (SE0.out _).mono ?_; rintro e w2 ⟨rfl, rfl⟩; clear SE0))
  clear O0
  obtain ⟨t2, ht2⟩ : ∃ t, t = ((tb f 2 : Nat) : Int) := ⟨_, rfl⟩
  have HT2 := Lib.hid ht2
  clear ht2
  obtain ⟨z1, hz1⟩ : ∃ z : Int, (if f 1 = true then (((2 ^ 1 : Nat) : Nat) : Int) else 0) = z := ⟨_, rfl⟩
  have O1 : bits .or .u16 t1 z1 = t2 := by have := NX.out 1 (by decide); rw [hz1, ← HT1.out, ← HT2.out] at this; exact this
  have SE1 := Lib.hid (fun w => rset_any w 2 z1 (f 1) hz1)
  have AP1 := Lib.hid (fun w => apart_any w (s.dev : Int) (h.dev : Int) 4294967295 (f 1) F1.out)
  clear hz1
  go_upto_region 4 with (first | (go_at_call 122; refine (AP1.out _).mono ?_; rintro e w2 ⟨rfl, rfl⟩; clear AP1) | (go_at_call 121; refine (SE1.out _).mono ?_; rintro e w2 ⟨rfl, rfl⟩; clear SE1))
  clear O1
  obtain ⟨t3, ht3⟩ : ∃ t, t = ((tb f 3 : Nat) : Int) := ⟨_, rfl⟩
  have HT3 := Lib.hid ht3
  clear ht3
  obtain ⟨z2, hz2⟩ : ∃ z : Int, (if f 2 = true then (((2 ^ 2 : Nat) : Nat) : Int) else 0) = z := ⟨_, rfl⟩
  have O2 : bits .or .u16 t2 z2 = t3 := by have := NX.out 2 (by decide); rw [hz2, ← HT2.out, ← HT3.out] at this; exact this
  have SE2 := Lib.hid (fun w => rset_any w 4 z2 (f 2) hz2)
  have AP2 := Lib.hid (fun w => apart_any w (s.kind : Int) (h.kind : Int) 255 (f 2) F2.out)
  clear hz2
  go_upto_region 5 with (first | (go_at_call 122; refine (AP2.out _).mono ?_; rintro e w2 ⟨rfl, rfl⟩; clear AP2) | (go_at_call 121; refine (SE2.out _).mono ?_; rintro e w2 ⟨rfl, rfl⟩; clear SE2))
  clear O2
  obtain ⟨t4, ht4⟩ : ∃ t, t = ((tb f 4 : Nat) : Int) := ⟨_, rfl⟩
  have HT4 := Lib.hid ht4
  clear ht4
  obtain ⟨z3, hz3⟩ : ∃ z : Int, (if f 3 = true then (((2 ^ 3 : Nat) : Nat) : Int) else 0) = z := ⟨_, rfl⟩
  have O3 : bits .or .u16 t3 z3 = t4 := by have := NX.out 3 (by decide); rw [hz3, ← HT3.out, ← HT4.out] at this; exact this
  have SE3 := Lib.hid (fun w => rset_any w 8 z3 (f 3) hz3)
  have AP3 := Lib.hid (fun w => apart_any w (s.vers : Int) (h.vers : Int) 4294967295 (f 3) F3.out)
  clear hz3
  go_upto_region 6 with (first | (go_at_call 122; refine (AP3.out _).mono ?_; rintro e w2 ⟨rfl, rfl⟩; clear AP3) | (go_at_call 121; refine (SE3.out _).mono ?_; rintro e w2 ⟨rfl, rfl⟩; clear SE3))
  clear O3
  obtain ⟨t5, ht5⟩ : ∃ t, t = ((tb f 5 : Nat) : Int) := ⟨_, rfl⟩
  have HT5 := Lib.hid ht5
  clear ht5
  obtain ⟨z4, hz4⟩ : ∃ z : Int, (if f 4 = true then (((2 ^ 4 : Nat) : Nat) : Int) else 0) = z := ⟨_, rfl⟩
  have O4 : bits .or .u16 t4 z4 = t5 := by have := NX.out 4 (by decide); rw [hz4, ← HT4.out, ← HT5.out] at this; exact this
  have SE4 := Lib.hid (fun w => rset_any w 16 z4 (f 4) hz4)
  have AP4 := Lib.hid (fun w => apart_any w (s.path : Int) (h.path : Int) 18446744073709551615 (f 4) F4.out)
  clear hz4
  go_upto_region 7 with (first | (go_at_call 122; refine (AP4.out _).mono ?_; rintro e w2 ⟨rfl, rfl⟩; clear AP4) | (go_at_call 121; refine (SE4.out _).mono ?_; rintro e w2 ⟨rfl, rfl⟩; clear SE4))
  clear O4
  obtain ⟨t6, ht6⟩ : ∃ t, t = ((tb f 6 : Nat) : Int) := ⟨_, rfl⟩
  have HT6 := Lib.hid ht6
  clear ht6
  obtain ⟨z5, hz5⟩ : ∃ z : Int, (if f 5 = true then (((2 ^ 5 : Nat) : Nat) : Int) else 0) = z := ⟨_, rfl⟩
  have O5 : bits .or .u16 t5 z5 = t6 := by have := NX.out 5 (by decide); rw [hz5, ← HT5.out, ← HT6.out] at this; exact this
  have SE5 := Lib.hid (fun w => rset_any w 32 z5 (f 5) hz5)
  have AP5 := Lib.hid (fun w => apart_any w (s.mode : Int) (h.mode : Int) 4294967295 (f 5) F5.out)
  clear hz5
  go_upto_region 8 with (first | (go_at_call 122; refine (AP5.out _).mono ?_; rintro e w2 ⟨rfl, rfl⟩; clear AP5) | (go_at_call 121; refine (SE5.out _).mono ?_; rintro e w2 ⟨rfl, rfl⟩; clear SE5))
  clear O5
  obtain ⟨t7, ht7⟩ : ∃ t, t = ((tb f 7 : Nat) : Int) := ⟨_, rfl⟩
  have HT7 := Lib.hid ht7
  clear ht7
  obtain ⟨z6, hz6⟩ : ∃ z : Int, (if f 6 = true then (((2 ^ 6 : Nat) : Nat) : Int) else 0) = z := ⟨_, rfl⟩
  have O6 : bits .or .u16 t6 z6 = t7 := by have := NX.out 6 (by decide); rw [hz6, ← HT6.out, ← HT7.out] at this; exact this
  have SE6 := Lib.hid (fun w => rset_any w 64 z6 (f 6) hz6)
  have AP6 := Lib.hid (fun w => apart_any w (s.atime : Int) (h.atime : Int) 4294967295 (f 6) F6.out)
  clear hz6
  go_upto_region 9 with (first | (go_at_call 122; refine (AP6.out _).mono ?_; rintro e w2 ⟨rfl, rfl⟩; clear AP6) | (go_at_call 121; refine (SE6.out _).mono ?_; rintro e w2 ⟨rfl, rfl⟩; clear SE6))
  clear O6
  obtain ⟨t8, ht8⟩ : ∃ t, t = ((tb f 8 : Nat) : Int) := ⟨_, rfl⟩
  have HT8 := Lib.hid ht8
  clear ht8
  obtain ⟨z7, hz7⟩ : ∃ z : Int, (if f 7 = true then (((2 ^ 7 : Nat) : Nat) : Int) else 0) = z := ⟨_, rfl⟩
  have O7 : bits .or .u16 t7 z7 = t8 := by have := NX.out 7 (by decide); rw [hz7, ← HT7.out, ← HT8.out] at this; exact this
  have SE7 := Lib.hid (fun w => rset_any w 128 z7 (f 7) hz7)
  have AP7 := Lib.hid (fun w => apart_any w (s.mtime : Int) (h.mtime : Int) 4294967295 (f 7) F7.out)
  clear hz7
  go_upto_region 10 with (first | (go_at_call 122; refine (AP7.out _).mono ?_; rintro e w2 ⟨rfl, rfl⟩; clear AP7) | (go_at_call 121; refine (SE7.out _).mono ?_; rintro e w2 ⟨rfl, rfl⟩; clear SE7))
  clear O7
  obtain ⟨t9, ht9⟩ : ∃ t, t = ((tb f 9 : Nat) : Int) := ⟨_, rfl⟩
  have HT9 := Lib.hid ht9
  clear ht9
  obtain ⟨z8, hz8⟩ : ∃ z : Int, (if f 8 = true then (((2 ^ 8 : Nat) : Nat) : Int) else 0) = z := ⟨_, rfl⟩
  have O8 : bits .or .u16 t8 z8 = t9 := by have := NX.out 8 (by decide); rw [hz8, ← HT8.out, ← HT9.out] at this; exact this
  have SE8 := Lib.hid (fun w => rset_any w 256 z8 (f 8) hz8)
  have AP8 := Lib.hid (fun w => apart_any w (s.len : Int) (h.len : Int) 18446744073709551615 (f 8) F8.out)
  clear hz8
  go_upto_region 11 with (first | (go_at_call 122; refine (AP8.out _).mono ?_; rintro e w2 ⟨rfl, rfl⟩; clear AP8) | (go_at_call 121; refine (SE8.out _).mono ?_; rintro e w2 ⟨rfl, rfl⟩; clear SE8))
  clear O8
  obtain ⟨t10, ht10⟩ : ∃ t, t = ((tb f 10 : Nat) : Int) := ⟨_, rfl⟩
  have HT10 := Lib.hid ht10
  clear ht10
  obtain ⟨z9, hz9⟩ : ∃ z : Int, (if f 9 = true then (((2 ^ 9 : Nat) : Nat) : Int) else 0) = z := ⟨_, rfl⟩
  have O9 : bits .or .u16 t9 z9 = t10 := by have := NX.out 9 (by decide); rw [hz9, ← HT9.out, ← HT10.out] at this; exact this
  have SE9 := Lib.hid (fun w => rset_any w 512 z9 (f 9) hz9)
  clear hz9
  go_cut [5] from 98 to 110 (fun s5 wx => s5 = .int .u16 t10 ∧ w1 = wx)
  case first =>
    cases q1 : (s.name.toList == []) with
    | true =>
      have q0 : s.name.toList.isEmpty = true := by rw [List.isEmpty_iff]; simpa using q1
      have fk : f 9 = false := by rw [← F9.out, q1]; rfl
      rw [fk] at SE9
      go_wp2_with (first | (go_at_call 121; refine (SE9.out _).mono ?_; rintro e w2 ⟨rfl, rfl⟩))
      go_meet
      exact ⟨rfl, rfl⟩
    | false =>
      have q0 : s.name.toList.isEmpty = false := by rw [List.isEmpty_eq_false_iff]; simpa using q1
      cases q2 : (s.name.toList == h.name.toList) with
      | true =>
        have fk : f 9 = false := by rw [← F9.out, q1, q2]; rfl
        rw [fk] at SE9
        go_wp2_with (first | (go_at_call 121; refine (SE9.out _).mono ?_; rintro e w2 ⟨rfl, rfl⟩))
        go_meet
        exact ⟨rfl, rfl⟩
      | false =>
        have fk : f 9 = true := by rw [← F9.out, q1, q2]; rfl
        rw [fk] at SE9
        go_wp2_with (first | (go_at_call 121; refine (SE9.out _).mono ?_; rintro e w2 ⟨rfl, rfl⟩))
        go_meet
        exact ⟨rfl, rfl⟩
  case rest =>
    obtain ⟨rfl, hw⟩ := hcut
    subst hw
    clear SE9 O9
    obtain ⟨t11, ht11⟩ : ∃ t, t = ((tb f 11 : Nat) : Int) := ⟨_, rfl⟩
    have HT11 := Lib.hid ht11
    clear ht11
    obtain ⟨z10, hz10⟩ : ∃ z : Int, (if f 10 = true then (((2 ^ 10 : Nat) : Nat) : Int) else 0) = z := ⟨_, rfl⟩
    have O10 : bits .or .u16 t10 z10 = t11 := by have := NX.out 10 (by decide); rw [hz10, ← HT10.out, ← HT11.out] at this; exact this
    have SE10 := Lib.hid (fun w => rset_any w 1024 z10 (f 10) hz10)
    clear hz10
    go_upto_region 12 with fail
    go_cut [5] from 111 to 123 (fun s5 wx => s5 = .int .u16 t11 ∧ w1 = wx)
    case first =>
      cases q1 : (s.uid.toList == []) with
      | true =>
        have q0 : s.uid.toList.isEmpty = true := by rw [List.isEmpty_iff]; simpa using q1
        have fk : f 10 = false := by rw [← F10.out, q1]; rfl
        rw [fk] at SE10
        go_wp2_with (first | (go_at_call 121; refine (SE10.out _).mono ?_; rintro e w2 ⟨rfl, rfl⟩))
        go_meet
        exact ⟨rfl, rfl⟩
      | false =>
        have q0 : s.uid.toList.isEmpty = false := by rw [List.isEmpty_eq_false_iff]; simpa using q1
        cases q2 : (s.uid.toList == h.uid.toList) with
        | true =>
          have fk : f 10 = false := by rw [← F10.out, q1, q2]; rfl
          rw [fk] at SE10
          go_wp2_with (first | (go_at_call 121; refine (SE10.out _).mono ?_; rintro e w2 ⟨rfl, rfl⟩))
          go_meet
          exact ⟨rfl, rfl⟩
        | false =>
          have fk : f 10 = true := by rw [← F10.out, q1, q2]; rfl
          rw [fk] at SE10
          go_wp2_with (first | (go_at_call 121; refine (SE10.out _).mono ?_; rintro e w2 ⟨rfl, rfl⟩))
          go_meet
          exact ⟨rfl, rfl⟩
    case rest =>
      obtain ⟨rfl, hw⟩ := hcut
      subst hw
      clear SE10 O10
      obtain ⟨t12, ht12⟩ : ∃ t, t = ((tb f 12 : Nat) : Int) := ⟨_, rfl⟩
      have HT12 := Lib.hid ht12
      clear ht12
      obtain ⟨z11, hz11⟩ : ∃ z : Int, (if f 11 = true then (((2 ^ 11 : Nat) : Nat) : Int) else 0) = z := ⟨_, rfl⟩
      have O11 : bits .or .u16 t11 z11 = t12 := by have := NX.out 11 (by decide); rw [hz11, ← HT11.out, ← HT12.out] at this; exact this
      have SE11 := Lib.hid (fun w => rset_any w 2048 z11 (f 11) hz11)
      clear hz11
      go_upto_region 13 with fail
      go_cut [5] from 124 to 136 (fun s5 wx => s5 = .int .u16 t12 ∧ w1 = wx)
      case first =>
        cases q1 : (s.gid.toList == []) with
        | true =>
          have q0 : s.gid.toList.isEmpty = true := by rw [List.isEmpty_iff]; simpa using q1
          have fk : f 11 = false := by rw [← F11.out, q1]; rfl
          rw [fk] at SE11
          go_wp2_with (first | (go_at_call 121; refine (SE11.out _).mono ?_; rintro e w2 ⟨rfl, rfl⟩))
          go_meet
          exact ⟨rfl, rfl⟩
        | false =>
          have q0 : s.gid.toList.isEmpty = false := by rw [List.isEmpty_eq_false_iff]; simpa using q1
          cases q2 : (s.gid.toList == h.gid.toList) with
          | true =>
            have fk : f 11 = false := by rw [← F11.out, q1, q2]; rfl
            rw [fk] at SE11
            go_wp2_with (first | (go_at_call 121; refine (SE11.out _).mono ?_; rintro e w2 ⟨rfl, rfl⟩))
            go_meet
            exact ⟨rfl, rfl⟩
          | false =>
            have fk : f 11 = true := by rw [← F11.out, q1, q2]; rfl
            rw [fk] at SE11
            go_wp2_with (first | (go_at_call 121; refine (SE11.out _).mono ?_; rintro e w2 ⟨rfl, rfl⟩))
            go_meet
            exact ⟨rfl, rfl⟩
      case rest =>
        obtain ⟨rfl, hw⟩ := hcut
        subst hw
        clear SE11 O11
        obtain ⟨t13, ht13⟩ : ∃ t, t = ((tb f 13 : Nat) : Int) := ⟨_, rfl⟩
        have HT13 := Lib.hid ht13
        clear ht13
        obtain ⟨z12, hz12⟩ : ∃ z : Int, (if f 12 = true then (((2 ^ 12 : Nat) : Nat) : Int) else 0) = z := ⟨_, rfl⟩
        have O12 : bits .or .u16 t12 z12 = t13 := by have := NX.out 12 (by decide); rw [hz12, ← HT12.out, ← HT13.out] at this; exact this
        have SE12 := Lib.hid (fun w => rset_any w 4096 z12 (f 12) hz12)
        clear hz12
        go_upto_region 14 with fail
        go_cut [5] from 137 to 149 (fun s5 wx => s5 = .int .u16 t13 ∧ w1 = wx)
        case first =>
          cases q1 : (s.muid.toList == []) with
          | true =>
            have q0 : s.muid.toList.isEmpty = true := by rw [List.isEmpty_iff]; simpa using q1
            have fk : f 12 = false := by rw [← F12.out, q1]; rfl
            rw [fk] at SE12
            go_wp2_with (first | (go_at_call 121; refine (SE12.out _).mono ?_; rintro e w2 ⟨rfl, rfl⟩))
            go_meet
            exact ⟨rfl, rfl⟩
          | false =>
            have q0 : s.muid.toList.isEmpty = false := by rw [List.isEmpty_eq_false_iff]; simpa using q1
            cases q2 : (s.muid.toList == h.muid.toList) with
            | true =>
              have fk : f 12 = false := by rw [← F12.out, q1, q2]; rfl
              rw [fk] at SE12
              go_wp2_with (first | (go_at_call 121; refine (SE12.out _).mono ?_; rintro e w2 ⟨rfl, rfl⟩))
              go_meet
              exact ⟨rfl, rfl⟩
            | false =>
              have fk : f 12 = true := by rw [← F12.out, q1, q2]; rfl
              rw [fk] at SE12
              go_wp2_with (first | (go_at_call 121; refine (SE12.out _).mono ?_; rintro e w2 ⟨rfl, rfl⟩))
              go_meet
              exact ⟨rfl, rfl⟩
        case rest =>
          obtain ⟨rfl, hw⟩ := hcut
          subst hw
          clear SE12 O12
          go_wp2_with fail
          go_ret
          exact ⟨by have h13 := HT13.out; clear HT13; simp_all, K1.out⟩
end Ru
end Go.Proofs.YtahjmpfjidijaaaGreatDoor
