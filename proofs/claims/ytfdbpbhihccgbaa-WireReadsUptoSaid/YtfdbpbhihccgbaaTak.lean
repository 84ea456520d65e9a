/- take, at its widths: the number whose bytes come next, the lowest one first; 0, where the reader is wrong. -/
import Derived.Test.YtfdbpbhihccgbaaNxt
namespace Go.Proofs.Ytfdbpbhihccgbaa
set_option linter.unusedVariables false
open Go.RowKit

/-- The number that bytes make, the lowest one first. -/
def leval : List UInt8 → Nat
  | [] => 0
  | b :: l => b.toNat + 256 * leval l

namespace Rdr
open Go.Proofs.Ytfdbpbhihccgbaa.Txt

/-- A slice's cells, one by one. -/
theorem seg_cells {w : World} {v : Value} {bs : List UInt8} {T : List Nat} (h : Seg w v bs T) (hl : 0 < bs.length) : ∃ b o c, v = .slice (some ⟨b, o, none⟩) bs.length c ∧ ∀ j (hj : j < bs.length), w.cell? ⟨b, o + j, none⟩ = some (.int .u8 (bs[j]).toNat) := by
  rcases h with ⟨rfl, rfl⟩ | ⟨b, o, c, rfl, _, _, h4⟩
  · simp at hl
  · exact ⟨b, o, c, rfl, fun j hj => h4 j _ (by rw [List.getElem?_map, List.getElem?_eq_getElem hj]; rfl)⟩

theorem or_8 (a b m i : Nat) (hm : m = 2 ^ i) (ha : a < m) (hb : b * m < 256) (hm1 : m < 256) : bits .or .u8 (a : Int) ((b * m : Nat) : Int) = ((a + b * m : Nat) : Int) := by
  have e : a ||| b * m = a + b * m := by
    subst hm
    rw [Nat.or_comm, Nat.mul_comm, ← Nat.two_pow_add_eq_or_of_lt ha, Nat.add_comm]
  have hx : a ||| b * m < 2 ^ 8 := Nat.or_lt_two_pow (by omega) (by omega)
  have h1 : (BitVec.ofInt 8 (a : Int)).toNat = a := by
    rw [BitVec.ofInt_natCast, BitVec.toNat_ofNat]; exact Nat.mod_eq_of_lt (by omega)
  have h2 : (BitVec.ofInt 8 ((b * m : Nat) : Int)).toNat = b * m := by
    rw [BitVec.ofInt_natCast, BitVec.toNat_ofNat]; exact Nat.mod_eq_of_lt (by omega)
  show IntKind.u8.wrap ((BitVec.ofInt 8 (a : Int) ||| BitVec.ofInt 8 ((b * m : Nat) : Int)).toNat : Int) = _
  rw [BitVec.toNat_or, h1, h2, IntKind.wrap_u8, e]
  rw [e] at hx
  omega
theorem or_16 (a b m i : Nat) (hm : m = 2 ^ i) (ha : a < m) (hb : b * m < 65536) (hm1 : m < 65536) : bits .or .u16 (a : Int) ((b * m : Nat) : Int) = ((a + b * m : Nat) : Int) := by
  have e : a ||| b * m = a + b * m := by
    subst hm
    rw [Nat.or_comm, Nat.mul_comm, ← Nat.two_pow_add_eq_or_of_lt ha, Nat.add_comm]
  have hx : a ||| b * m < 2 ^ 16 := Nat.or_lt_two_pow (by omega) (by omega)
  have h1 : (BitVec.ofInt 16 (a : Int)).toNat = a := by
    rw [BitVec.ofInt_natCast, BitVec.toNat_ofNat]; exact Nat.mod_eq_of_lt (by omega)
  have h2 : (BitVec.ofInt 16 ((b * m : Nat) : Int)).toNat = b * m := by
    rw [BitVec.ofInt_natCast, BitVec.toNat_ofNat]; exact Nat.mod_eq_of_lt (by omega)
  show IntKind.u16.wrap ((BitVec.ofInt 16 (a : Int) ||| BitVec.ofInt 16 ((b * m : Nat) : Int)).toNat : Int) = _
  rw [BitVec.toNat_or, h1, h2, IntKind.wrap_u16, e]
  rw [e] at hx
  omega
theorem or_32 (a b m i : Nat) (hm : m = 2 ^ i) (ha : a < m) (hb : b * m < 4294967296) (hm1 : m < 4294967296) : bits .or .u32 (a : Int) ((b * m : Nat) : Int) = ((a + b * m : Nat) : Int) := by
  have e : a ||| b * m = a + b * m := by
    subst hm
    rw [Nat.or_comm, Nat.mul_comm, ← Nat.two_pow_add_eq_or_of_lt ha, Nat.add_comm]
  have hx : a ||| b * m < 2 ^ 32 := Nat.or_lt_two_pow (by omega) (by omega)
  have h1 : (BitVec.ofInt 32 (a : Int)).toNat = a := by
    rw [BitVec.ofInt_natCast, BitVec.toNat_ofNat]; exact Nat.mod_eq_of_lt (by omega)
  have h2 : (BitVec.ofInt 32 ((b * m : Nat) : Int)).toNat = b * m := by
    rw [BitVec.ofInt_natCast, BitVec.toNat_ofNat]; exact Nat.mod_eq_of_lt (by omega)
  show IntKind.u32.wrap ((BitVec.ofInt 32 (a : Int) ||| BitVec.ofInt 32 ((b * m : Nat) : Int)).toNat : Int) = _
  rw [BitVec.toNat_or, h1, h2, IntKind.wrap_u32, e]
  rw [e] at hx
  omega
theorem or_64 (a b m i : Nat) (hm : m = 2 ^ i) (ha : a < m) (hb : b * m < 18446744073709551616) (hm1 : m < 18446744073709551616) : bits .or .u64 (a : Int) ((b * m : Nat) : Int) = ((a + b * m : Nat) : Int) := by
  have e : a ||| b * m = a + b * m := by
    subst hm
    rw [Nat.or_comm, Nat.mul_comm, ← Nat.two_pow_add_eq_or_of_lt ha, Nat.add_comm]
  have hx : a ||| b * m < 2 ^ 64 := Nat.or_lt_two_pow (by omega) (by omega)
  have h1 : (BitVec.ofInt 64 (a : Int)).toNat = a := by
    rw [BitVec.ofInt_natCast, BitVec.toNat_ofNat]; exact Nat.mod_eq_of_lt (by omega)
  have h2 : (BitVec.ofInt 64 ((b * m : Nat) : Int)).toNat = b * m := by
    rw [BitVec.ofInt_natCast, BitVec.toNat_ofNat]; exact Nat.mod_eq_of_lt (by omega)
  show IntKind.u64.wrap ((BitVec.ofInt 64 (a : Int) ||| BitVec.ofInt 64 ((b * m : Nat) : Int)).toNat : Int) = _
  rw [BitVec.toNat_or, h1, h2, IntKind.wrap_u64, e]
  rw [e] at hx
  omega
theorem val8 (b0 : Nat) (h0 : b0 < 256) : bits BinOp.or IntKind.u8 ((0 : Int)) (IntKind.u8.wrap (b0 : Int)) = ((b0 + 256 * (0) : Nat) : Int) := by
  have w0 : IntKind.u8.wrap (b0 : Int) = ((b0 * 1 : Nat) : Int) := by rw [IntKind.wrap_u8]; omega
  rw [w0]
  rw [show (0 : Int) = ((0 : Nat) : Int) from rfl]
  rw [or_8 (0) b0 1 0 (by decide) (by omega) (by omega) (by decide)]
  congr 1
  omega
theorem val16 (b0 b1 : Nat) (h0 : b0 < 256) (h1 : b1 < 256) : bits BinOp.or IntKind.u16 (bits BinOp.or IntKind.u16 ((0 : Int)) (IntKind.u16.wrap (IntKind.u16.wrap (b0 : Int)))) (IntKind.u16.wrap (IntKind.u16.wrap (b1 : Int) * 256)) = ((b0 + 256 * (b1 + 256 * (0)) : Nat) : Int) := by
  have w0 : IntKind.u16.wrap (IntKind.u16.wrap (b0 : Int)) = ((b0 * 1 : Nat) : Int) := by rw [IntKind.wrap_u16, IntKind.wrap_u16]; omega
  have w1 : IntKind.u16.wrap (IntKind.u16.wrap (b1 : Int) * 256) = ((b1 * 256 : Nat) : Int) := by rw [IntKind.wrap_u16, IntKind.wrap_u16]; omega
  rw [w0, w1]
  rw [show (0 : Int) = ((0 : Nat) : Int) from rfl]
  rw [or_16 (0) b0 1 0 (by decide) (by omega) (by omega) (by decide)]
  rw [or_16 (0 + b0 * 1) b1 256 8 (by decide) (by omega) (by omega) (by decide)]
  congr 1
  omega
theorem val32 (b0 b1 b2 b3 : Nat) (h0 : b0 < 256) (h1 : b1 < 256) (h2 : b2 < 256) (h3 : b3 < 256) : bits BinOp.or IntKind.u32 (bits BinOp.or IntKind.u32 (bits BinOp.or IntKind.u32 (bits BinOp.or IntKind.u32 ((0 : Int)) ((b0 : Int) % 4294967296)) ((b1 : Int) % 4294967296 * 256 % 4294967296)) ((b2 : Int) % 4294967296 * 65536 % 4294967296)) ((b3 : Int) % 4294967296 * 16777216 % 4294967296) = ((b0 + 256 * (b1 + 256 * (b2 + 256 * (b3 + 256 * (0)))) : Nat) : Int) := by
  have w0 : (b0 : Int) % 4294967296 = ((b0 * 1 : Nat) : Int) := by omega
  have w1 : (b1 : Int) % 4294967296 * 256 % 4294967296 = ((b1 * 256 : Nat) : Int) := by omega
  have w2 : (b2 : Int) % 4294967296 * 65536 % 4294967296 = ((b2 * 65536 : Nat) : Int) := by omega
  have w3 : (b3 : Int) % 4294967296 * 16777216 % 4294967296 = ((b3 * 16777216 : Nat) : Int) := by omega
  rw [w0, w1, w2, w3]
  rw [show (0 : Int) = ((0 : Nat) : Int) from rfl]
  rw [or_32 (0) b0 1 0 (by decide) (by omega) (by omega) (by decide)]
  rw [or_32 (0 + b0 * 1) b1 256 8 (by decide) (by omega) (by omega) (by decide)]
  rw [or_32 (0 + b0 * 1 + b1 * 256) b2 65536 16 (by decide) (by omega) (by omega) (by decide)]
  rw [or_32 (0 + b0 * 1 + b1 * 256 + b2 * 65536) b3 16777216 24 (by decide) (by omega) (by omega) (by decide)]
  congr 1
  omega
theorem val64 (b0 b1 b2 b3 b4 b5 b6 b7 : Nat) (h0 : b0 < 256) (h1 : b1 < 256) (h2 : b2 < 256) (h3 : b3 < 256) (h4 : b4 < 256) (h5 : b5 < 256) (h6 : b6 < 256) (h7 : b7 < 256) : bits BinOp.or IntKind.u64 (bits BinOp.or IntKind.u64 (bits BinOp.or IntKind.u64 (bits BinOp.or IntKind.u64 (bits BinOp.or IntKind.u64 (bits BinOp.or IntKind.u64 (bits BinOp.or IntKind.u64 (bits BinOp.or IntKind.u64 ((0 : Int)) ((b0 : Int) % 18446744073709551616)) ((b1 : Int) % 18446744073709551616 * 256 % 18446744073709551616)) ((b2 : Int) % 18446744073709551616 * 65536 % 18446744073709551616)) ((b3 : Int) % 18446744073709551616 * 16777216 % 18446744073709551616)) ((b4 : Int) % 18446744073709551616 * 4294967296 % 18446744073709551616)) ((b5 : Int) % 18446744073709551616 * 1099511627776 % 18446744073709551616)) ((b6 : Int) % 18446744073709551616 * 281474976710656 % 18446744073709551616)) ((b7 : Int) % 18446744073709551616 * 72057594037927936 % 18446744073709551616) = ((b0 + 256 * (b1 + 256 * (b2 + 256 * (b3 + 256 * (b4 + 256 * (b5 + 256 * (b6 + 256 * (b7 + 256 * (0)))))))) : Nat) : Int) := by
  have w0 : (b0 : Int) % 18446744073709551616 = ((b0 * 1 : Nat) : Int) := by omega
  have w1 : (b1 : Int) % 18446744073709551616 * 256 % 18446744073709551616 = ((b1 * 256 : Nat) : Int) := by omega
  have w2 : (b2 : Int) % 18446744073709551616 * 65536 % 18446744073709551616 = ((b2 * 65536 : Nat) : Int) := by omega
  have w3 : (b3 : Int) % 18446744073709551616 * 16777216 % 18446744073709551616 = ((b3 * 16777216 : Nat) : Int) := by omega
  have w4 : (b4 : Int) % 18446744073709551616 * 4294967296 % 18446744073709551616 = ((b4 * 4294967296 : Nat) : Int) := by omega
  have w5 : (b5 : Int) % 18446744073709551616 * 1099511627776 % 18446744073709551616 = ((b5 * 1099511627776 : Nat) : Int) := by omega
  have w6 : (b6 : Int) % 18446744073709551616 * 281474976710656 % 18446744073709551616 = ((b6 * 281474976710656 : Nat) : Int) := by omega
  have w7 : (b7 : Int) % 18446744073709551616 * 72057594037927936 % 18446744073709551616 = ((b7 * 72057594037927936 : Nat) : Int) := by omega
  rw [w0, w1, w2, w3, w4, w5, w6, w7]
  rw [show (0 : Int) = ((0 : Nat) : Int) from rfl]
  rw [or_64 (0) b0 1 0 (by decide) (by omega) (by omega) (by decide)]
  rw [or_64 (0 + b0 * 1) b1 256 8 (by decide) (by omega) (by omega) (by decide)]
  rw [or_64 (0 + b0 * 1 + b1 * 256) b2 65536 16 (by decide) (by omega) (by omega) (by decide)]
  rw [or_64 (0 + b0 * 1 + b1 * 256 + b2 * 65536) b3 16777216 24 (by decide) (by omega) (by omega) (by decide)]
  rw [or_64 (0 + b0 * 1 + b1 * 256 + b2 * 65536 + b3 * 16777216) b4 4294967296 32 (by decide) (by omega) (by omega) (by decide)]
  rw [or_64 (0 + b0 * 1 + b1 * 256 + b2 * 65536 + b3 * 16777216 + b4 * 4294967296) b5 1099511627776 40 (by decide) (by omega) (by omega) (by decide)]
  rw [or_64 (0 + b0 * 1 + b1 * 256 + b2 * 65536 + b3 * 16777216 + b4 * 4294967296 + b5 * 1099511627776) b6 281474976710656 48 (by decide) (by omega) (by omega) (by decide)]
  rw [or_64 (0 + b0 * 1 + b1 * 256 + b2 * 65536 + b3 * 16777216 + b4 * 4294967296 + b5 * 1099511627776 + b6 * 281474976710656) b7 72057594037927936 56 (by decide) (by omega) (by omega) (by decide)]
  congr 1
  omega
set_option maxHeartbeats 1000000 in
theorem take8 (w : World) (r : Nat) (T : List Nat) (st : RS) (ok : Hid st.Ok) (h : Hid (Rd w r T st)) :
    Calls Try.prog 67 #[.pointer (some ⟨r, 0, none⟩)] w fun e w' => e = .returned (.int .u8 (leval (st.got 1))) ∧ Hid (Rd w' r T (st.next 1)) ∧ Kept [r] w w' := by
  have hg : (st.got 1).length = 0 ∨ (st.got 1).length = 1 := by
    unfold RS.got
    repeat' split
    · exact Or.inl rfl
    · exact Or.inl rfl
    · exact Or.inr (by simp; omega)
  obtain ⟨g, hgg⟩ : ∃ g, g = st.got 1 := ⟨_, rfl⟩
  rw [← hgg] at hg ⊢
  have HG := Lib.hid hgg
  clear hgg
  rcases hg with hg | hg
  · obtain rfl : g = [] := List.eq_nil_of_length_eq_zero hg
    clear hg
    go_enter Try.func67, Try.ntmps67
    go_wp2_with fail
    refine (Wid.width_8 _).mono ?_
    rintro e w1 ⟨rfl, rfl⟩
    go_wp2_with fail
    refine (next_any _ r T st _ 1 rfl ok h).mono ?_
    rintro e w2 ⟨v, rfl, h1, h2, h3⟩
    rw [← HG.out] at h1
    obtain ⟨a, c, rfl⟩ := h1.out.slice
    go_wp2_with fail
    refine wp_loop_rounds 1 ?_
    rw [rounds_succ]
    go_wp2_with fail
    go_ret
    exact ⟨rfl, h2, h3⟩
  · match g, hg with
    | [b0], _ =>
      go_enter Try.func67, Try.ntmps67
      go_wp2_with fail
      refine (Wid.width_8 _).mono ?_
      rintro e w1 ⟨rfl, rfl⟩
      go_wp2_with fail
      refine (next_any _ r T st _ 1 rfl ok h).mono ?_
      rintro e w2 ⟨v, rfl, h1, h2, h3⟩
      rw [← HG.out] at h1
      obtain ⟨b, o, c, rfl, hc⟩ := seg_cells h1.out (by simp)
      have d0 := hc 0 (by simp)
      clear hc
      simp only [List.getElem_cons_zero, Nat.add_zero] at d0
      go_wp2_with fail
      refine wp_loop_rounds 2 ?_
      rw [rounds_succ]
      go_wp2_with fail
      rw [rounds_succ]
      go_wp2_with fail
      go_ret
      refine ⟨Txt.ret_int ?_, h2, h3⟩
      have t0 := b0.toNat_lt
      clear d0
      exact val8 b0.toNat (by omega)
set_option maxHeartbeats 1000000 in
theorem take16 (w : World) (r : Nat) (T : List Nat) (st : RS) (ok : Hid st.Ok) (h : Hid (Rd w r T st)) :
    Calls Try.prog 64 #[.pointer (some ⟨r, 0, none⟩)] w fun e w' => e = .returned (.int .u16 (leval (st.got 2))) ∧ Hid (Rd w' r T (st.next 2)) ∧ Kept [r] w w' := by
  have hg : (st.got 2).length = 0 ∨ (st.got 2).length = 2 := by
    unfold RS.got
    repeat' split
    · exact Or.inl rfl
    · exact Or.inl rfl
    · exact Or.inr (by simp; omega)
  obtain ⟨g, hgg⟩ : ∃ g, g = st.got 2 := ⟨_, rfl⟩
  rw [← hgg] at hg ⊢
  have HG := Lib.hid hgg
  clear hgg
  rcases hg with hg | hg
  · obtain rfl : g = [] := List.eq_nil_of_length_eq_zero hg
    clear hg
    go_enter Try.func64, Try.ntmps64
    go_wp2_with fail
    refine (Wid.width_16 _).mono ?_
    rintro e w1 ⟨rfl, rfl⟩
    go_wp2_with fail
    refine (next_any _ r T st _ 2 rfl ok h).mono ?_
    rintro e w2 ⟨v, rfl, h1, h2, h3⟩
    rw [← HG.out] at h1
    obtain ⟨a, c, rfl⟩ := h1.out.slice
    go_wp2_with fail
    refine wp_loop_rounds 1 ?_
    rw [rounds_succ]
    go_wp2_with fail
    go_ret
    exact ⟨rfl, h2, h3⟩
  · match g, hg with
    | [b0, b1], _ =>
      go_enter Try.func64, Try.ntmps64
      go_wp2_with fail
      refine (Wid.width_16 _).mono ?_
      rintro e w1 ⟨rfl, rfl⟩
      go_wp2_with fail
      refine (next_any _ r T st _ 2 rfl ok h).mono ?_
      rintro e w2 ⟨v, rfl, h1, h2, h3⟩
      rw [← HG.out] at h1
      obtain ⟨b, o, c, rfl, hc⟩ := seg_cells h1.out (by simp)
      have d0 := hc 0 (by simp)
      have d1 := hc 1 (by simp)
      clear hc
      simp only [List.getElem_cons_zero, List.getElem_cons_succ, Nat.add_zero] at d0 d1
      go_wp2_with fail
      refine wp_loop_rounds 3 ?_
      rw [rounds_succ]
      go_wp2_with fail
      rw [rounds_succ]
      go_wp2_with fail
      rw [rounds_succ]
      go_wp2_with fail
      go_ret
      refine ⟨Txt.ret_int ?_, h2, h3⟩
      have t0 := b0.toNat_lt
      have t1 := b1.toNat_lt
      clear d0 d1
      exact val16 b0.toNat b1.toNat (by omega) (by omega)
end Rdr
end Go.Proofs.Ytfdbpbhihccgbaa
