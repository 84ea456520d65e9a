/- names' words: a digit, what stands behind a `\`. -/
import Derived.Test.YtjdhgeikbkjnoaaDoorWmt
namespace Go.Proofs.YtjdhgeikbkjnoaaDoor
set_option linter.unusedVariables false
open Go.RowKit Go.Shelf
attribute [local go_sem] Oper.semAt_some
namespace Nm
open Go.Proofs.YtjdhgeikbkjnoaaDoor.Utf Go.Proofs.YtjdhgeikbkjnoaaDoor.Txt Go.PlainAid

def digs : ByteArray := ⟨#[48, 49, 50, 51, 52, 53, 54, 55, 56, 57, 97, 98, 99, 100, 101, 102]⟩
theorem index_hexd : ∀ n < 16, Lib.indexByte (dl digs) (hexd n) = n := by decide

set_option maxHeartbeats 8000000 in
set_option maxRecDepth 100000 in
theorem digit_any (w : World) (R : Nat) (s : ByteArray) (h : Rdg w R s) (n : Nat) (hn : n < 16) (l : List UInt8) (h0 : dl s = hexd n :: l) :
    Calls Tryd.prog 88 #[.pointer (some ⟨R, 0, none⟩)] w fun e w' => e = .returned (.int .u8 n) ∧ Kept [R] w w' ∧ ∃ t, dl t = l ∧ Rdg w' R t := by
  have BY := Lib.hid (byte_any w R s h (hexd n) l h0)
  have IX := Lib.hid (fun w => Tryd.strings_IndexByte digs (hexd n).toNat w)
  have hx := Lib.hid (index_hexd n hn)
  clear h h0
  go_enter Tryd.func88, Tryd.ntmps88
  go_wp2_with fail
  refine BY.out.mono ?_
  rintro e w2 ⟨rfl, k2, t, ht, hr⟩
  go_wp2_with fail
  refine (IX.out w2).mono ?_
  rintro e w3 ⟨rfl, rfl⟩
  have e1 : (((hexd n).toNat : Int)).toNat.toUInt8 = hexd n := by simp
  have e2 : Lib.indexByte digs.data.toList (((hexd n).toNat : Int)).toNat.toUInt8 = (n : Int) := by rw [e1]; exact hx.out
  rw [e2]
  clear e1 e2 IX hx
  have hw : IntKind.u8.wrap (n : Int) = n := by
    simp [IntKind.wrap, IntKind.signed, IntKind.bits]
    omega
  go_wp2_with fail
  go_ret
  exact ⟨rfl, k2, t, ht, hr⟩

theorem hex_or : ∀ h < 16, ∀ d < 16, bits BinOp.or IntKind.u8 ((h : Nat) * 16 : Int) ((d : Nat) : Int) = ((UInt8.ofNat (h * 16 + d)).toNat : Int) := by decide +kernel
set_option maxHeartbeats 8000000 in
set_option maxRecDepth 100000 in
theorem escaped_any (w : World) (R : Nat) (s : ByteArray) (h : Rdg w R s) (c : UInt8) (m : List UInt8) (he : Ecd (dl s) c m) :
    Calls Tryd.prog 79 #[.pointer (some ⟨R, 0, none⟩)] w fun e w' => e = .returned (.int .u8 c.toNat) ∧ Kept [R] w w' ∧ ∃ t, dl t = m ∧ Rdg w' R t := by
  have SE := Lib.hid (sees_any w R s ⟨#[39, 92]⟩ h)
  have BY := Lib.hid (byte_any w R s h)
  have SK := Lib.hid (fun w s h => skips_any w R s ⟨#[120]⟩ h)
  have DG := Lib.hid (fun w s h n hn l h0 => digit_any w R s h n hn l h0)
  have HR := Lib.hid h
  obtain ⟨q, hq⟩ : ∃ q, q = dl s := ⟨_, rfl⟩
  rw [← hq] at he SE
  have HQ := Lib.hid hq
  clear h hq
  go_enter Tryd.func79, Tryd.ntmps79
  cases he with
  | quo =>
    go_wp2_with fail
    refine SE.out.mono ?_
    rintro e w2 ⟨rfl, rfl⟩
    have e1 : see ⟨#[39, 92]⟩ (39 :: m) = true := by simp [see, dl, Lib.indexByte]
    rw [e1]
    clear e1
    go_wp2_with fail
    refine (BY.out 39 m HQ.out.symm).mono ?_
    rintro e w3 ⟨rfl, k, t, ht, hr⟩
    go_wp2_with fail
    go_ret
    exact ⟨rfl, k, t, ht, hr⟩
  | bsl =>
    go_wp2_with fail
    refine SE.out.mono ?_
    rintro e w2 ⟨rfl, rfl⟩
    have e1 : see ⟨#[39, 92]⟩ (92 :: m) = true := by simp [see, dl, Lib.indexByte]
    rw [e1]
    clear e1
    go_wp2_with fail
    refine (BY.out 92 m HQ.out.symm).mono ?_
    rintro e w3 ⟨rfl, k, t, ht, hr⟩
    go_wp2_with fail
    go_ret
    exact ⟨rfl, k, t, ht, hr⟩
  | hex h d _ hh hd =>
    go_wp2_with fail
    refine SE.out.mono ?_
    rintro e w2 ⟨rfl, rfl⟩
    have e1 : see ⟨#[39, 92]⟩ (120 :: hexd h :: hexd d :: m) = false := by simp [see, dl, Lib.indexByte]
    rw [e1]
    clear e1
    go_wp2_with fail
    have S1 := SK.out w2 s HR.out
    rw [← HQ.out] at S1
    have e1 : see ⟨#[120]⟩ (120 :: hexd h :: hexd d :: m) = true := by simp [see, dl, Lib.indexByte]
    rw [e1] at S1
    clear e1
    refine S1.mono ?_
    rintro e w3 ⟨rfl, k3, t3, ht3, hr3⟩
    have K3 := Lib.hid k3
    have D3 : Hid (dl t3 = hexd h :: hexd d :: m) := (by simpa using ht3 : dl t3 = hexd h :: hexd d :: m)
    clear k3 ht3 S1
    go_wp2_with fail
    refine (DG.out w3 t3 hr3 h hh _ D3.out).mono ?_
    rintro e w4 ⟨rfl, k4, t4, ht4, hr4⟩
    have K4 : Hid (Kept [R] w2 w4) := K3.out.trans k4 (fun i hi => Or.inl hi)
    have D4 := Lib.hid ht4
    clear k4 ht4
    go_wp2_with fail
    refine (DG.out w4 t4 hr4 d hd _ D4.out).mono ?_
    rintro e w5 ⟨rfl, k5, t5, ht5, hr5⟩
    have K5 : Hid (Kept [R] w2 w5) := K4.out.trans k5 (fun i hi => Or.inl hi)
    have D5 := Lib.hid ht5
    clear k5 ht5
    go_wp2_with fail
    go_ret
    exact ⟨by rw [← hex_or h hh d hd]; rfl, K5.out, t5, D5.out, hr5⟩
end Nm
end Go.Proofs.YtjdhgeikbkjnoaaDoor
