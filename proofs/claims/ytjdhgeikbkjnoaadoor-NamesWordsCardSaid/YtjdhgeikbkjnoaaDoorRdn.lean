/- names' reading: its small calls. -/
import Derived.Test.YtjdhgeikbkjnoaaDoorCln
namespace Go.Proofs.YtjdhgeikbkjnoaaDoor
set_option linter.unusedVariables false
open Go.RowKit Go.Shelf
attribute [local go_sem] Oper.semAt_some
namespace Nm
open Go.Proofs.YtjdhgeikbkjnoaaDoor.Utf Go.Proofs.YtjdhgeikbkjnoaaDoor.Txt Go.PlainAid

/-- What is left of a text that is read. -/
def Rdg (w : World) (R : Nat) (s : ByteArray) : Prop := w.heap[R]? = some (.cells #[.string s] 78 (0, 0))
theorem Rdg.facts {w : World} {R : Nat} {s : ByteArray} (h : Rdg w R s) : w.cell? ⟨R, 0, none⟩ = some (.string s) ∧ (∀ i, w.frozen? ⟨R, i, none⟩ = false) ∧ R < w.heap.size :=
  ⟨by rw [cell_of_row w R 0 _ _ (0, 0) h]; rfl, fun i => by unfold Rdg at h; simp [World.frozen?, h], block_lt h⟩
theorem Rdg.set {w : World} {R : Nat} {s : ByteArray} (h : Rdg w R s) (t : ByteArray) : Rdg (w.setCell ⟨R, 0, none⟩ (.string t)) R t := by
  have := heap_set (i := 0) (Value.string t) h
  simpa [Rdg] using this

theorem first {s : ByteArray} {c : UInt8} {l : List UInt8} (h : dl s = c :: l) (hz : 0 < s.size) : s[0] = c := by
  have e : (dl s)[0]? = some c := by rw [h]; rfl
  have e2 : (dl s)[0]? = some s[0] := by
    unfold dl
    rw [Array.getElem?_toList]
    exact Array.getElem?_eq_getElem hz
  rw [e2] at e
  cases e
  rfl

set_option maxHeartbeats 8000000 in
set_option maxRecDepth 100000 in
theorem ends_any (w : World) (R : Nat) (s : ByteArray) (h : Rdg w R s) :
    Calls Tryd.prog 44 #[.pointer (some ⟨R, 0, none⟩)] w fun e w' => e = .returned (.bool (dl s).isEmpty) ∧ w' = w := by
  obtain ⟨h1, h2, h3⟩ := h.facts
  go_enter Tryd.func44, Tryd.ntmps44
  go_wp2_with fail
  go_ret
  exact ⟨by rw [← toList_dl]; rfl, rfl⟩

set_option maxHeartbeats 8000000 in
set_option maxRecDepth 100000 in
theorem sees_none (w : World) (R : Nat) (s o : ByteArray) (h : Rdg w R s) (h0 : dl s = []) :
    Calls Tryd.prog 60 #[.pointer (some ⟨R, 0, none⟩), .string o] w fun e w' => e = .returned (.bool false) ∧ w' = w := by
  have E := ends_any w R s h
  rw [h0] at E
  obtain ⟨h1, h2, h3⟩ := h.facts
  go_enter Tryd.func60, Tryd.ntmps60
  go_wp2_with fail
  refine E.mono ?_
  rintro e w2 ⟨rfl, rfl⟩
  go_wp2_with fail
  go_ret
  exact ⟨rfl, rfl⟩

set_option maxHeartbeats 8000000 in
set_option maxRecDepth 100000 in
theorem sees_some (w : World) (R : Nat) (s o : ByteArray) (h : Rdg w R s) (c : UInt8) (l : List UInt8) (h0 : dl s = c :: l) :
    Calls Tryd.prog 60 #[.pointer (some ⟨R, 0, none⟩), .string o] w fun e w' => e = .returned (.bool (decide (0 ≤ Lib.indexByte (dl o) c))) ∧ w' = w := by
  have E := ends_any w R s h
  rw [h0] at E
  have IX := Lib.hid (Tryd.strings_IndexByte o c.toNat w)
  obtain ⟨h1, h2, h3⟩ := h.facts
  have hz : 0 < s.size := by rw [← dl_length, h0]; simp
  have hx := Lib.hid (first h0)
  go_enter Tryd.func60, Tryd.ntmps60
  go_wp2_with fail
  refine E.mono ?_
  rintro e w2 ⟨rfl, rfl⟩
  go_wp2_with fail
  rw [hx.out hz]
  refine IX.out.mono ?_
  rintro e w3 ⟨rfl, rfl⟩
  have e1 : ((c.toNat : Int)).toNat.toUInt8 = c := by simp
  have e2 : Lib.indexByte o.data.toList ((c.toNat : Int)).toNat.toUInt8 = Lib.indexByte (dl o) c := by rw [e1]; rfl
  rw [e2]
  clear e1 e2 IX
  obtain ⟨z, hz1⟩ : ∃ z, z = Lib.indexByte (dl o) c := ⟨_, rfl⟩
  rw [← hz1]
  by_cases hz2 : 0 ≤ z
  · go_wp2_with fail
    go_ret
    exact ⟨by simp, rfl⟩
  · go_wp2_with fail
    go_ret
    exact ⟨by simp, rfl⟩

/-- Does one of these come next? -/
def see (o : ByteArray) : List UInt8 → Bool
  | [] => false
  | c :: _ => decide (0 ≤ Lib.indexByte (dl o) c)
theorem sees_any (w : World) (R : Nat) (s o : ByteArray) (h : Rdg w R s) :
    Calls Tryd.prog 60 #[.pointer (some ⟨R, 0, none⟩), .string o] w fun e w' => e = .returned (.bool (see o (dl s))) ∧ w' = w := by
  cases h0 : dl s with
  | nil => exact sees_none w R s o h h0
  | cons c l => exact sees_some w R s o h c l h0

set_option maxHeartbeats 8000000 in
set_option maxRecDepth 100000 in
theorem byte_any (w : World) (R : Nat) (s : ByteArray) (h : Rdg w R s) (c : UInt8) (l : List UInt8) (h0 : dl s = c :: l) :
    Calls Tryd.prog 63 #[.pointer (some ⟨R, 0, none⟩)] w fun e w' => e = .returned (.int .u8 c.toNat) ∧ Kept [R] w w' ∧ ∃ t, dl t = l ∧ Rdg w' R t := by
  have E := ends_any w R s h
  rw [h0] at E
  obtain ⟨h1, h2, h3⟩ := h.facts
  have hz : 0 < s.size := by rw [← dl_length, h0]; simp
  have hx := Lib.hid (first h0)
  go_enter Tryd.func63, Tryd.ntmps63
  go_wp2_with fail
  refine E.mono ?_
  rintro e w2 ⟨rfl, rfl⟩
  go_wp2_with fail
  go_ret
  refine ⟨by rw [← hx.out hz]; rfl, (Kept.refl _ w2).setCell (p := ⟨R, 0, none⟩) (Or.inl (by simp)) _, _, ?_, h.set _⟩
  rw [dl_drop, h0]
  rfl

/-- One of these was next, and was gone over. -/
theorem skips_any (w : World) (R : Nat) (s o : ByteArray) (h : Rdg w R s) :
    Calls Tryd.prog 61 #[.pointer (some ⟨R, 0, none⟩), .string o] w fun e w' => e = .returned (.bool (see o (dl s))) ∧ Kept [R] w w' ∧ ∃ t, dl t = (if see o (dl s) = true then (dl s).tail else dl s) ∧ Rdg w' R t := by
  have E := sees_any w R s o h
  have B := Lib.hid (byte_any w R s h)
  have HR := Lib.hid h
  obtain ⟨b, hb⟩ : ∃ b, b = see o (dl s) := ⟨_, rfl⟩
  have HB := Lib.hid hb
  rw [← hb] at E ⊢
  clear hb
  go_enter Tryd.func61, Tryd.ntmps61
  go_wp2_with fail
  refine E.mono ?_
  rintro e w2 ⟨rfl, rfl⟩
  cases b with
  | false =>
    go_wp2_with fail
    go_ret
    exact ⟨rfl, Kept.refl _ _, s, by simp, HR.out⟩
  | true =>
    cases h0 : dl s with
    | nil => have := HB.out; rw [h0] at this; simp [see] at this
    | cons c l =>
      go_wp2_with fail
      refine (B.out c l h0).mono ?_
      rintro e w3 ⟨rfl, k3, t, ht, hr⟩
      go_wp2_with fail
      go_ret
      exact ⟨rfl, k3, t, by simp [ht], hr⟩

set_option maxHeartbeats 8000000 in
set_option maxRecDepth 100000 in
/-- A character of one byte. -/
theorem character_ascii (w : World) (R : Nat) (s : ByteArray) (h : Rdg w R s) (c : UInt8) (l : List UInt8) (h0 : dl s = c :: l) (hc : c.toNat < 128) :
    Calls Tryd.prog 84 #[.pointer (some ⟨R, 0, none⟩)] w fun e w' => e = .returned (.int .i32 c.toNat) ∧ Kept [R] w w' ∧ ∃ t, dl t = l ∧ Rdg w' R t := by
  have E := ends_any w R s h
  rw [h0] at E
  have DC := Lib.hid (Tryd.utf8_DecodeRuneInString_ascii s c w (by show (dl s)[0]? = _; rw [h0]; rfl) hc)
  obtain ⟨h1, h2, h3⟩ := h.facts
  have hz : 1 ≤ s.size := by rw [← dl_length, h0]; simp
  go_enter Tryd.func84, Tryd.ntmps84
  go_wp2_with fail
  refine E.mono ?_
  rintro e w2 ⟨rfl, rfl⟩
  go_wp2_with fail
  refine DC.out.mono ?_
  rintro e w3 ⟨rfl, rfl⟩
  go_wp2_with fail
  go_ret
  refine ⟨rfl, (Kept.refl _ w3).setCell (p := ⟨R, 0, none⟩) (Or.inl (by simp)) _, _, ?_, h.set _⟩
  rw [dl_drop, h0]
  rfl

set_option maxHeartbeats 8000000 in
set_option maxRecDepth 100000 in
theorem meant_ascii (w : World) (R : Nat) (s : ByteArray) (h : Rdg w R s) (c : UInt8) (l : List UInt8) (h0 : dl s = c :: l) (hc : c.toNat < 128) (h9 : c ≠ 92) :
    Calls Tryd.prog 69 #[.pointer (some ⟨R, 0, none⟩)] w fun e w' => e = .returned (.int .i32 c.toNat) ∧ Kept [R] w w' ∧ ∃ t, dl t = l ∧ Rdg w' R t := by
  have E := skips_any w R s ⟨#[92]⟩ h
  have hs : see ⟨#[92]⟩ (dl s) = false := by
    rw [h0]
    simp [see, dl, Lib.indexByte, Ne.symm h9]
  rw [hs] at E
  have CH := Lib.hid (fun w s h h0 => character_ascii w R s h c l h0 hc)
  go_enter Tryd.func69, Tryd.ntmps69
  go_wp2_with fail
  refine E.mono ?_
  rintro e w2 ⟨rfl, k2, t, ht, hr⟩
  go_wp2_with fail
  refine (CH.out w2 t hr (by rw [ht, ← h0]; rfl)).mono ?_
  rintro e w3 ⟨rfl, k3, u, hu, hr3⟩
  go_wp2_with fail
  go_ret
  exact ⟨rfl, k2.trans k3 (fun i hi => Or.inl hi), u, hu, hr3⟩

set_option maxHeartbeats 8000000 in
set_option maxRecDepth 100000 in
theorem one_ascii (w : World) (R : Nat) (s : ByteArray) (h : Rdg w R s) (c : UInt8) (l : List UInt8) (h0 : dl s = c :: l) (hc : c.toNat < 128) (h9 : c ≠ 92) (h8 : c ≠ 93) (h7 : c ≠ 45) :
    Calls Tryd.prog 92 #[.pointer (some ⟨R, 0, none⟩)] w fun e w' => e = .returned (.int .i32 c.toNat) ∧ Kept [R] w w' ∧ ∃ t, dl t = l ∧ Rdg w' R t := by
  have E := sees_any w R s ⟨#[93, 45]⟩ h
  have hs : see ⟨#[93, 45]⟩ (dl s) = false := by
    rw [h0]
    simp [see, dl, Lib.indexByte, Ne.symm h8, Ne.symm h7]
  rw [hs] at E
  have CH := Lib.hid (meant_ascii w R s h c l h0 hc h9)
  go_enter Tryd.func92, Tryd.ntmps92
  go_wp2_with fail
  refine E.mono ?_
  rintro e w2 ⟨rfl, rfl⟩
  go_wp2_with fail
  refine CH.out.mono ?_
  rintro e w3 ⟨rfl, k3, u, hu, hr3⟩
  go_wp2_with fail
  go_ret
  exact ⟨rfl, k3, u, hu, hr3⟩
end Nm
end Go.Proofs.YtjdhgeikbkjnoaaDoor
