/- names' words: a word. -/
import Derived.Test.YtjdhgeikbkjnoaaDoorWqt
import Derived.Test.YtjdhgeikbkjnoaaDoorMpt
import Derived.Lib.BufferRead
import Derived.Laws.IdiomStrings
namespace Go.Proofs.YtjdhgeikbkjnoaaDoor
set_option linter.unusedVariables false
open Go.RowKit Go.Shelf
attribute [local go_sem] Oper.semAt_some
namespace Nm
open Go.Proofs.YtjdhgeikbkjnoaaDoor.Utf Go.Proofs.YtjdhgeikbkjnoaaDoor.Txt Go.PlainAid

theorem own_src {w : World} {B size : Nat} {e : TypeId} {v : Value} {n : Nat} {xs : List Value} (h : w.ownsRow B e size v n xs) (hl : xs.length = n * size) : RowSrc w v n xs := by
  rcases h.2 with ⟨rfl, rfl⟩ | ⟨g, cap, cur, rfl, -⟩
  · exact Or.inl ⟨rfl, rfl, List.eq_nil_of_length_eq_zero (by simpa using hl)⟩
  · refine Or.inr ⟨⟨g, 0, none⟩, cap, rfl, fun j u hu => ?_⟩
    have hadd : (⟨g, 0, none⟩ : Addr).add j = ⟨g, j, none⟩ := by unfold Addr.add; split <;> simp_all
    rw [hadd]
    exact (World.ownsRow.cellAt h j (by have := (List.getElem?_eq_some_iff.1 hu).1; omega)).trans hu
theorem conv_bys {w : World} {B : Nat} {v : Value} {l : List UInt8} (h : w.ownsRow B 5 1 v l.length (bys l)) : (convert 67 9 v).run Tryd.prog w = .ok (.string (toB l)) w := by
  rcases h.2 with ⟨rfl, h0⟩ | ⟨g, cap, cur, rfl, -⟩
  · rw [List.eq_nil_of_length_eq_zero h0]
    exact Lib.run_convert_nil_bytes w 67 9 5 0 Tryd.underlying67 Tryd.underlying5 Tryd.underlying9
  · exact run_convert_bytes_back w 67 9 5 ⟨g, 0, none⟩ cap l Tryd.underlying67 Tryd.underlying5 Tryd.underlying9 (fun j hj => by
      have hadd : (⟨g, 0, none⟩ : Addr).add j = ⟨g, j, none⟩ := by unfold Addr.add; split <;> simp_all
      rw [hadd, World.ownsRow.cellAt h j (by omega)]
      unfold bys
      rw [List.getElem?_map, List.getElem?_eq_getElem hj]
      rfl)

/-- What a read word is. -/
def WrdOut (w : World) (R : Nat) (b r : List UInt8) (e : Ending) (w' : World) : Prop := ∃ s, e = .returned (.string (toB b)) ∧ Hid (Kept [R] w w') ∧ Hid (Rdg w' R s) ∧ Hid (dl s = r)
theorem see_blank (c : UInt8) (l : List UInt8) : see ⟨#[32, 9]⟩ (c :: l) = blank c := by
  unfold see blank
  by_cases h1 : c = 32
  · subst h1; show decide (0 ≤ Lib.indexByte (dl ⟨#[32, 9]⟩) 32) = _; decide
  · by_cases h2 : c = 9
    · subst h2; show decide (0 ≤ Lib.indexByte (dl ⟨#[32, 9]⟩) 9) = _; decide
    · simp [dl, Lib.indexByte, Ne.symm h1, Ne.symm h2, h1, h2]

set_option maxHeartbeats 8000000 in
set_option maxRecDepth 100000 in
theorem word_any (w : World) (R : Nat) (s : ByteArray) (h : Rdg w R s) (b r : List UInt8) (hq : Wrd (dl s) b r) (hb : b.length ≤ 1073741824) :
    Calls Tryd.prog 45 #[.pointer (some ⟨R, 0, none⟩)] w (WrdOut w R b r) := by
  obtain ⟨i0, hi0, hz00, hz01, hz02⟩ := info_parts info_by
  have EN := Lib.hid (fun w s h => ends_any w R s h)
  have SE := Lib.hid (fun w s h o => sees_any w R s o h)
  have SK := Lib.hid (fun w s h o => skips_any w R s o h)
  have QU := Lib.hid (fun w s h b r hq hb => quoted_any w R s h b r hq hb)
  have BY := Lib.hid (fun w s h c l h0 => byte_any w R s h c l h0)
  have G0 : Hid (Gat w R (.slice none 0 0) [] s w) := ⟨World.ownsRow_nil _ _ _ _, h, Kept.refl _ _, block_lt h⟩
  have Q0 := Lib.hid hq
  have HB := Lib.hid hb
  clear h hq hb
  go_enter Tryd.func45, Tryd.ntmps45
  go_wp2_with fail
  go_loopw [3] (fun bv wr => ∃ (s' : ByteArray) (xs ys : List UInt8) (v : Value), v = bv ∧ Hid (Gat w R v xs s' wr) ∧ Hid (Wrd (dl s') ys r) ∧ Hid (xs ++ ys = b)) (fun _ wr => lft wr R)
  case atStart => exact ⟨s, [], b, _, rfl, G0.out, Q0.out, rfl⟩
  case round =>
    obtain ⟨s', xs, ys, v, hv, hG, hQ, hX⟩ := hrel
    have hlen : xs.length + ys.length ≤ 1073741824 := by rw [← List.length_append, hX.out]; exact HB.out
    obtain ⟨va, vc, rfl⟩ := own_slice2 hG.out.row
    subst hv
    obtain ⟨q, hq⟩ : ∃ q, q = dl s' := ⟨_, rfl⟩
    have HQ := Lib.hid hq
    have hQ2 := hQ.out
    rw [← hq] at hQ2
    have EN1 := EN.out wr s' hG.out.rd
    have SE1 := Lib.hid (SE.out wr s' hG.out.rd ⟨#[32, 9]⟩)
    rw [← hq] at EN1 SE1
    have ML := lft_rd hG.out.rd
    rw [← hq] at ML
    have MLh := Lib.hid ML
    clear hq hQ ML
    cases hQ2 with
    | nil =>
      have e2 : xs = b := by simpa using hX.out
      have CV := conv_bys hG.out.row
      rw [e2] at CV
      have HE2 := Lib.hid e2
      have e3 : xs.length = b.length := by rw [e2]
      rw [e3]
      clear e2 e3
      go_wp2_with fail
      refine EN1.mono ?_
      rintro e w2 ⟨rfl, rfl⟩
      go_wp2_with fail
      go_ret
      exact ⟨s', rfl, hG.out.kept, hG.out.rd, HQ.out.symm⟩
    | stop c l hc =>
      have e2 : xs = b := by simpa using hX.out
      have CV := conv_bys hG.out.row
      rw [e2] at CV
      have e3 : xs.length = b.length := by rw [e2]
      rw [see_blank, hc] at SE1
      rw [e3]
      clear e2 e3
      go_wp2_with fail
      refine EN1.mono ?_
      rintro e w2 ⟨rfl, rfl⟩
      go_wp2_with fail
      refine SE1.out.mono ?_
      rintro e w3 ⟨rfl, rfl⟩
      go_wp2_with fail
      go_ret
      exact ⟨s', rfl, hG.out.kept, hG.out.rd, HQ.out.symm⟩
    | quo l m _ a b' hq hw =>
      have HQ3 := Lib.hid hq
      have HW3 := Lib.hid hw
      have BL : blank 39 = false := by decide
      clear hq hw
      rw [see_blank, BL] at SE1
      go_wp2_with fail
      refine EN1.mono ?_
      rintro e w2 ⟨rfl, rfl⟩
      clear EN1
      go_wp2_with fail
      refine SE1.out.mono ?_
      rintro e w3 ⟨rfl, rfl⟩
      clear SE1
      go_wp2_with fail
      have SK1 := SK.out w3 s' hG.out.rd ⟨#[39]⟩
      rw [← HQ.out] at SK1
      have e1 : see ⟨#[39]⟩ (39 :: l) = true := by simp [see, dl, Lib.indexByte]
      rw [e1] at SK1
      refine SK1.mono ?_
      rintro e w2 ⟨rfl, k2, t, ht, hr⟩
      have G2 := Lib.hid (hG.out.call k2 hr)
      have T2 : Hid (dl t = l) := (by simpa using ht : dl t = l)
      clear SK1 k2 ht hr e1
      go_wp2_with fail
      refine (QU.out w2 t G2.out.rd a m (by rw [T2.out]; exact HQ3.out) (by simp at hlen; omega)).mono ?_
      rintro e w4 ⟨v2, t4, rfl, g4, ht4⟩
      have G4 := Lib.hid (G2.out.call g4.out.kept g4.out.rd)
      have T4 := Lib.hid ht4.out
      have SRC := Lib.hid (own_src g4.out.row (by rw [bys_len, Nat.mul_one]))
      obtain ⟨qa2, qc2, rfl⟩ := own_slice2 g4.out.row
      have hz4 := G4.out.kept.size
      have hl2 : xs.length + a.length ≤ 1073741824 := by simp at hlen; omega
      clear g4 ht4
      go_wp2_with (at_builtin; refine wpList_append_src w4 rfl (.tmp 14) (.tmp 16) 67 rfl w.heap.size 5 i0 (.int .u8 0) 1 1 Tryd.underlying67 hi0 hz00 hz01 hz02 rfl (by decide) (.slice va xs.length vc) xs.length (bys xs) rfl G4.out.row (.slice qa2 a.length qc2) a.length (bys a) rfl SRC.out (by rw [bys_len, Nat.mul_one]) (bys_one a) (by unfold maxLen; omega) (by omega) (by have := G4.out.kept.size; omega) ?_; intro v z1 hown hgrow hat; have G5 := Lib.hid (G4.out.pushed (ys := a) (Kept.refl [] w4) rfl hown hgrow); obtain ⟨qa, qc, rfl⟩ := own_slice2 hown; clear hown hgrow hat)
      go_roundw
      case rel => exact ⟨t4, xs ++ a, b', _, by simp, G5.out, by rw [T4.out]; exact HW3.out, by show xs ++ a ++ b' = b; have := hX.out; rw [← this]; simp⟩
      case measure =>
        have h1 := lft_rd G5.out.rd
        have h2 := MLh.out
        have h3 := HQ3.out.len
        rw [T4.out] at h1
        simp at h2
        omega
    | byte l _ b' c hc1 hc2 hq =>
      have HQ3 := Lib.hid hq
      have BL := hc1
      have HC := Lib.hid hc2
      clear hq hc1 hc2
      rw [see_blank, BL] at SE1
      go_wp2_with fail
      refine EN1.mono ?_
      rintro e w2 ⟨rfl, rfl⟩
      clear EN1
      go_wp2_with fail
      refine SE1.out.mono ?_
      rintro e w3 ⟨rfl, rfl⟩
      clear SE1
      go_wp2_with fail
      have SK1 := SK.out w3 s' hG.out.rd ⟨#[39]⟩
      rw [← HQ.out] at SK1
      have e1 : see ⟨#[39]⟩ (c :: l) = false := by simp [see, dl, Lib.indexByte, Ne.symm HC.out]
      rw [e1] at SK1
      refine SK1.mono ?_
      rintro e w2 ⟨rfl, k2, t, ht, hr⟩
      have G2 := Lib.hid (hG.out.call k2 hr)
      have T2 : Hid (dl t = c :: l) := (by simpa using ht : dl t = c :: l)
      clear SK1 k2 ht hr e1
      go_wp2_with fail
      refine (BY.out w2 t G2.out.rd c l T2.out).mono ?_
      rintro e w4 ⟨rfl, k4, t4, ht4, hr4⟩
      have G4 := Lib.hid (G2.out.call k4 hr4)
      have T4 := Lib.hid ht4
      have hz4 := G4.out.kept.size
      have hl2 : xs.length + 1 ≤ 1073741824 := by simp at hlen; omega
      clear k4 ht4 hr4
      go_wp2_with (at_builtin; refine wpList_append_src (w4.alloc (.cells #[.int .u8 c.toNat] 5)) rfl (.tmp 18) (.tmp 21) 67 rfl w.heap.size 5 i0 (.int .u8 0) 1 1 Tryd.underlying67 hi0 hz00 hz01 hz02 rfl (by decide) (.slice va xs.length vc) xs.length (bys xs) rfl (G4.out.row.alloc _) (.slice (some ⟨w4.heap.size, 0, none⟩) 1 1) 1 [.int .u8 c.toNat] rfl (Or.inr ⟨_, _, rfl, World.news_of_block (cs := #[.int .u8 c.toNat]) (by exact heap_alloc_new w4 _)⟩) rfl (by intro u hu; simp at hu; subst hu; rfl) (by unfold maxLen; omega) (by omega) (by have := G4.out.kept.size; simp; omega) ?_; intro v z1 hown hgrow hat; have G5 := Lib.hid (G4.out.pushed (ys := [c]) ((Kept.refl [] w4).alloc _) rfl hown hgrow); obtain ⟨qa, qc, rfl⟩ := own_slice2 hown; clear hown hgrow hat)
      go_roundw
      case rel => exact ⟨t4, xs ++ [c], b', _, by simp, G5.out, by rw [T4.out]; exact HQ3.out, by show xs ++ [c] ++ b' = b; have := hX.out; rw [← this]; simp⟩
      case measure =>
        have h1 := lft_rd G5.out.rd
        have h2 := MLh.out
        rw [T4.out] at h1
        simp at h2
        omega
end Nm
end Go.Proofs.YtjdhgeikbkjnoaaDoor
