/- names' Quote walked. -/
import Derived.Test.YtjdhgeikbkjnoaaDoorInq
import Derived.Test.YtjdhgeikbkjnoaaDoorBls
import Derived.Test.YtjdhgeikbkjnoaaDoorShf
namespace Go.Proofs.YtjdhgeikbkjnoaaDoor
set_option linter.unusedVariables false
open Go.RowKit Go.Shelf
attribute [local go_sem] Oper.semAt_some
namespace Nm
open Go.Proofs.YtjdhgeikbkjnoaaDoor.Utf Go.Proofs.YtjdhgeikbkjnoaaDoor.Txt Go.PlainAid

/-- A word's bytes within quotes. -/
def inqs (l : List UInt8) : List UInt8 := l.flatMap inq
/-- A word as it stands in a line. -/
def quol (l : List UInt8) : List UInt8 := if plain l then l else 39 :: (inqs l ++ [39])
theorem inq_len (c : UInt8) : (inq c).length ≤ 4 ∧ 1 ≤ (inq c).length := by unfold inq; split <;> (try split) <;> simp
theorem inqs_len (l : List UInt8) : (inqs l).length ≤ 4 * l.length := by
  induction l with
  | nil => simp [inqs]
  | cons c l ih => have := inq_len c; simp only [inqs, List.flatMap_cons, List.length_append, List.length_cons] at ih ⊢; omega
theorem quol_len (l : List UInt8) : (quol l).length ≤ 4 * l.length + 2 := by
  have := inqs_len l
  unfold quol; split
  · omega
  · simp; omega
theorem isb_kept {B b : Nat} {bs : List Value} {w w' : World} (h : Lib.IsBuilder 69 5 B b bs w) (K : Kept [] w w') : Lib.IsBuilder 69 5 B b bs w' := by
  rcases h with ⟨hB, v, x, o, n⟩ | ⟨hB, v, x, o, n⟩
  · exact (Bld.Bd.kept (w := w) ⟨Or.inl x, o, n, hB⟩ K).is
  · exact (Bld.Bd.kept (w := w) ⟨Or.inr x, o, n, hB⟩ K).is
set_option maxHeartbeats 8000000 in
set_option maxRecDepth 100000 in
theorem quote_any (w : World) (s : ByteArray) (hs : s.size ≤ 1073741824) : Calls Tryd.prog 22 #[.string s] w fun e w' => e = .returned (.string (toB (quol (dl s)))) ∧ Kept [] w w' := by
  have IP := Lib.hid (fun w => isPlain_any w s (by omega))
  obtain ⟨p, hp⟩ : ∃ p, p = plain (dl s) := ⟨_, rfl⟩
  have HP := Lib.hid hp
  rw [← hp] at IP
  obtain ⟨z, hz⟩ : ∃ z, z = toB (quol (dl s)) := ⟨_, rfl⟩
  have HZ := Lib.hid hz
  rw [← hz]
  clear hp hz
  cases p with
  | true =>
    have e : z = s := by rw [HZ.out]; unfold quol; rw [← HP.out, if_pos rfl]; exact toB_dl s
    subst e
    go_enter Tryd.func22, Tryd.ntmps22
    go_wp2_with fail
    refine (IP.out w).mono ?_
    rintro e w1 ⟨rfl, rfl⟩
    go_wp2_with fail
    go_ret
    exact ⟨rfl, Kept.refl [] w1⟩
  | false =>
    have hzq : dl z = 39 :: (inqs (dl s) ++ [39]) := by rw [HZ.out]; unfold quol; rw [← HP.out, if_neg (by decide)]; rfl
    have HZQ := Lib.hid hzq
    clear hzq HZ HP
    have hzv : ∀ w, (zeroValue 69).run Tryd.prog w = .ok (.agg #[.pointer none, .slice none 0 0]) w := fun w => by kernel_rfl
    obtain ⟨wb, hwb⟩ : ∃ x, x = w.alloc (.cells #[.pointer none, .slice none 0 0] 69 (0, 0)) := ⟨_, rfl⟩
    obtain ⟨b, hb⟩ : ∃ x, x = w.heap.size := ⟨_, rfl⟩
    have B0 : Hid (Lib.IsBuilder 69 5 b b [] wb) := (show Bld.Bd b b (.slice none 0 0) [] wb from ⟨Or.inl (by rw [hwb, hb]; exact heap_alloc_new w _), World.ownsRow_nil _ _ _ _, (fun h => by cases h), Nat.le_refl _⟩).is
    have KB : Hid (Below b w wb) := by rw [hwb]; exact (Below.refl b w).alloc (by omega) _
    have zb : b ≤ wb.heap.size := by rw [hwb, hb]; simp
    have HWB := Lib.hid hwb
    have HB := Lib.hid hb
    clear hwb hb
    go_enter Tryd.func22, Tryd.ntmps22
    go_wp2_with fail
    refine (IP.out w).mono ?_
    rintro e w1 ⟨rfl, rfl⟩
    go_wp2_with fail
    rw [← HWB.out, ← HB.out]
    clear hzv
    have bc : ∀ (l : List UInt8) (t : ByteArray), Lib.byteCells l ++ Lib.strCells t = Lib.byteCells (l ++ dl t) := fun l t => by
      show Lib.byteCells l ++ Lib.byteCells _ = _
      simp [Lib.byteCells, dl]
    have s39 : (⟨#[39]⟩ : ByteArray).size = 1 := rfl
    have bl : ∀ l : List UInt8, (Lib.byteCells l).length = l.length := fun l => by simp [Lib.byteCells]
    refine (Bld.string b b [] ⟨#[39]⟩ wb B0.out (by rw [List.length_nil, s39]; omega) zb).mono ?_
    rintro e w2 ⟨rfl, b2, k2⟩
    have B2 : Hid (Lib.IsBuilder 69 5 b b (Lib.byteCells (39 :: inqs ((dl s).take 0))) w2) := Or.inr b2
    have K2 : Hid (Below b w1 w2) := KB.out.trans k2
    have BC := Lib.hid bc
    have BL := Lib.hid bl
    clear b2 k2 bc bl B0 KB HWB zb
    go_wp2_with fail
    go_loopw [11] (fun iv wr => ∃ k : Nat, iv = .int .i64 k ∧ k ≤ s.size ∧ Hid (Lib.IsBuilder 69 5 b b (Lib.byteCells (39 :: inqs ((dl s).take k))) wr) ∧ Hid (Below b w1 wr)) (fun iv _ => s.size - (intOf iv).toNat)
    case atStart => exact ⟨0, rfl, by omega, B2, K2⟩
    case round =>
      obtain ⟨k, rfl, hk, BK, KK⟩ := hrel
      clear B2 K2
      by_cases hlt : k < s.size
      · have j1 : (k : Int) < (s.size : Int) := by omega
        have IQ := Lib.hid (inQuotes_any wr s[k])
        have hd : (dl s)[k]'(by rw [dl_length]; exact hlt) = s[k] := rfl
        have TK : Hid (39 :: inqs ((dl s).take (k + 1)) = (39 :: inqs ((dl s).take k)) ++ dl (toB (inq s[k]))) := by
          show _ = _
          rw [List.take_succ_eq_append_getElem (by rw [dl_length]; exact hlt), hd]
          show _ = _ ++ inq s[k]
          simp [inqs, List.flatMap_append]
        have LN : Hid ((39 :: inqs ((dl s).take k)).length ≤ 4294967297 ∧ (toB (inq s[k])).size ≤ 4) := by
          refine ⟨?_, ?_⟩
          · have h1 := inqs_len ((dl s).take k)
            have h2 : ((dl s).take k).length ≤ k := by simp; omega
            rw [List.length_cons]; omega
          · exact (inq_len s[k]).1
        obtain ⟨t, ht⟩ : ∃ t, t = toB (inq s[k]) := ⟨_, rfl⟩
        rw [← ht] at TK LN IQ
        clear hd ht
        go_wp2_with fail
        refine IQ.out.mono ?_
        rintro e w2 ⟨rfl, kq⟩
        have BQ := Lib.hid (isb_kept BK.out kq)
        have hbz : b ≤ wr.heap.size := by have := KK.out.size; rw [HB.out]; exact this
        have KQ : Hid (Below b w1 w2) := KK.out.trans (kq.below (fun _ h => by cases h) hbz)
        have hbq : b ≤ w2.heap.size := by have := kq.size; omega
        clear kq hbz
        go_wp2_with fail
        refine (Bld.string b b _ t w2 BQ.out (by rw [BL.out]; have := LN.out; omega) hbq).mono ?_
        rintro e w3 ⟨rfl, b3, k3⟩
        rw [BC.out, ← TK.out] at b3
        have B3 : Hid (Lib.IsBuilder 69 5 b b (Lib.byteCells (39 :: inqs ((dl s).take (k + 1)))) w3) := Or.inr b3
        have K3 : Hid (Below b w1 w3) := KQ.out.trans k3
        clear b3 k3 hbq
        go_wp2_with fail
        go_roundw
        case rel => exact ⟨k + 1, by go_num, by omega, B3, K3⟩
        case measure => simp [intOf]; omega
      · have j1 : ¬ (k : Int) < (s.size : Int) := by omega
        have TK : Hid ((dl s).take k = dl s) := List.take_of_length_le (by rw [dl_length]; omega)
        rw [TK.out] at BK
        have hbz : b ≤ wr.heap.size := by have := KK.out.size; rw [HB.out]; exact this
        have LN : Hid ((39 :: inqs (dl s)).length ≤ 4294967297) := by
          show _ ≤ _
          have h1 := inqs_len (dl s)
          rw [dl_length] at h1
          rw [List.length_cons]; omega
        have s39 : (⟨#[39]⟩ : ByteArray).size = 1 := rfl
        have S39 := Lib.hid s39
        clear s39
        go_wp2_with fail
        refine (Bld.string b b _ ⟨#[39]⟩ wr BK.out (by rw [BL.out, S39.out]; have := LN.out; omega) hbz).mono ?_
        rintro e w3 ⟨rfl, b3, k3⟩
        rw [BC.out] at b3
        have EQ : (39 :: inqs (dl s)) ++ dl (⟨#[39]⟩ : ByteArray) = dl z := by rw [HZQ.out]; rfl
        rw [EQ] at b3
        have K3 : Hid (Below b w1 w3) := KK.out.trans k3
        have ST := Lib.hid (Tryd.Builder_String_any b b (dl z) w3 (Or.inr b3) (by have := k3.size; omega))
        clear b3 k3 EQ hbz
        go_wp2_with fail
        refine ST.out.mono ?_
        rintro e w4 ⟨rfl, k4⟩
        have K4 := Lib.hid (K3.out.trans k4)
        clear k4
        go_wp2_with fail
        go_ret
        have h := K4.out
        rw [HB.out] at h
        exact ⟨by rw [show (⟨(dl z).toArray⟩ : ByteArray) = z from toB_dl z]; rfl, Kept.of_below h []⟩
end Nm
end Go.Proofs.YtjdhgeikbkjnoaaDoor
