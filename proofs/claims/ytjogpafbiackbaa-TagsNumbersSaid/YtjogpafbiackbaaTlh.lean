/- tags: the law's begun, walked. -/
import Derived.Test.YtjogpafbiackbaaTlg
namespace Go.Proofs.Ytjogpafbiackbaa
set_option linter.unusedVariables false
open Go.RowKit Go.Shelf
namespace Tg
open Go.Proofs.Ytjogpafbiackbaa.Mpf Go.PlainAid
section
set_option maxHeartbeats 16000000 in
set_option maxRecDepth 100000 in
theorem begun_any (w : World) : Calls Try.prog 6 #[] w fun e w' => ∃ R p, e = .returned (.pointer (some ⟨R, 0, none⟩)) ∧ Run w.heap.size w' R p L0 T3 ∧ Kept [] w w' := by
  have NW := Lib.hid (New_any w)
  have C1 : Hid (∀ w' p, TB w.heap.size w' p T0 → Calls Try.prog 17 #[.pointer (some ⟨p, 0, none⟩), .int .u16 15, .int .i64 1] w' fun e w'' => e = .returned (.int .i64 0) ∧ TB w.heap.size w'' p T1 ∧ KT w.heap.size w' w'') := fun w' p h => Begin_ok h ok0 15 1 (by decide) (by decide) ref1
  have C2 : Hid (∀ w' p, TB w.heap.size w' p T1 → Calls Try.prog 15 #[.pointer (some ⟨p, 0, none⟩), .int .i64 1] w' fun e w'' => e = .returned (.bool true) ∧ TB w.heap.size w'' p T2 ∧ KT w.heap.size w' w'') := fun w' p h => by
    have q := Decide_any h 1 (by decide)
    rw [mv1] at q
    exact q
  have C3 : Hid (∀ w' p, TB w.heap.size w' p T2 → Calls Try.prog 16 #[.pointer (some ⟨p, 0, none⟩), .int .i64 1, .agg #[.int .u8 121, .int .u16 0, .int .u32 0, .string ⟨#[]⟩, .int .u32 0, .string ⟨#[]⟩, .string ⟨#[]⟩, .string ⟨#[]⟩, .int .u16 0, .int .u32 0, .int .u32 0, .slice none 0 0, .slice none 0 0, .int .u8 0, .int .u32 0, .int .u64 0, .int .u8 0, .int .u32 0, .string ⟨#[]⟩, .int .u32 0, .int .u64 0, .int .u32 0, .slice none 0 0, .int .u16 0, .int .u32 0, .int .u8 0, .int .u32 0, .int .u64 0, .int .u32 0, .int .u32 0, .int .u32 0, .int .u64 0, .string ⟨#[]⟩, .string ⟨#[]⟩, .string ⟨#[]⟩, .string ⟨#[]⟩]] w' fun e w'' => e = .returned (.int .i64 0) ∧ TB w.heap.size w'' p T3 ∧ KT w.heap.size w' w'') := fun w' p h => Reply_yes h ok2.dom (by have := ok2.rowl; omega) 1 (by decide) 121 0 ⟨#[]⟩ (by have := mv2; unfold mvB at this; exact of_decide_eq_true this)
  have C4 : Hid (∀ w' p, TB w.heap.size w' p T3 → Calls Try.prog 17 #[.pointer (some ⟨p, 0, none⟩), .int .u16 15, .int .i64 2] w' fun e w'' => e = .returned (.int .i64 140) ∧ TB w.heap.size w'' p T3 ∧ KT w.heap.size w' w'') := fun w' p h => Begin_no h ok3 15 2 (by decide) (by decide) ref3 (by decide)
  obtain ⟨i0, hi, hz0, hz1, hz2⟩ := int_parts
  obtain ⟨j0, hj, gz0, gz1, gz2⟩ := thing_parts
  obtain ⟨D, hD⟩ : ∃ D, D = w.heap.size := ⟨_, rfl⟩
  have HD := Lib.hid hD
  rw [← hD] at NW C1 C2 C3 C4 ⊢
  clear hD
  go_enter Try.func6, Try.ntmps6
  go_wp2_with (go_at_call 18; refine NW.out.mono ?_; rintro e w1 ⟨p, rfl, hp, t1, k1⟩; have T1h := Lib.hid t1; have K1 := Lib.hid k1; clear t1 k1 NW)
  have B0 : Hid (BgI D w (w1.alloc (.cells #[.pointer (some ⟨p, 0, none⟩), .slice none 0 0, .slice none 0 0, .int .i64 0] 33)) w1.heap.size p 0) :=
    ⟨⟨_, Bx.made _ _ _, World.ownsRow_nil _ _ _ _, fun g hg => by simp [Value.ownBlock] at hg⟩, T1h.out.kept0 ((Kept.refl [] w1).alloc _), K1.out.alloc _, by have := K1.out.size; exact this, HD.out⟩
  obtain ⟨R, hR⟩ : ∃ R, R = w1.heap.size := ⟨_, rfl⟩
  rw [← hR] at B0 ⊢
  clear hR T1h K1 hp
  go_loopw [4] (fun iv wr => ∃ i : Nat, iv = .int .i64 (i : Nat) ∧ i ≤ 16 ∧ Hid (BgI D w wr R p i)) (fun iv _ => 16 - (intOf iv).toNat)
  case atStart => exact ⟨0, rfl, by omega, B0⟩
  case round =>
    obtain ⟨i, rfl, hi16, BI⟩ := hrel
    obtain ⟨s, hb, ho, hn⟩ := BI.out.own
    have HB := Lib.hid hb
    have HO := Lib.hid ho
    have HN := Lib.hid hn
    obtain ⟨sa, sc, hs⟩ := own_slice ho
    subst hs
    have c2 := hb.cell 2 (v := .slice sa i sc) rfl
    by_cases hlt : i < 16
    · have j1 : (i : Int) < 16 := by omega
      have hDR : Hid (D ≤ (wr.alloc (.cells #[.int .i64 (-1)] 3)).heap.size) := by have := BI.out.lo.size; have := BI.out.hD; show D ≤ _; simp; omega
      have LR : Hid (List.replicate i (Value.int .i64 (-1)) = List.replicate i (Value.int .i64 (-1))) := rfl
      clear hb ho hn
      go_wp2_with (at_builtin; refine wpList_append_src (wr.alloc (.cells #[.int .i64 (-1)] 3)) rfl (.tmp 30) (.tmp 31) 31 rfl D 3 i0 (.int .i64 0) 1 8 Try.underlying31 hi hz0 hz1 hz2 rfl (by decide) (.slice sa i sc) i (List.replicate i (.int .i64 (-1))) rfl (HO.out.alloc _) (.slice (some ⟨wr.heap.size, 0, none⟩) 1 1) 1 [.int .i64 (-1)] rfl (Or.inr ⟨_, _, rfl, World.news_of_block (cs := #[.int .i64 (-1)]) (by exact heap_alloc_new wr _)⟩) rfl (by intro u hu; simp at hu; subst hu; rfl) (by unfold maxLen; omega) (by omega) hDR.out ?_; intro v4 w4 hown hgrow hat; obtain ⟨va, vc, rfl⟩ := own_slice hown; obtain ⟨F1, F2, F3⟩ := BI.out.push HB.out HO.out HN.out ((Kept.refl [] wr).alloc _) hown hgrow hat; have FN := Lib.hid F1; clear F1 hown hgrow hat)
      go_roundw
      case rel => exact ⟨i + 1, by go_num, by omega, FN⟩
      case measure => simp [intOf]; omega
    · have j1 : ¬ (i : Int) < 16 := by omega
      have ei : i = 16 := by omega
      subst ei
      clear hb ho hn j1 hi16 hlt
      obtain ⟨gh, rfl⟩ : ∃ gh, sa = some ⟨gh, 0, none⟩ := by
        rcases HO.out.2 with ⟨-, h0⟩ | ⟨g, cap, cur, hv, -⟩
        · omega
        · cases hv; exact ⟨g, rfl⟩
      have RD : Hid (D ≤ R) := by have := BI.out.hR; have := BI.out.hD; show D ≤ R; omega
      have DW : Hid (D ≤ wr.heap.size) := by have := BI.out.lo.size; have := BI.out.hD; show D ≤ _; omega
      go_wp2_with (first | (go_at_call 17; refine (C1.out _ _ BI.out.tb).mono ?_; rintro e w2 ⟨rfl, t2, k2⟩; have T2h := Lib.hid t2; have K2 := Lib.hid k2; have H2 := Lib.hid (k2.bx HB.out (by decide) (by decide)); have O2 := Lib.hid (ownsRow_kt HO.out k2 (by decide) (by decide)); have x1 := H2.out.cell 1 (v := .slice none 0 0) rfl; have D2 : Hid (D ≤ (w2.alloc (.cells th0.C.toArray 39)).heap.size) := (by have := k2.size; have := DW.out; show D ≤ _; simp; omega); clear t2 k2 C1) | (at_builtin; refine wpList_append_src (w2.alloc (.cells th0.C.toArray 39)) rfl (.tmp 41) (.tmp 43) 30 rfl D 39 j0 _ 7 24 Try.underlying30 hj gz0 gz1 gz2 rfl (by decide) (.slice none 0 0) 0 [] rfl (World.ownsRow_nil _ _ _ _) (.slice (some ⟨w2.heap.size, 0, none⟩) 1 1) 1 th0.C rfl (Or.inr ⟨_, _, rfl, World.news_of_block (cs := th0.C.toArray) (by exact heap_alloc_new w2 _)⟩) rfl (by intro u hu; simp [Th.C] at hu; rcases hu with rfl | rfl | rfl | rfl | rfl | rfl | rfl <;> rfl) (by unfold maxLen; omega) (by omega) D2.out ?_; intro v4 w4 hown hgrow hat; obtain ⟨va, vc, rfl⟩ := own_slice hown; obtain ⟨g1, g2, g3, g4, g5, l6, t6, lo6⟩ := begun_mem H2.out O2.out T2h.out RD.out hown hgrow hat; have L6 := Lib.hid l6; have T6 := Lib.hid t6; have LO6 := Lib.hid lo6; clear l6 t6 lo6 hown hgrow hat) | (go_at_call 15; refine (C2.out _ _ T6.out).mono ?_; rintro e w7 ⟨rfl, t7, k7⟩; have T7 := Lib.hid t7; have K7 := Lib.hid k7; clear t7 k7 C2) | (go_at_call 16; refine (C3.out _ _ T7.out).mono ?_; rintro e w8 ⟨rfl, t8, k8⟩; have T8 := Lib.hid t8; have K8 := Lib.hid k8; clear t8 k8 C3) | (go_at_call 17; refine (C4.out _ _ T8.out).mono ?_; rintro e w9 ⟨rfl, t9, k9⟩; have T9 := Lib.hid t9; have K9 := Lib.hid k9; clear t9 k9 C4))
      go_ret
      obtain ⟨gl, cl, gh', ch', hl6⟩ := L6.out
      have LO : Lo D w w9 := (((Lo.of_kept BI.out.lo (by simp)).trans (Lo.of_kt K2.out)).trans LO6.out).trans ((Lo.of_kt K7.out).trans ((Lo.of_kt K8.out).trans (Lo.of_kt K9.out)))
      refine ⟨R, p, rfl, ⟨⟨gl, cl, gh', ch', ((hl6.kt K7.out).kt K8.out).kt K9.out⟩, T9.out, inv3, rfl, by decide, by decide⟩, ⟨LO.os, LO.tape, LO.output, LO.size, fun i hi _ => LO.block i (by have := HD.out; omega) hi⟩⟩
end
end Tg
end Go.Proofs.Ytjogpafbiackbaa
