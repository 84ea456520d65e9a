/- The law's does, its sixth kind; does, whole. -/
import Derived.Test.YtepemdicbipphaaPlc
namespace Go.Proofs.Ytepemdicbipphaa
set_option linter.unusedVariables false
open Go.RowKit

namespace Two
set_option maxHeartbeats 2000000 in
theorem does_many (w : World) (k : Nat) (col : Nat → Nat) (N p q : Nat) (S R : List Nat) (st : CS) (a F G : Nat) (who : Int) (b : Value) (n : Nat) (hn : n ≤ 4294967295) (hG : F + 70000 ≤ G) (hF : F ≤ 1000000000000) (g : Hid (Gd st F)) (h : Hid (Pl w k col N p q S R st st a)) :
    Calls Try.prog 15 #[.pointer (some ⟨p, 0, none⟩), .pointer (some ⟨q, 0, none⟩), .agg #[.int .i64 who, .int .i64 6, b, .int .u32 n], .pointer (some ⟨k, 0, none⟩)] w (DoesOut w k col N p q a G) := by
  obtain ⟨i0, hi0, hz00, hz01, hz02⟩ := info_parts info_u8
  obtain ⟨w1, hw1⟩ : ∃ w1, w1 = w.alloc (.cells #[.int .i64 who, .int .i64 6, b, .int .u32 n] 45 (0, 0)) := ⟨_, rfl⟩
  have K1 : Kept [] w w1 := by rw [hw1]; exact (Kept.refl [] w).alloc _
  have BOX : w1.cell? ⟨w.heap.size, 3, none⟩ = some (.int .u32 n) := by
    rw [cell_of_row w1 w.heap.size _ _ 45 (0, 0) (by rw [hw1]; exact heap_alloc_new w _)]
    rfl
  have hb0 : w.heap.size < w1.heap.size := by rw [hw1]; simp
  obtain ⟨m, hm⟩ : ∃ m, m = n % 70000 := ⟨_, rfl⟩
  have hm7 : m ≤ 70000 := by omega
  have HM := Lib.hid hm
  have HW1 := Lib.hid hw1
  have K1h := Lib.hid K1
  have BOXh := Lib.hid BOX
  clear K1 BOX hm
  go_enter Try.func15, Try.ntmps15
  go_wp2_with fail
  rw [← hw1]
  clear hw1
  go_loopw [11, 12] (fun s11 s12 wr => ∃ (i : Nat) (v : Value), v = s11 ∧ s12 = .int .u32 i ∧ i ≤ m ∧ Hid (Own wr w1.heap.size v (List.replicate i 1)) ∧ Hid (Kept [] w1 wr)) (fun _ s12 _ => m - (intOf s12).toNat)
  case atStart => exact ⟨0, _, rfl, rfl, Nat.zero_le _, World.ownsRow_nil _ _ _ _, Kept.refl _ _⟩
  case round =>
    obtain ⟨i, v, rfl, rfl, hi, OV, KV⟩ := hrel
    obtain ⟨va, vc, rfl⟩ := own_slice OV.out
    have BX : wr.cell? ⟨w.heap.size, 3, none⟩ = some (.int .u32 n) := by
      rw [← BOXh.out]
      exact World.cell?_of_block (KV.out.block _ hb0 (by simp))
    rw [List.length_replicate] at OV
    have OV2 : Hid (wr.ownsRow w1.heap.size 5 1 (.slice va i vc) i ((List.replicate i (1 : UInt8)).map bv)) := by
      have h := OV.out
      unfold Own at h
      rw [List.length_replicate] at h
      exact h
    have hz := KV.out.size
    by_cases hlt : i < m
    · have j1 : (i : Int) < (n : Int) % 70000 := by have := HM.out; omega
      have j2 : (0 : Int) ≤ (n : Int) := by omega
      have j3 : (n : Int) ≤ 4294967295 := by omega
      rw [List.length_replicate]
      clear OV
      go_wp2_with (at_builtin; refine wpList_append_src (wr.alloc (.cells #[.int .u8 1] 5)) rfl (.tmp 43) (.tmp 44) 22 rfl w1.heap.size 5 i0 (.int .u8 0) 1 1 Try.underlying22 hi0 hz00 hz01 hz02 rfl (by decide) (.slice va i vc) i ((List.replicate i (1 : UInt8)).map bv) rfl (OV2.out.alloc _) (.slice (some ⟨wr.heap.size, 0, none⟩) 1 1) 1 [.int .u8 1] rfl (Or.inr ⟨_, _, rfl, World.news_of_block (cs := #[.int .u8 1]) (by exact heap_alloc_new wr _)⟩) rfl (by intro u hu; simp at hu; subst hu; rfl) (by unfold maxLen; omega) (by omega) (by simp; omega) ?_; intro v4 w4 hown4 hgrow4 hat4; have O4 : Hid (Own w4 w1.heap.size v4 (List.replicate (i + 1) 1)) := (by show Own _ _ _ _; unfold Own; rw [List.length_replicate, List.replicate_succ', List.map_append]; exact hown4); have K4 : Hid (Kept [] w1 w4) := (KV.out.alloc _).grown hgrow4 (fun k e => Or.inr (OV2.out.lt k e).1); clear hown4 hgrow4 hat4)
      go_roundw
      case rel => exact ⟨i + 1, v4, rfl, by go_num, by omega, O4, K4⟩
      case measure => simp [intOf]; omega
    · have him : i = m := by omega
      have j1 : ¬ (i : Int) < (n : Int) % 70000 := by have := HM.out; omega
      have j2 : (0 : Int) ≤ (n : Int) := by omega
      have j3 : (n : Int) ≤ 4294967295 := by omega
      have KW : Kept [] w wr := K1h.out.trans KV.out (fun _ hx => by cases hx)
      obtain ⟨P1, F1⟩ := h.out.fresh KW
      have OVs : Hid (Own wr w1.heap.size (.slice va i vc) (List.replicate i 1)) := OV
      have FED := Lib.hid (fed_any wr k _ N p q S R (Value.slice va i vc).ownBlock.toList st a F (.slice va i vc) (List.replicate i 1) (by rw [List.length_replicate]; omega) hF g (Src.of_own OVs.out) (fun t ht => by
        have := (OVs.out.lt t (by simpa using ht)).1
        rw [newc_new (by omega)]) (fun t ht => (OVs.out.lt t (by simpa using ht)).2) P1)
      obtain ⟨x, hx⟩ : ∃ x, x = st.feedK (List.replicate i 1) := ⟨_, rfl⟩
      rw [← hx] at FED
      have F1h := Lib.hid F1
      rw [List.length_replicate]
      clear P1 F1 KW hx OV him
      go_wp2_with fail
      refine FED.out.mono ?_
      rintro e w2 ⟨rfl, o2⟩
      have O2 := Lib.hid o2
      clear o2 FED
      go_wp2_with fail
      go_ret
      exact ⟨rfl, _, (g.out.feed _).more (by rw [List.length_replicate]; omega), O2.out.after F1h.out⟩

/-- does. -/
theorem does_any (w : World) (k : Nat) (col : Nat → Nat) (N p q : Nat) (S R T : List Nat) (st : CS) (a F : Nat) (who kind : Int) (b : Value) (n : Nat) (l : List UInt8) (hn : n ≤ 4294967295) (hl : l.length ≤ 1152921504) (hN : N + 5 * l.length + 10 ≤ 1000000000) (hF : F + l.length ≤ 1000000000000) (hcap : ∃ ba bc, b = .slice ba l.length bc ∧ l.length ≤ bc ∧ bc ≤ 9223372036854775807) (g : Hid (Gd st F)) (hb : Hid (Src w b l T)) (hT : Hid (∀ t ∈ T, col t = 7)) (hT2 : Hid (∀ t ∈ T, t < w.heap.size)) (h : Hid (Pl w k col N p q S R st st a)) :
    Calls Try.prog 15 #[.pointer (some ⟨p, 0, none⟩), .pointer (some ⟨q, 0, none⟩), .agg #[.int .i64 who, .int .i64 kind, b, .int .u32 n], .pointer (some ⟨k, 0, none⟩)] w (DoesOut w k col (N + 5 * l.length + 10) p q a (F + l.length + if kind = 6 then 70000 else 0)) := by
  have up : ∀ {M G e w'}, DoesOut w k col M p q a G e w' → M ≤ N + 5 * l.length + 10 → DoesOut w k col (N + 5 * l.length + 10) p q a G e w' := fun {M G e w'} ⟨h1, st', h2, h3⟩ hm => ⟨h1, st', h2, h3.more hm⟩
  by_cases h1 : kind = 1
  · subst h1; exact (does_feed w k col N p q S R T st a F _ who b n l hl (by omega) (by omega) g hb hT hT2 h).mono fun _ _ z => up z (by omega)
  by_cases h2 : kind = 2
  · subst h2; exact (does_next w k col N p q S R st a F _ who b n (by omega) (by omega) (by omega) g h).mono fun _ _ z => up z (by omega)
  by_cases h3 : kind = 3
  · subst h3; exact (does_ask w k col N p q S R st a F _ who b n (by omega) (by omega) g h).mono fun _ _ z => up z (by omega)
  by_cases h4 : kind = 4
  · subst h4; exact (does_limit w k col N p q S R st a F _ who b n (by omega) g h).mono fun _ _ z => up z (by omega)
  by_cases h5 : kind = 5
  · subst h5; exact (does_pour w k col N p q S R T st a F _ who b n l hl hN (by omega) hF hcap g hb hT hT2 h).mono fun _ _ z => up z (Nat.le_refl _)
  by_cases h6 : kind = 6
  · subst h6; rw [if_pos rfl]; exact (does_many w k col N p q S R st a F _ who b n hn (by omega) (by omega) g h).mono fun _ _ z => up z (by omega)
  · exact (does_none w k col N p q S R st a F _ who kind b n (by rw [beq_eq_false_iff_ne]; exact h1) (by rw [beq_eq_false_iff_ne]; exact h2) (by rw [beq_eq_false_iff_ne]; exact h3) (by rw [beq_eq_false_iff_ne]; exact h4) (by rw [beq_eq_false_iff_ne]; exact h5) (by rw [beq_eq_false_iff_ne]; exact h6) (by omega) g h).mono fun _ _ z => up z (by omega)
end Two
end Go.Proofs.Ytepemdicbipphaa
