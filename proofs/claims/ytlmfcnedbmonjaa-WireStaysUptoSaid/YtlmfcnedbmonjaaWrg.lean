/- What the law's wrong does to a reader that is wrong: nothing. -/
import Derived.Test.YtlmfcnedbmonjaaNum
import Derived.Test.YtlmfcnedbmonjaaRaw
import Derived.Test.YtlmfcnedbmonjaaTak4
import Derived.Test.YtlmfcnedbmonjaaTak8
namespace Go.Proofs.Ytlmfcnedbmonjaa
set_option linter.unusedVariables false
open Go.RowKit

/-- The step's own cells. -/
def Stp.cells' (o : Stp) : Array Value := #[.int .i64 o.who, .int .i64 o.kind, .int .u64 o.n, .int .i64 o.k, o.b, .string o.s]
theorem RS.failAt_bad {st : RS} (h : st.err ≠ 0) (e : Int) (p : Nat) : st.failAt e p = st := by unfold RS.failAt; rw [if_neg (fun k => h k.1)]
theorem RS.fail_bad {st : RS} (h : st.err ≠ 0) (e : Int) : st.fail e = st := RS.failAt_bad h e _
theorem RS.next_bad {st : RS} (h : st.err ≠ 0) (n : Nat) : st.next n = st := by
  unfold RS.next
  split
  · exact RS.fail_bad h 10
  · rfl
theorem RS.counted_bad {st : RS} (h : st.err ≠ 0) : st.counted = st := by
  unfold RS.counted
  split
  · rfl
  · exact RS.fail_bad h _
theorem RS.text_bad {st : RS} (h : st.err ≠ 0) : st.text = st := by unfold RS.text; rw [RS.counted_bad h, if_pos h]
theorem RS.past_bad {st : RS} (h : st.err ≠ 0) : st.past = st := by unfold RS.past; rw [RS.counted_bad h, if_pos h]
theorem RS.end_bad {st : RS} (h : st.err ≠ 0) : Rdr.RS.end st = st := by
  unfold Rdr.RS.end
  split
  · exact RS.fail_bad h _
  · rfl
theorem RS.rawed_bad {st : RS} (h : st.err ≠ 0) (x : Int) : st.rawed x = st := by
  unfold RS.rawed
  split
  · exact RS.fail_bad h _
  · exact RS.next_bad h _

namespace Rdr
open Go.Proofs.Ytlmfcnedbmonjaa.Txt
theorem u32_any (w : World) (r : Nat) (T : List Nat) (st : RS) (ok : Hid st.Ok) (h : Hid (Rd w r T st)) :
    Calls Try.prog 87 #[.pointer (some ⟨r, 0, none⟩)] w fun e w' => e = .returned (.int .u32 (leval (st.got 4))) ∧ Hid (Rd w' r T (st.next 4)) ∧ Kept [r] w w' := by
  go_enter Try.func87, Try.ntmps87
  go_wp2_with fail
  refine (take32 _ r T st ok h).mono ?_
  rintro e w1 ⟨rfl, h1, h2⟩
  go_wp2_with fail
  go_ret
  exact ⟨rfl, h1, h2⟩
theorem u64_any (w : World) (r : Nat) (T : List Nat) (st : RS) (ok : Hid st.Ok) (h : Hid (Rd w r T st)) :
    Calls Try.prog 88 #[.pointer (some ⟨r, 0, none⟩)] w fun e w' => e = .returned (.int .u64 (leval (st.got 8))) ∧ Hid (Rd w' r T (st.next 8)) ∧ Kept [r] w w' := by
  go_enter Try.func88, Try.ntmps88
  go_wp2_with fail
  refine (take64 _ r T st ok h).mono ?_
  rintro e w1 ⟨rfl, h1, h2⟩
  go_wp2_with fail
  go_ret
  exact ⟨rfl, h1, h2⟩

/-- What wrong leaves. -/
def Same (w : World) (r : Nat) (T : List Nat) (st : RS) (e : Ending) (w' : World) : Prop := e = .returned (.tuple #[]) ∧ Hid (Rd w' r T st) ∧ Hid (Kept [r] w w')
theorem Same.mk {w w1 w2 : World} {r : Nat} {T : List Nat} {st st' : RS} {v : Value} (hv : v = .tuple #[]) (hk : Kept [] w w1) (h : Rd w2 r T st') (he : st' = st) (k : Kept [r] w1 w2) : Same w r T st (.returned v) w2 :=
  ⟨by rw [hv], he ▸ h, (hk.mono (fun i hi => by simp at hi)).trans k (fun i hi => Or.inl hi)⟩
theorem wrong_1 (w : World) (r : Nat) (T : List Nat) (st : RS) (o : Stp) (hkind : o.kind = 1) (hT : Hid (∀ k ∈ T, k < w.heap.size)) (hl : st.left.length ≤ 1152921504606) (he : Hid (st.err ≠ 0)) (ok : Hid st.Ok) (h : Hid (Rd w r T st)) :
    Calls Try.prog 44 #[.pointer (some ⟨r, 0, none⟩), o.val] w (Same w r T st) := by
  have k0 : Hid (Kept [] w (w.alloc (.cells o.cells' 49 (0, 0)))) := (Kept.refl _ _).alloc _
  have h0 : Hid (Rd (w.alloc (.cells o.cells' 49 (0, 0))) r T st) := h.out.kept k0.out (by simp) (fun k _ hm => by simp at hm)
  have hT0 : Hid (∀ k ∈ T, k < (w.alloc (.cells o.cells' 49 (0, 0))).heap.size) := fun k hk => by have := hT.out k hk; simp; omega
  obtain ⟨who, kind, nn, kk, b, s⟩ := o
  simp only [] at hkind
  subst hkind
  unfold Stp.val
  simp only []
  go_enter Try.func44, Try.ntmps44
  go_wp2_with fail
  refine (u8_any _ r T st ok h0).mono ?_
  rintro e w1 ⟨rfl, h1, h2⟩
  go_wp2_with fail
  go_end0
  exact Same.mk rfl k0.out h1.out (RS.next_bad he.out 1) h2

theorem wrong_2 (w : World) (r : Nat) (T : List Nat) (st : RS) (o : Stp) (hkind : o.kind = 2) (hT : Hid (∀ k ∈ T, k < w.heap.size)) (hl : st.left.length ≤ 1152921504606) (he : Hid (st.err ≠ 0)) (ok : Hid st.Ok) (h : Hid (Rd w r T st)) :
    Calls Try.prog 44 #[.pointer (some ⟨r, 0, none⟩), o.val] w (Same w r T st) := by
  have k0 : Hid (Kept [] w (w.alloc (.cells o.cells' 49 (0, 0)))) := (Kept.refl _ _).alloc _
  have h0 : Hid (Rd (w.alloc (.cells o.cells' 49 (0, 0))) r T st) := h.out.kept k0.out (by simp) (fun k _ hm => by simp at hm)
  have hT0 : Hid (∀ k ∈ T, k < (w.alloc (.cells o.cells' 49 (0, 0))).heap.size) := fun k hk => by have := hT.out k hk; simp; omega
  obtain ⟨who, kind, nn, kk, b, s⟩ := o
  simp only [] at hkind
  subst hkind
  unfold Stp.val
  simp only []
  go_enter Try.func44, Try.ntmps44
  go_wp2_with fail
  refine (u16_any _ r T st ok h0).mono ?_
  rintro e w1 ⟨rfl, h1, h2⟩
  go_wp2_with fail
  go_end0
  exact Same.mk rfl k0.out h1.out (RS.next_bad he.out 2) h2

theorem wrong_3 (w : World) (r : Nat) (T : List Nat) (st : RS) (o : Stp) (hkind : o.kind = 3) (hT : Hid (∀ k ∈ T, k < w.heap.size)) (hl : st.left.length ≤ 1152921504606) (he : Hid (st.err ≠ 0)) (ok : Hid st.Ok) (h : Hid (Rd w r T st)) :
    Calls Try.prog 44 #[.pointer (some ⟨r, 0, none⟩), o.val] w (Same w r T st) := by
  have k0 : Hid (Kept [] w (w.alloc (.cells o.cells' 49 (0, 0)))) := (Kept.refl _ _).alloc _
  have h0 : Hid (Rd (w.alloc (.cells o.cells' 49 (0, 0))) r T st) := h.out.kept k0.out (by simp) (fun k _ hm => by simp at hm)
  have hT0 : Hid (∀ k ∈ T, k < (w.alloc (.cells o.cells' 49 (0, 0))).heap.size) := fun k hk => by have := hT.out k hk; simp; omega
  obtain ⟨who, kind, nn, kk, b, s⟩ := o
  simp only [] at hkind
  subst hkind
  unfold Stp.val
  simp only []
  go_enter Try.func44, Try.ntmps44
  go_wp2_with fail
  refine (u32_any _ r T st ok h0).mono ?_
  rintro e w1 ⟨rfl, h1, h2⟩
  go_wp2_with fail
  go_end0
  exact Same.mk rfl k0.out h1.out (RS.next_bad he.out 4) h2

theorem wrong_4 (w : World) (r : Nat) (T : List Nat) (st : RS) (o : Stp) (hkind : o.kind = 4) (hT : Hid (∀ k ∈ T, k < w.heap.size)) (hl : st.left.length ≤ 1152921504606) (he : Hid (st.err ≠ 0)) (ok : Hid st.Ok) (h : Hid (Rd w r T st)) :
    Calls Try.prog 44 #[.pointer (some ⟨r, 0, none⟩), o.val] w (Same w r T st) := by
  have k0 : Hid (Kept [] w (w.alloc (.cells o.cells' 49 (0, 0)))) := (Kept.refl _ _).alloc _
  have h0 : Hid (Rd (w.alloc (.cells o.cells' 49 (0, 0))) r T st) := h.out.kept k0.out (by simp) (fun k _ hm => by simp at hm)
  have hT0 : Hid (∀ k ∈ T, k < (w.alloc (.cells o.cells' 49 (0, 0))).heap.size) := fun k hk => by have := hT.out k hk; simp; omega
  obtain ⟨who, kind, nn, kk, b, s⟩ := o
  simp only [] at hkind
  subst hkind
  unfold Stp.val
  simp only []
  go_enter Try.func44, Try.ntmps44
  go_wp2_with fail
  refine (u64_any _ r T st ok h0).mono ?_
  rintro e w1 ⟨rfl, h1, h2⟩
  go_wp2_with fail
  go_end0
  exact Same.mk rfl k0.out h1.out (RS.next_bad he.out 8) h2

theorem wrong_5 (w : World) (r : Nat) (T : List Nat) (st : RS) (o : Stp) (hkind : o.kind = 5) (hT : Hid (∀ k ∈ T, k < w.heap.size)) (hl : st.left.length ≤ 1152921504606) (he : Hid (st.err ≠ 0)) (ok : Hid st.Ok) (h : Hid (Rd w r T st)) :
    Calls Try.prog 44 #[.pointer (some ⟨r, 0, none⟩), o.val] w (Same w r T st) := by
  have k0 : Hid (Kept [] w (w.alloc (.cells o.cells' 49 (0, 0)))) := (Kept.refl _ _).alloc _
  have h0 : Hid (Rd (w.alloc (.cells o.cells' 49 (0, 0))) r T st) := h.out.kept k0.out (by simp) (fun k _ hm => by simp at hm)
  have hT0 : Hid (∀ k ∈ T, k < (w.alloc (.cells o.cells' 49 (0, 0))).heap.size) := fun k hk => by have := hT.out k hk; simp; omega
  obtain ⟨who, kind, nn, kk, b, s⟩ := o
  simp only [] at hkind
  subst hkind
  unfold Stp.val
  simp only []
  go_enter Try.func44, Try.ntmps44
  go_wp2_with fail
  refine (raw_any _ r T st kk hl ok h0).mono ?_
  rintro e w1 ⟨v, rfl, -, h1, h2⟩
  go_wp2_with fail
  go_end0
  exact Same.mk rfl k0.out h1.out (RS.rawed_bad he.out kk) h2

theorem wrong_6 (w : World) (r : Nat) (T : List Nat) (st : RS) (o : Stp) (hkind : o.kind = 6) (hT : Hid (∀ k ∈ T, k < w.heap.size)) (hl : st.left.length ≤ 1152921504606) (he : Hid (st.err ≠ 0)) (ok : Hid st.Ok) (h : Hid (Rd w r T st)) :
    Calls Try.prog 44 #[.pointer (some ⟨r, 0, none⟩), o.val] w (Same w r T st) := by
  have k0 : Hid (Kept [] w (w.alloc (.cells o.cells' 49 (0, 0)))) := (Kept.refl _ _).alloc _
  have h0 : Hid (Rd (w.alloc (.cells o.cells' 49 (0, 0))) r T st) := h.out.kept k0.out (by simp) (fun k _ hm => by simp at hm)
  have hT0 : Hid (∀ k ∈ T, k < (w.alloc (.cells o.cells' 49 (0, 0))).heap.size) := fun k hk => by have := hT.out k hk; simp; omega
  obtain ⟨who, kind, nn, kk, b, s⟩ := o
  simp only [] at hkind
  subst hkind
  unfold Stp.val
  simp only []
  go_enter Try.func44, Try.ntmps44
  go_wp2_with fail
  refine (text_any _ r T st hT0 ok h0).mono ?_
  rintro e w1 ⟨rfl, h1, h2⟩
  go_wp2_with fail
  go_end0
  exact Same.mk rfl k0.out h1.out (RS.text_bad he.out) h2

theorem wrong_7 (w : World) (r : Nat) (T : List Nat) (st : RS) (o : Stp) (hkind : o.kind = 7) (hT : Hid (∀ k ∈ T, k < w.heap.size)) (hl : st.left.length ≤ 1152921504606) (he : Hid (st.err ≠ 0)) (ok : Hid st.Ok) (h : Hid (Rd w r T st)) :
    Calls Try.prog 44 #[.pointer (some ⟨r, 0, none⟩), o.val] w (Same w r T st) := by
  have k0 : Hid (Kept [] w (w.alloc (.cells o.cells' 49 (0, 0)))) := (Kept.refl _ _).alloc _
  have h0 : Hid (Rd (w.alloc (.cells o.cells' 49 (0, 0))) r T st) := h.out.kept k0.out (by simp) (fun k _ hm => by simp at hm)
  have hT0 : Hid (∀ k ∈ T, k < (w.alloc (.cells o.cells' 49 (0, 0))).heap.size) := fun k hk => by have := hT.out k hk; simp; omega
  obtain ⟨who, kind, nn, kk, b, s⟩ := o
  simp only [] at hkind
  subst hkind
  unfold Stp.val
  simp only []
  go_enter Try.func44, Try.ntmps44
  go_wp2_with fail
  refine (part_any _ r T st hT0 ok h0).mono ?_
  rintro e w1 ⟨q, rfl, -, -, h1, h2⟩
  go_wp2_with fail
  go_end0
  exact Same.mk rfl k0.out h1.out (RS.past_bad he.out) h2

theorem wrong_8 (w : World) (r : Nat) (T : List Nat) (st : RS) (o : Stp) (hkind : o.kind = 8) (hT : Hid (∀ k ∈ T, k < w.heap.size)) (hl : st.left.length ≤ 1152921504606) (he : Hid (st.err ≠ 0)) (ok : Hid st.Ok) (h : Hid (Rd w r T st)) :
    Calls Try.prog 44 #[.pointer (some ⟨r, 0, none⟩), o.val] w (Same w r T st) := by
  have k0 : Hid (Kept [] w (w.alloc (.cells o.cells' 49 (0, 0)))) := (Kept.refl _ _).alloc _
  have h0 : Hid (Rd (w.alloc (.cells o.cells' 49 (0, 0))) r T st) := h.out.kept k0.out (by simp) (fun k _ hm => by simp at hm)
  have hT0 : Hid (∀ k ∈ T, k < (w.alloc (.cells o.cells' 49 (0, 0))).heap.size) := fun k hk => by have := hT.out k hk; simp; omega
  obtain ⟨who, kind, nn, kk, b, s⟩ := o
  simp only [] at hkind
  subst hkind
  unfold Stp.val
  simp only []
  go_enter Try.func44, Try.ntmps44
  go_wp2_with fail
  refine (end_any _ r T st h0).mono ?_
  rintro e w1 ⟨rfl, h1, h2⟩
  go_wp2_with fail
  go_end0
  exact Same.mk rfl k0.out h1.out (RS.end_bad he.out) h2

theorem wrong_9 (w : World) (r : Nat) (T : List Nat) (st : RS) (o : Stp) (hkind : o.kind = 9) (hT : Hid (∀ k ∈ T, k < w.heap.size)) (hl : st.left.length ≤ 1152921504606) (he : Hid (st.err ≠ 0)) (ok : Hid st.Ok) (h : Hid (Rd w r T st)) :
    Calls Try.prog 44 #[.pointer (some ⟨r, 0, none⟩), o.val] w (Same w r T st) := by
  have k0 : Hid (Kept [] w (w.alloc (.cells o.cells' 49 (0, 0)))) := (Kept.refl _ _).alloc _
  have h0 : Hid (Rd (w.alloc (.cells o.cells' 49 (0, 0))) r T st) := h.out.kept k0.out (by simp) (fun k _ hm => by simp at hm)
  have hT0 : Hid (∀ k ∈ T, k < (w.alloc (.cells o.cells' 49 (0, 0))).heap.size) := fun k hk => by have := hT.out k hk; simp; omega
  obtain ⟨who, kind, nn, kk, b, s⟩ := o
  simp only [] at hkind
  subst hkind
  unfold Stp.val
  simp only []
  go_enter Try.func44, Try.ntmps44
  go_wp2_with fail
  refine (fail_any _ r T st kk h0).mono ?_
  rintro e w1 ⟨rfl, h1, h2⟩
  go_wp2_with fail
  go_end0
  exact Same.mk rfl k0.out h1.out (RS.fail_bad he.out kk) h2

theorem wrong_none (w : World) (r : Nat) (T : List Nat) (st : RS) (o : Stp) (hne : ∀ j : Nat, 1 ≤ j → j ≤ 9 → o.kind ≠ j) (hT : Hid (∀ k ∈ T, k < w.heap.size)) (hl : st.left.length ≤ 1152921504606) (he : Hid (st.err ≠ 0)) (ok : Hid st.Ok) (h : Hid (Rd w r T st)) :
    Calls Try.prog 44 #[.pointer (some ⟨r, 0, none⟩), o.val] w (Same w r T st) := by
  have k0 : Hid (Kept [] w (w.alloc (.cells o.cells' 49 (0, 0)))) := (Kept.refl _ _).alloc _
  have h0 : Hid (Rd (w.alloc (.cells o.cells' 49 (0, 0))) r T st) := h.out.kept k0.out (by simp) (fun k _ hm => by simp at hm)
  have hT0 : Hid (∀ k ∈ T, k < (w.alloc (.cells o.cells' 49 (0, 0))).heap.size) := fun k hk => by have := hT.out k hk; simp; omega
  obtain ⟨who, kind, nn, kk, b, s⟩ := o
  simp only [] at hne
  have n1 : (kind == 1) = false := beq_eq_false_iff_ne.2 (hne 1 (by decide) (by decide))
  have n2 : (kind == 2) = false := beq_eq_false_iff_ne.2 (hne 2 (by decide) (by decide))
  have n3 : (kind == 3) = false := beq_eq_false_iff_ne.2 (hne 3 (by decide) (by decide))
  have n4 : (kind == 4) = false := beq_eq_false_iff_ne.2 (hne 4 (by decide) (by decide))
  have n5 : (kind == 5) = false := beq_eq_false_iff_ne.2 (hne 5 (by decide) (by decide))
  have n6 : (kind == 6) = false := beq_eq_false_iff_ne.2 (hne 6 (by decide) (by decide))
  have n7 : (kind == 7) = false := beq_eq_false_iff_ne.2 (hne 7 (by decide) (by decide))
  have n8 : (kind == 8) = false := beq_eq_false_iff_ne.2 (hne 8 (by decide) (by decide))
  have n9 : (kind == 9) = false := beq_eq_false_iff_ne.2 (hne 9 (by decide) (by decide))
  clear hne
  unfold Stp.val
  simp only []
  go_enter Try.func44, Try.ntmps44
  go_wp2_with fail
  go_end0
  exact Same.mk rfl k0.out h0.out rfl (Kept.refl _ _)

theorem wrong_any (w : World) (r : Nat) (T : List Nat) (st : RS) (o : Stp) (hT : Hid (∀ k ∈ T, k < w.heap.size)) (hl : st.left.length ≤ 1152921504606) (he : Hid (st.err ≠ 0)) (ok : Hid st.Ok) (h : Hid (Rd w r T st)) :
    Calls Try.prog 44 #[.pointer (some ⟨r, 0, none⟩), o.val] w (Same w r T st) := by
  by_cases h1 : o.kind = 1
  · exact wrong_1 w r T st o h1 hT hl he ok h
  by_cases h2 : o.kind = 2
  · exact wrong_2 w r T st o h2 hT hl he ok h
  by_cases h3 : o.kind = 3
  · exact wrong_3 w r T st o h3 hT hl he ok h
  by_cases h4 : o.kind = 4
  · exact wrong_4 w r T st o h4 hT hl he ok h
  by_cases h5 : o.kind = 5
  · exact wrong_5 w r T st o h5 hT hl he ok h
  by_cases h6 : o.kind = 6
  · exact wrong_6 w r T st o h6 hT hl he ok h
  by_cases h7 : o.kind = 7
  · exact wrong_7 w r T st o h7 hT hl he ok h
  by_cases h8 : o.kind = 8
  · exact wrong_8 w r T st o h8 hT hl he ok h
  by_cases h9 : o.kind = 9
  · exact wrong_9 w r T st o h9 hT hl he ok h
  exact wrong_none w r T st o (fun j j1 j2 e => by omega) hT hl he ok h
end Rdr
end Go.Proofs.Ytlmfcnedbmonjaa
