/- The law's own example ('known'): it answers true. -/
import Derived.Test.YtfdbpbhihccgbaaSam
import Derived.Test.YtfdbpbhihccgbaaWsh
import Derived.Test.YtfdbpbhihccgbaaWos
namespace Go.Proofs.Ytfdbpbhihccgbaa
set_option linter.unusedVariables false
open Go.RowKit
namespace Kno
open Go.Proofs.Ytfdbpbhihccgbaa.Txt

def s0 : WS := ⟨20, [], [], 0⟩
def s1 : WS := ⟨20, [2, 1], [], 0⟩
def s2 : WS := ⟨20, [2, 1, 0, 0], [2], 0⟩
def s3 : WS := ⟨20, [2, 1, 0, 0, 7], [2], 0⟩
def s4 : WS := ⟨20, [2, 1, 0, 0, 7, 2, 0, 97, 98], [2], 0⟩
def s5 : WS := ⟨20, [2, 1, 5, 0, 7, 2, 0, 97, 98], [], 0⟩
theorem ok0 : Hid s0.Ok := ⟨by decide, by decide, by decide⟩
theorem ok1 : Hid s1.Ok := ⟨by decide, by decide, by decide⟩
theorem ok2 : Hid s2.Ok := ⟨by decide, by decide, by decide⟩
theorem ok3 : Hid s3.Ok := ⟨by decide, by decide, by decide⟩
theorem ok4 : Hid s4.Ok := ⟨by decide, by decide, by decide⟩
theorem fit4 : Hid s4.Fit := fun q hq => by
  have : q = 2 := by simpa [s4] using hq
  subst this
  decide
theorem e1 : Hid (s0.raw (le 2 258) = s1) := by unfold Hid; kernel_rfl
theorem e2 : Hid (s1.opened = s2) := by unfold Hid; kernel_rfl
theorem p2 : Hid (s1.place = 2) := by unfold Hid; kernel_rfl
theorem e3 : Hid (s2.raw (le 1 7) = s3) := by unfold Hid; kernel_rfl
theorem e4 : Hid (s3.text ⟨#[97, 98]⟩ = s4) := by unfold Hid; kernel_rfl
theorem e5 : Hid (s4.shut 2 = s5) := by unfold Hid; kernel_rfl
def r0 : RS := ⟨[2, 1, 5, 0, 7, 2, 0, 97, 98], 0, 0, 0⟩
def r1 : RS := ⟨[5, 0, 7, 2, 0, 97, 98], 2, 0, 0⟩
def r2 : RS := ⟨[], 9, 0, 0⟩
def q0 : RS := ⟨[7, 2, 0, 97, 98], 4, 0, 0⟩
def q1 : RS := ⟨[2, 0, 97, 98], 5, 0, 0⟩
def q2 : RS := ⟨[], 9, 0, 0⟩
theorem rk0 : Hid r0.Ok := ⟨by decide, by decide, by decide⟩
theorem rk1 : Hid r1.Ok := ⟨by decide, by decide, by decide⟩
theorem qk0 : Hid q0.Ok := ⟨by decide, by decide, by decide⟩
theorem qk1 : Hid q1.Ok := ⟨by decide, by decide, by decide⟩
theorem f1 : Hid (r0.next 2 = r1) := by unfold Hid; kernel_rfl
theorem f2 : Hid (r0.cnt = 258) := by unfold Hid; kernel_rfl
theorem f3 : Hid (r1.part = q0) := by unfold Hid; kernel_rfl
theorem f4 : Hid (r1.past = r2) := by unfold Hid; kernel_rfl
theorem f5 : Hid (q0.next 1 = q1) := by unfold Hid; kernel_rfl
theorem f6 : Hid (leval (q0.got 1) = 7) := by unfold Hid; kernel_rfl
theorem f7 : Hid (q1.text = q2) := by unfold Hid; kernel_rfl
theorem f8 : Hid (q1.said = ⟨#[97, 98]⟩) := by unfold Hid; kernel_rfl

/-- The nine bytes that the example holds its own against. -/
def lit : Array Value := #[.int .u8 2, .int .u8 1, .int .u8 5, .int .u8 0, .int .u8 7, .int .u8 2, .int .u8 0, .int .u8 97, .int .u8 98]

/-- A step on blocks that are new since the beginning. -/
theorem stepK {w a b : World} {S S' : List Nat} (K : Kept [] w a) (hS : ∀ i ∈ S, w.heap.size ≤ i) (k : Kept S a b) (n : ∀ i ∈ S', i ∈ S ∨ a.heap.size ≤ i) : Kept [] w b ∧ ∀ i ∈ S', w.heap.size ≤ i :=
  ⟨K.trans k (fun i hi => Or.inr (hS i hi)), fun i hi => by rcases n i hi with q | q; exact hS i q; have := K.size; omega⟩

theorem seg_lit (w : World) : Seg (w.alloc (.cells lit 5)) (.slice (some ⟨w.heap.size, 0, none⟩) 9 9) [2, 1, 5, 0, 7, 2, 0, 97, 98] [w.heap.size] := by
  refine Or.inr ⟨w.heap.size, 0, 9, rfl, by decide, by simp, fun j u hu => ?_⟩
  rw [cell_of_row _ w.heap.size (0 + j) lit 5 (0, 0) (heap_alloc_new w _), Nat.zero_add]
  have e : lit.toList = ([2, 1, 5, 0, 7, 2, 0, 97, 98] : List UInt8).map bv := rfl
  rw [← e] at hu
  rw [← Array.getElem?_toList]
  exact hu

set_option maxHeartbeats 2000000 in
theorem known_any (w : World) : Calls Try.prog 6 #[] w fun e w' => e = .returned (.bool true) ∧ Kept [] w w' := by
  go_enter Try.func6, Try.ntmps6
  go_wp2_with fail
  refine (Wrt.new_good _ _ 20 rfl (by decide)).mono ?_
  rintro e w1 ⟨rfl, hw1, k1⟩
  obtain ⟨p, hp⟩ : ∃ p, p = w.heap.size := ⟨_, rfl⟩
  rw [← hp] at hw1 ⊢
  have hw1 : Hid (Wr 77 w1 p [p] s0) := hw1
  have M1 : Hid (Kept [] w w1 ∧ ∀ i ∈ [p], w.heap.size ≤ i) := ⟨k1, fun i hi => by simp at hi; omega⟩
  clear k1 hp
  go_wp2_with fail
  refine (Wrt.u16_any _ p _ s0 _ 258 rfl (by decide) ok0 hw1).mono ?_
  rintro e w2 ⟨rfl, S2, hw2, k2, n2⟩
  rw [e1.out] at hw2
  have M2 := Lib.hid (stepK M1.out.1 M1.out.2 k2 n2)
  clear k2 n2
  go_wp2_with fail
  refine (Wrt.open_any _ p _ s1 ok1 hw2).mono ?_
  rintro e w3 ⟨rfl, S3, hw3, k3, n3⟩
  rw [e2.out] at hw3
  rw [p2.out]
  have M3 := Lib.hid (stepK M2.out.1 M2.out.2 k3 n3)
  clear k3 n3
  go_wp2_with fail
  refine (Wrt.u8_any _ p _ s2 _ 7 rfl (by decide) ok2 hw3).mono ?_
  rintro e w4 ⟨rfl, S4, hw4, k4, n4⟩
  rw [e3.out] at hw4
  have M4 := Lib.hid (stepK M3.out.1 M3.out.2 k4 n4)
  clear k4 n4
  go_wp2_with fail
  refine (Wrt.text_any _ p _ s3 ⟨#[97, 98]⟩ (by decide) ok3 hw4).mono ?_
  rintro e w5 ⟨rfl, S5, hw5, k5, n5⟩
  rw [e4.out] at hw5
  have M5 := Lib.hid (stepK M4.out.1 M4.out.2 k5 n5)
  clear k5 n5
  go_wp2_with fail
  refine (Wrt.shut_any _ p _ s4 _ ok4 fit4 hw5).mono ?_
  rintro e w6 ⟨rfl, S6, hw6, k6, n6⟩
  rw [e5.out] at hw6
  have M6 := Lib.hid (stepK M5.out.1 M5.out.2 k6 n6)
  clear k6 n6
  go_wp2_with fail
  refine (Wrt.done_good _ p _ s5 rfl rfl (by decide) hw6).mono ?_
  rintro e w7 ⟨b, rfl, hb, k7⟩
  have hb' : w7.ownsRow w6.heap.size 5 1 b 9 (([2, 1, 5, 0, 7, 2, 0, 97, 98] : List UInt8).map bv) := hb.out
  have HB : Hid (Seg w7 b [2, 1, 5, 0, 7, 2, 0, 97, 98] b.ownBlock.toList) := Seg.of_own hb'
  have M7 : Hid (Kept [] w w7) := M6.out.1.trans k7 (fun i hi => by simp at hi)
  clear k7 hb hb' hw1 hw2 hw3 hw4 hw5 M1 M2 M3 M4 M5
  obtain ⟨ba, bc, hbs⟩ := HB.out.slice
  subst hbs
  have HL : Hid (Seg (w7.alloc (.cells lit 5)) (.slice (some ⟨w7.heap.size, 0, none⟩) 9 9) [2, 1, 5, 0, 7, 2, 0, 97, 98] [w7.heap.size]) := seg_lit w7
  have k8 : Kept [] w7 (w7.alloc (.cells lit 5)) := (Kept.refl _ _).alloc _
  have HB8 : Hid (Seg (w7.alloc (.cells lit 5)) (.slice ba 9 bc) [2, 1, 5, 0, 7, 2, 0, 97, 98] (Value.slice ba 9 bc).ownBlock.toList) := HB.out.kept k8 (fun k _ hm => by simp at hm)
  have M8 : Hid (Kept [] w (w7.alloc (.cells lit 5))) := M7.out.trans k8 (fun i hi => by simp at hi)
  clear k8 M7 HB
  go_wp2_with fail
  refine (Lst.same_any _ _ _ [2, 1, 5, 0, 7, 2, 0, 97, 98] [2, 1, 5, 0, 7, 2, 0, 97, 98] _ _ (by decide) HB8 HL).mono ?_
  rintro e w9 ⟨rfl, k9⟩
  have HB9 : Hid (Src w9 (.slice ba 9 bc) [2, 1, 5, 0, 7, 2, 0, 97, 98] (Value.slice ba 9 bc).ownBlock.toList) := (HB8.out.kept k9 (fun k _ hm => by simp at hm)).src
  have M9 : Hid (Kept [] w w9) := M8.out.trans k9 (fun i hi => by simp at hi)
  clear k9 HB8 HL M8
  go_wp2_with fail
  refine (Rdr.new_any _ _ [2, 1, 5, 0, 7, 2, 0, 97, 98] _ (by decide) HB9).mono ?_
  rintro e w10 ⟨r, T, rfl, hr, k10, nr, nT⟩
  have hr : Hid (Rd w10 r T r0) := hr
  have M10 : Hid (Kept [] w w10) := M9.out.trans k10 (fun i hi => by simp at hi)
  have hrn : Hid (w.heap.size ≤ r) := by have := M9.out.size; show _ ≤ r; omega
  have hT10 : Hid (∀ k ∈ T, k < w10.heap.size) := fun k hk => (nT.out k hk).2
  clear k10 nr nT
  go_wp2_with fail
  refine (Rdr.u16_any _ r T r0 rk0 hr).mono ?_
  rintro e w11 ⟨rfl, hr1, k11⟩
  rw [f1.out] at hr1
  rw [f2.out]
  have M11 : Hid (Kept [] w w11) := M10.out.trans k11 (fun i hi => by simp at hi; subst hi; exact Or.inr hrn.out)
  have hT11 : Hid (∀ k ∈ T, k < w11.heap.size) := fun k hk => Nat.lt_of_lt_of_le (hT10.out k hk) k11.size
  clear k11
  go_wp2_with fail
  refine (Rdr.part_any _ r T r1 hT11 rk1 hr1).mono ?_
  rintro e w12 ⟨q, rfl, hqn, hq, hr2, k12⟩
  rw [f3.out] at hq
  rw [f4.out] at hr2
  have M12 : Hid (Kept [] w w12) := M11.out.trans k12 (fun i hi => by simp at hi; subst hi; exact Or.inr hrn.out)
  have hT12 : Hid (∀ k ∈ T, k < w12.heap.size) := fun k hk => Nat.lt_of_lt_of_le (hT11.out k hk) k12.size
  have hqw : Hid (w.heap.size ≤ q) := by have := M11.out.size; show _ ≤ q; omega
  have hqr : Hid (r ≠ q) := by
    have := hr1.out.lt
    show r ≠ q
    omega
  clear k12 hqn
  go_wp2_with fail
  refine (Rdr.u8_any _ q T q0 qk0 hq).mono ?_
  rintro e w13 ⟨rfl, hq1, k13⟩
  rw [f5.out] at hq1
  rw [f6.out]
  have M13 : Hid (Kept [] w w13) := M12.out.trans k13 (fun i hi => by simp at hi; subst hi; exact Or.inr hqw.out)
  have hT13 : Hid (∀ k ∈ T, k < w13.heap.size) := fun k hk => Nat.lt_of_lt_of_le (hT12.out k hk) k13.size
  have hqT : Hid (∀ k ∈ T, k ∉ [q]) := by
    obtain ⟨v, _, _, h⟩ := hq1.out
    exact fun k hk hm => by simp at hm; exact h (hm ▸ hk)
  have hr13 : Hid (Rd w13 r T r2) := hr2.out.kept k13 (by simpa using hqr.out) hqT.out
  clear k13
  go_wp2_with fail
  refine (Rdr.text_any _ q T q1 hT13 qk1 hq1).mono ?_
  rintro e w14 ⟨rfl, hq2, k14⟩
  rw [f7.out] at hq2
  rw [f8.out]
  have M14 : Hid (Kept [] w w14) := M13.out.trans k14 (fun i hi => by simp at hi; subst hi; exact Or.inr hqw.out)
  have hr14 : Hid (Rd w14 r T r2) := hr13.out.kept k14 (by simpa using hqr.out) hqT.out
  clear k14
  go_wp2_with fail
  refine (Rdr.err_any _ q T q2 hq2).mono ?_
  rintro e w15 ⟨rfl, k15⟩
  have M15 : Hid (Kept [] w w15) := M14.out.trans k15 (fun i hi => by simp at hi)
  have hr15 : Hid (Rd w15 r T r2) := hr14.out.kept k15 (by simp) (fun k _ hm => by simp at hm)
  have hq15 : Hid (Rd w15 q T q2) := hq2.out.kept k15 (by simp) (fun k _ hm => by simp at hm)
  clear k15
  have z1 : q2.err = 0 := rfl
  have z2 : q2.bad = 0 := rfl
  rw [z1, z2]
  clear z1 z2
  go_wp2_with fail
  refine (Rdr.at_any _ q T q2 hq15).mono ?_
  rintro e w16 ⟨rfl, rfl⟩
  have z1 : q2.pos = 9 := rfl
  rw [z1]
  clear z1
  go_wp2_with fail
  refine (Rdr.left_any _ r T r2 hr15).mono ?_
  rintro e w16 ⟨rfl, rfl⟩
  have z1 : r2.err = 0 := rfl
  rw [if_pos z1]
  have z2 : r2.left.length = 0 := rfl
  rw [z2]
  clear z1 z2
  go_wp2_with fail
  go_ret
  exact ⟨rfl, M15.out⟩
end Kno
end Go.Proofs.Ytfdbpbhihccgbaa
