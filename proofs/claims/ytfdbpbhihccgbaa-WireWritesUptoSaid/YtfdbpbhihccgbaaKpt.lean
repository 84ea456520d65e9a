/- What the law's kept answers of a list with its marks: it is as it was; then it is written over. And the law's raw. -/
import Derived.Test.YtfdbpbhihccgbaaFil
import Derived.Test.YtfdbpbhihccgbaaSam
import Derived.Test.YtfdbpbhihccgbaaTwo
import Derived.Deep.Onto
namespace Go.Proofs.Ytfdbpbhihccgbaa
set_option linter.unusedVariables false
open Go.RowKit
namespace Lst
open Go.Proofs.Ytfdbpbhihccgbaa.Txt

set_option maxHeartbeats 1000000 in
theorem kept_true (w : World) (g c : Nat) (b : Value) (bs : List UInt8) (T : List Nat) (hsz : bs.length ≤ 1152921504) (hv : Hid (w.ownsRow 0 5 1 (.slice (some ⟨g, 0, none⟩) (bs.length + 3) c) (bs.length + 3) ((marked bs).map bv))) (hb : Hid (Src w b bs T)) :
    Calls Try.prog 19 #[.slice (some ⟨g, 0, none⟩) (bs.length + 3) c, b] w fun e w' => e = .returned (.bool true) ∧ Kept [g] w w' := by
  have hml : (marked bs).length = bs.length + 3 := by simp [marked]
  have hseg0 : Seg w (.slice (some ⟨g, 0, none⟩) (bs.length + 3) c) (marked bs) [g] := by
    have h1 := hv.out
    rw [← hml] at h1
    have := Seg.of_own h1
    rw [hml] at this
    exact this
  have hseg : Hid (Seg w (.slice (some ⟨g, 0, none⟩) bs.length c) bs [g]) := by
    have h1 := hseg0
    rw [← hml] at h1
    have h2 := h1.take (n := bs.length) (by omega)
    have e : (marked bs).take bs.length = bs := by unfold marked; simp
    rw [e] at h2
    exact h2
  have hcap : bs.length + 3 ≤ c := by
    rcases hv.out.2 with ⟨h, _⟩ | ⟨_, _, _, h, _, _, hc, _⟩
    · cases h
    · simp only [Value.slice.injEq] at h; omega
  have d0 : w.cell? ⟨g, bs.length, none⟩ = some (.int .u8 90) := by rw [hv.out.cellAt bs.length (by omega)]; simp [marked, bv]
  have d1 : w.cell? ⟨g, bs.length + 1, none⟩ = some (.int .u8 165) := by rw [hv.out.cellAt (bs.length + 1) (by omega)]; simp [marked, bv]
  have d2 : w.cell? ⟨g, bs.length + 2, none⟩ = some (.int .u8 105) := by rw [hv.out.cellAt (bs.length + 2) (by omega)]; simp [marked, bv]
  clear hseg0 hml
  have hl' : ((bs.length : Int) + 3 - 3) = bs.length := by omega
  go_enter Try.func19, Try.ntmps19
  go_wp2_with fail
  refine (same_src w _ b bs bs [g] T (by omega) hseg hb).mono ?_
  rintro e w1 ⟨rfl, hk1⟩
  rw [show decide (bs = bs) = true from by simp]
  have D0 : w1.cell? ⟨g, bs.length, none⟩ = some (.int .u8 90) := by rw [← d0]; exact World.cell?_of_block (hk1.block _ (World.block_lt_of_cell? w _ d0) (by simp))
  have D1 : w1.cell? ⟨g, bs.length + 1, none⟩ = some (.int .u8 165) := by rw [← d1]; exact World.cell?_of_block (hk1.block _ (World.block_lt_of_cell? w _ d1) (by simp))
  have D2 : w1.cell? ⟨g, bs.length + 2, none⟩ = some (.int .u8 105) := by rw [← d2]; exact World.cell?_of_block (hk1.block _ (World.block_lt_of_cell? w _ d2) (by simp))
  have hv1 := Lib.hid (own_kept hv.out hk1 (fun k _ hm => by simp at hm))
  clear d0 d1 d2
  go_wp2_with fail
  go_loopw [7] (fun v wr => ∃ (k : Nat) (xs : List Value), k ≤ bs.length + 3 ∧ v = .int .i64 k ∧ Hid (wr.ownsRow 0 5 1 (.slice (some ⟨g, 0, none⟩) (bs.length + 3) c) (bs.length + 3) xs) ∧ Hid (Kept [g] w wr)) (fun v _ => bs.length + 3 - (intOf v).toNat)
  case atStart => exact ⟨0, _, by omega, rfl, hv1.out, hk1.mono (fun i hi => by simp at hi)⟩
  case round =>
    obtain ⟨k, xs, hk, rfl, hown, hK⟩ := hrel
    by_cases hlt : k < bs.length + 3
    · have hxl : xs.length = (bs.length + 3) * 1 := hown.out.1
      have dk : wr.cell? ⟨g, k, none⟩ = some (xs[k]'(by omega)) := by rw [hown.out.cellAt k (by omega)]; exact List.getElem?_eq_getElem _
      have fk := hown.out.frozenAt k
      have R1 := Lib.hid (hown.out.stored k (.int .u8 238)).1
      go_wp2_with fail
      go_roundw
      case rel => exact ⟨k + 1, _, by omega, by go_num, R1, hK.out.setCell (Or.inl (by simp)) _⟩
      case measure => simp [intOf]; omega
    · go_wp2_with fail
      go_ret
      exact ⟨rfl, hK.out⟩
end Lst

/-- The marked list's own slice, and the list without its marks. -/
theorem own_marked {w : World} {B : Nat} {v : Value} {bs : List UInt8} (h : Wrt.Own w B v (Lst.marked bs)) :
    ∃ g c, v = .slice (some ⟨g, 0, none⟩) (bs.length + 3) c ∧ B ≤ g ∧ g < w.heap.size ∧ bs.length + 3 ≤ c ∧ w.ownsRow 0 5 1 (.slice (some ⟨g, 0, none⟩) (bs.length + 3) c) (bs.length + 3) ((Lst.marked bs).map bv) := by
  have hml : (Lst.marked bs).length = bs.length + 3 := by simp [Lst.marked]
  have h1 : w.ownsRow B 5 1 v (bs.length + 3) ((Lst.marked bs).map bv) := by rw [← hml]; exact h
  rcases h1.2 with ⟨_, h0⟩ | ⟨g, c, cur, rfl, hb, hg, hc, _⟩
  · omega
  · exact ⟨g, c, rfl, hb, block_lt hg, hc, World.ownsRow.mono h1 (Nat.zero_le _)⟩
theorem marked_seg {w : World} {g c : Nat} {bs : List UInt8} (h : w.ownsRow 0 5 1 (.slice (some ⟨g, 0, none⟩) (bs.length + 3) c) (bs.length + 3) ((Lst.marked bs).map bv)) : Seg w (.slice (some ⟨g, 0, none⟩) bs.length c) bs [g] := by
  have hml : (Lst.marked bs).length = bs.length + 3 := by simp [Lst.marked]
  rw [← hml] at h
  have h2 := (Seg.of_own h).take (n := bs.length) (by omega)
  have e : (Lst.marked bs).take bs.length = bs := by unfold Lst.marked; simp
  rw [e] at h2
  exact h2

namespace Two
open Go.Proofs.Ytfdbpbhihccgbaa.Txt

set_option maxHeartbeats 1000000 in
theorem raw_any (w : World) (p q : Nat) (S R T : List Nat) (st sv : WS) (b : Value) (bs : List UInt8) (hsz : bs.length ≤ 1152921504) (hb : Hid (Src w b bs T)) (hd : Hid (∀ k ∈ T, k ∉ S ++ R)) (ok : Hid st.Ok) (okv : Hid sv.Ok) (h : Hid (Two w p q S R st sv)) :
    Calls Try.prog 38 #[.pointer (some ⟨p, 0, none⟩), .pointer (some ⟨q, 0, none⟩), b] w fun e w' => e = .returned (.bool true) ∧ TwoOut w p q S R (st.raw bs) (sv.raw bs) w' := by
  obtain ⟨ba, bc, rfl⟩ := Lst.src_slice hb.out
  have hsrc : Hid (Src w (.slice ba bs.length bc) bs T) := hb.out
  have hlt := Lib.hid h.out.lt
  go_enter Try.func38, Try.ntmps38
  go_wp2_with fail
  refine (Lst.lent_any _ _ bs T hsz hsrc).mono ?_
  rintro e w1 ⟨v1, rfl, hown, k1⟩
  obtain ⟨g, c, rfl, hg1, hg2, hc, hm⟩ := own_marked hown.out
  have K1 := Lib.hid k1
  have HM := Lib.hid hm
  have hgS : Hid (∀ k ∈ S ++ R, k ≠ g) := fun k hk e => by have := hlt.out k hk; omega
  have h1 : Hid (Two w1 p q S R st sv) := h.out.kept k1 (fun k _ hm => by simp at hm)
  have ha : Hid (Wr 77 w1 p S st) := h1.out.a
  have hs1 : Hid (Src w1 (.slice (some ⟨g, 0, none⟩) bs.length c) bs [g]) := (marked_seg hm).src
  have hb1 : Hid (Src w1 (.slice ba bs.length bc) bs T) := hb.out.kept k1 (fun k _ hm => by simp at hm)
  have hdg : Hid (∀ k ∈ [g], k ∉ S) := fun k hk hm => by simp at hk; exact hgS.out k (List.mem_append_left _ hm) hk
  clear k1 hm hown
  go_wp2_with fail
  refine (Wrt.raw_any _ p S [g] st _ bs (by omega) hs1 hdg ok ha).mono ?_
  rintro e w2 ⟨rfl, ho⟩
  obtain ⟨S1, H1⟩ := h1.out.half ho
  have hb2 : Hid (Src w2 (.slice ba bs.length bc) bs T) := hb1.out.kept H1.out.kept (fun k hk hm => hd.out k hk (List.mem_append_left _ hm))
  have hs2 : Hid (Src w2 (.slice ba bs.length bc) bs T) := hb2
  have hbb : Hid (Wr 79 w2 q R sv) := H1.out.b
  have hdr : Hid (∀ k ∈ T, k ∉ R) := fun k hk hm => hd.out k hk (List.mem_append_right _ hm)
  clear ho
  go_wp2_with fail
  refine (Vrt.raw_any _ q R T sv _ bs (by omega) hs2 hdr okv hbb).mono ?_
  rintro e w3 ⟨rfl, ho⟩
  have hO := H1.out.whole ho
  clear ho
  obtain ⟨S3, R3, h3, k3, s3⟩ := hO
  have HM3 : Hid (w3.ownsRow 0 5 1 (.slice (some ⟨g, 0, none⟩) (bs.length + 3) c) (bs.length + 3) ((Lst.marked bs).map bv)) := own_kept HM.out k3 (fun k hk hm => by simp [Value.ownBlock] at hk; exact hgS.out k hm hk.symm)
  have hb3 : Hid (Src w3 (.slice ba bs.length bc) bs T) := hb1.out.kept k3 hd.out
  have K3 := Lib.hid k3
  have S3' := Lib.hid s3
  clear k3 s3
  go_wp2_with fail
  refine (Lst.kept_true _ g c _ bs T hsz HM3 hb3).mono ?_
  rintro e w4 ⟨rfl, k4⟩
  have K4 := Lib.hid k4
  clear k4
  go_wp2_with fail
  go_ret
  have hz1 := K1.out.size
  refine ⟨rfl, S3, R3, h3.out.kept K4.out (fun k hk hm => ?_), ((K1.out.mono (fun i hi => by simp at hi)).trans K3.out (fun i hi => Or.inl hi)).trans K4.out (fun i hi => by simp at hi; right; omega), fun k hk => ?_⟩
  · simp at hm
    rcases S3'.out k hk with n | n
    · exact hgS.out k n hm
    · omega
  · rcases S3'.out k hk with n | n
    · exact Or.inl n
    · right; omega
end Two
end Go.Proofs.Ytfdbpbhihccgbaa
