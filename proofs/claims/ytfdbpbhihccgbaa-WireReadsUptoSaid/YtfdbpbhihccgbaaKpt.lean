/- What the law's kept answers of a list with its marks: it is as it was; then it is written over. And the law's raw. -/
import Derived.Test.YtfdbpbhihccgbaaVnm
import Derived.Test.YtfdbpbhihccgbaaSam
import Derived.Test.YtfdbpbhihccgbaaTwo
import Derived.Deep.Onto

section
namespace Go.Proofs.Ytfdbpbhihccgbaa
set_option linter.unusedVariables false
open Go.RowKit
namespace Lst
open Go.Proofs.Ytfdbpbhihccgbaa.Txt

set_option maxHeartbeats 1000000 in
set_option maxRecDepth 100000 in
theorem fill_any (w : World) (x y : Int) (n : Nat) (c : UInt8) (hx : x = n) (hy : y = c.toNat) (hn : n ≤ 1152921504) :
    Calls Try.prog 39 #[.int .i64 x, .int .u8 y] w (Wrt.Fresh w (List.replicate n c)) := by
  subst hx hy
  obtain ⟨i0, hi, hz0, hz1, hz2⟩ := info_parts Wrt.info5
  go_enter Try.func39, Try.ntmps39
  go_wp2_with fail
  go_loopw [5, 6] (fun b0 kv wr => ∃ (k : Nat) (b : Value), k ≤ n ∧ kv = .int .i64 k ∧ b = b0 ∧ Hid (wr.ownsRow w.heap.size 5 1 b (List.replicate k c).length ((List.replicate k c).map bv)) ∧ Hid (Kept [] w wr)) (fun _ kv _ => n - (intOf kv).toNat)
  case atStart => exact ⟨0, _, by omega, rfl, rfl, World.ownsRow_nil _ _ _ _, Kept.refl _ _⟩
  case round =>
    obtain ⟨k, b, hk, rfl, rfl, hown, hK⟩ := hrel
    by_cases hlt : k < n
    · obtain ⟨l, hl⟩ : ∃ l, l = List.replicate k c := ⟨_, rfl⟩
      have hll : l.length = k := by rw [hl, List.length_replicate]
      rw [← hl] at hown
      have HL := Lib.hid hl
      have HLL := Lib.hid hll
      have hlk : l.length ≤ 1152921504 := by omega
      have e2 : List.replicate (k + 1) c = l ++ [c] := by rw [hl, List.replicate_succ']
      have E2 := Lib.hid e2
      clear hl hll e2
      go_wp2_with (at_builtin; refine wpList_append_own _ rfl (.tmp 12) (.tmp 14) 37 rfl w.heap.size 5 i0 (.int .u8 0) 1 1 Try.underlying37 hi hz0 hz1 hz2 rfl (by decide) b l.length _ rfl (hown.out.alloc _) ⟨wr.heap.size, 0, none⟩ 1 1 [bv c] rfl rfl (World.news_of_block (cs := #[bv c]) (by exact heap_alloc_new wr _)) (by intro u hu; simp at hu; subst hu; rfl) (by unfold maxLen; omega) (by omega) (by have := hK.out.size; simp; omega) ?_; intro v2 w2 hown2 hgrow2 _; have R1 : Hid (w2.ownsRow w.heap.size 5 1 v2 (List.replicate (k + 1) c).length ((List.replicate (k + 1) c).map bv)) := (by rw [E2.out]; simpa [Hid] using hown2); have R2 : Hid (Kept [] w w2) := (hK.out.trans ((Kept.refl [] wr).alloc _) (fun i hi => by simp at hi)).grown hgrow2 (fun i hi => Or.inr (hown.out.lt i hi).1); clear hown2 hgrow2)
      go_roundw
      case rel => exact ⟨k + 1, v2, by omega, by go_num, rfl, R1, R2⟩
      case measure => simp [intOf]; omega
    · have hkM : k = n := by omega
      rw [hkM] at hown
      clear hkM
      go_wp2_with fail
      go_ret
      exact ⟨_, rfl, hown.out, hK.out⟩

/-- The bytes with their marks behind them. -/
def marked (bs : List UInt8) : List UInt8 := bs ++ [90, 165, 105]

set_option maxHeartbeats 1000000 in
set_option maxRecDepth 100000 in
theorem lent_any (w : World) (v : Value) (bs : List UInt8) (T : List Nat) (hsz : bs.length ≤ 1152921504) (hb : Hid (Src w v bs T)) :
    Calls Try.prog 17 #[v] w (Wrt.Fresh w (marked bs)) := by
  obtain ⟨i0, hi, hz0, hz1, hz2⟩ := info_parts Wrt.info5
  obtain ⟨a, c, rfl, hno, hcl⟩ := hb.out
  cases a with
  | none =>
    obtain ⟨rfl, rfl⟩ := hno rfl
    clear hno hcl hb hsz
    rw [show (List.length ([] : List UInt8)) = 0 from rfl]
    go_enter Try.func17, Try.ntmps17
    go_wp2_with (at_builtin; first | (refine wpList_append_own_none rfl (.tmp 4) (.tmp 5) 37 rfl w.heap.size 5 i0 1 Try.underlying37 hi _ 0 [] rfl (World.ownsRow_nil _ _ _ _) rfl ?_) | (refine wpList_append_own _ rfl (.tmp 7) (.tmp 8) 37 rfl w.heap.size 5 i0 (.int .u8 0) 1 1 Try.underlying37 hi hz0 hz1 hz2 rfl (by decide) _ 0 _ rfl (World.ownsRow_nil _ _ _ _) ⟨w.heap.size, 0, none⟩ 3 3 [bv 90, bv 165, bv 105] rfl rfl (World.news_of_block (cs := #[bv 90, bv 165, bv 105]) (by exact heap_alloc_new w _)) (by intro u hu; simp at hu; rcases hu with rfl | rfl | rfl <;> rfl) (by unfold maxLen; omega) (by omega) (by simp) ?_; intro v2 w2 hown2 hgrow2 _; have Q1 : Hid (Wrt.Own w2 w.heap.size v2 (marked [])) := (by simpa [Hid, marked, Wrt.Own] using hown2); have Q2 : Hid (Kept [] w w2) := ((Kept.refl [] w).alloc _).grown hgrow2 (fun i hi => by cases hi); clear hown2 hgrow2))
    go_ret
    exact ⟨_, rfl, Q1, Q2.out⟩
  | some ad =>
    have Hcl := Lib.hid (hcl ad rfl).2
    clear hno hcl
    go_enter Try.func17, Try.ntmps17
    go_wp2_with (at_builtin; first | (refine wpList_append_own_at _ rfl (.tmp 4) (.tmp 5) 37 rfl w.heap.size 5 i0 (.int .u8 0) 1 1 Try.underlying37 hi hz0 hz1 hz2 rfl (by decide) _ 0 [] rfl (World.ownsRow_nil _ _ _ _) ad _ _ (bs.map bv) rfl (by simp) Hcl.out (by intro u hu; obtain ⟨x, _, rfl⟩ := List.mem_map.1 hu; rfl) (by unfold maxLen; omega) (by omega) (by simp) ?_; intro v1 w1 hown hgrow _ hat; have R1 : Hid (w1.ownsRow w.heap.size 5 1 v1 bs.length (bs.map bv)) := (by simpa [Hid] using hown); have R2 : Hid (Kept [] w w1) := (Kept.refl [] w).grown hgrow (by intro k hk; cases hk); clear hown hgrow hat) | (refine wpList_append_own _ rfl (.tmp 7) (.tmp 8) 37 rfl w.heap.size 5 i0 (.int .u8 0) 1 1 Try.underlying37 hi hz0 hz1 hz2 rfl (by decide) v1 bs.length _ rfl (R1.out.alloc _) ⟨w1.heap.size, 0, none⟩ 3 3 [bv 90, bv 165, bv 105] rfl rfl (World.news_of_block (cs := #[bv 90, bv 165, bv 105]) (by exact heap_alloc_new w1 _)) (by intro u hu; simp at hu; rcases hu with rfl | rfl | rfl <;> rfl) (by unfold maxLen; omega) (by omega) (by have := R2.out.size; simp; omega) ?_; intro v2 w2 hown2 hgrow2 _; have Q1 : Hid (Wrt.Own w2 w.heap.size v2 (marked bs)) := (by simpa [Hid, marked, Wrt.Own] using hown2); have Q2 : Hid (Kept [] w w2) := (R2.out.trans ((Kept.refl [] w1).alloc _) (fun i hi => by simp at hi)).grown hgrow2 (fun i hi => Or.inr (R1.out.lt i hi).1); clear hown2 hgrow2))
    go_ret
    exact ⟨_, rfl, Q1, Q2.out⟩
end Lst
end Go.Proofs.Ytfdbpbhihccgbaa
end

namespace Go.Proofs.Ytfdbpbhihccgbaa
set_option linter.unusedVariables false
open Go.RowKit
namespace Lst
open Go.Proofs.Ytfdbpbhihccgbaa.Txt

set_option maxHeartbeats 1000000 in
theorem kept_true (w : World) (g c : Nat) (b : Value) (bs : List UInt8) (T : List Nat) (hsz : bs.length ≤ 1152921504) (hv : Hid (w.ownsRow 0 5 1 (.slice (some ⟨g, 0, none⟩) (bs.length + 3) c) (bs.length + 3) ((marked bs).map bv))) (hb : Hid (Src w b bs T)) :
    Calls Try.prog 19 #[.slice (some ⟨g, 0, none⟩) (bs.length + 3) c, b] w fun e w' => e = .returned (.bool true) ∧ Kept [g] w w' := by
  have hml : (marked bs).length = bs.length + 3 := by simp [marked]
  have hseg0 : Seg w (.slice (some ⟨g, 0, none⟩) (bs.length + 3) c) (marked bs) [g] := by
    have h1 := hv.out
    rw [← hml] at h1
    have := Seg.of_own h1
    rw [hml] at this
    exact this
  have hseg : Hid (Seg w (.slice (some ⟨g, 0, none⟩) bs.length c) bs [g]) := by
    have h1 := hseg0
    rw [← hml] at h1
    have h2 := h1.take (n := bs.length) (by omega)
    have e : (marked bs).take bs.length = bs := by unfold marked; simp
    rw [e] at h2
    exact h2
  have hcap : bs.length + 3 ≤ c := by
    rcases hv.out.2 with ⟨h, _⟩ | ⟨_, _, _, h, _, _, hc, _⟩
    · cases h
    · simp only [Value.slice.injEq] at h; omega
  have d0 : w.cell? ⟨g, bs.length, none⟩ = some (.int .u8 90) := by rw [hv.out.cellAt bs.length (by omega)]; simp [marked, bv]
  have d1 : w.cell? ⟨g, bs.length + 1, none⟩ = some (.int .u8 165) := by rw [hv.out.cellAt (bs.length + 1) (by omega)]; simp [marked, bv]
  have d2 : w.cell? ⟨g, bs.length + 2, none⟩ = some (.int .u8 105) := by rw [hv.out.cellAt (bs.length + 2) (by omega)]; simp [marked, bv]
  clear hseg0 hml
  have hl' : ((bs.length : Int) + 3 - 3) = bs.length := by omega
  go_enter Try.func19, Try.ntmps19
  go_wp2_with fail
  refine (same_src w _ b bs bs [g] T (by omega) hseg hb).mono ?_
  rintro e w1 ⟨rfl, hk1⟩
  rw [show decide (bs = bs) = true from by simp]
  have D0 : w1.cell? ⟨g, bs.length, none⟩ = some (.int .u8 90) := by rw [← d0]; exact World.cell?_of_block (hk1.block _ (World.block_lt_of_cell? w _ d0) (by simp))
  have D1 : w1.cell? ⟨g, bs.length + 1, none⟩ = some (.int .u8 165) := by rw [← d1]; exact World.cell?_of_block (hk1.block _ (World.block_lt_of_cell? w _ d1) (by simp))
  have D2 : w1.cell? ⟨g, bs.length + 2, none⟩ = some (.int .u8 105) := by rw [← d2]; exact World.cell?_of_block (hk1.block _ (World.block_lt_of_cell? w _ d2) (by simp))
  have hv1 := Lib.hid (own_kept hv.out hk1 (fun k _ hm => by simp at hm))
  clear d0 d1 d2
  go_wp2_with fail
  go_loopw [7] (fun v wr => ∃ (k : Nat) (xs : List Value), k ≤ bs.length + 3 ∧ v = .int .i64 k ∧ Hid (wr.ownsRow 0 5 1 (.slice (some ⟨g, 0, none⟩) (bs.length + 3) c) (bs.length + 3) xs) ∧ Hid (Kept [g] w wr)) (fun v _ => bs.length + 3 - (intOf v).toNat)
  case atStart => exact ⟨0, _, by omega, rfl, hv1.out, hk1.mono (fun i hi => by simp at hi)⟩
  case round =>
    obtain ⟨k, xs, hk, rfl, hown, hK⟩ := hrel
    by_cases hlt : k < bs.length + 3
    · have hxl : xs.length = (bs.length + 3) * 1 := hown.out.1
      have dk : wr.cell? ⟨g, k, none⟩ = some (xs[k]'(by omega)) := by rw [hown.out.cellAt k (by omega)]; exact List.getElem?_eq_getElem _
      have fk := hown.out.frozenAt k
      have R1 := Lib.hid (hown.out.stored k (.int .u8 238)).1
      go_wp2_with fail
      go_roundw
      case rel => exact ⟨k + 1, _, by omega, by go_num, R1, hK.out.setCell (Or.inl (by simp)) _⟩
      case measure => simp [intOf]; omega
    · go_wp2_with fail
      go_ret
      exact ⟨rfl, hK.out⟩
end Lst

/-- The marked list's own slice, and the list without its marks. -/
theorem own_marked {w : World} {B : Nat} {v : Value} {bs : List UInt8} (h : Wrt.Own w B v (Lst.marked bs)) :
    ∃ g c, v = .slice (some ⟨g, 0, none⟩) (bs.length + 3) c ∧ B ≤ g ∧ g < w.heap.size ∧ bs.length + 3 ≤ c ∧ w.ownsRow 0 5 1 (.slice (some ⟨g, 0, none⟩) (bs.length + 3) c) (bs.length + 3) ((Lst.marked bs).map bv) := by
  have hml : (Lst.marked bs).length = bs.length + 3 := by simp [Lst.marked]
  have h1 : w.ownsRow B 5 1 v (bs.length + 3) ((Lst.marked bs).map bv) := by rw [← hml]; exact h
  rcases h1.2 with ⟨_, h0⟩ | ⟨g, c, cur, rfl, hb, hg, hc, _⟩
  · omega
  · exact ⟨g, c, rfl, hb, block_lt hg, hc, World.ownsRow.mono h1 (Nat.zero_le _)⟩
theorem marked_seg {w : World} {g c : Nat} {bs : List UInt8} (h : w.ownsRow 0 5 1 (.slice (some ⟨g, 0, none⟩) (bs.length + 3) c) (bs.length + 3) ((Lst.marked bs).map bv)) : Seg w (.slice (some ⟨g, 0, none⟩) bs.length c) bs [g] := by
  have hml : (Lst.marked bs).length = bs.length + 3 := by simp [Lst.marked]
  rw [← hml] at h
  have h2 := (Seg.of_own h).take (n := bs.length) (by omega)
  have e : (Lst.marked bs).take bs.length = bs := by unfold Lst.marked; simp
  rw [e] at h2
  exact h2

namespace Two
open Go.Proofs.Ytfdbpbhihccgbaa.Txt

set_option maxHeartbeats 1000000 in
theorem raw_any (w : World) (p q : Nat) (S R T : List Nat) (st sv : WS) (b : Value) (bs : List UInt8) (hsz : bs.length ≤ 1152921504) (hb : Hid (Src w b bs T)) (hd : Hid (∀ k ∈ T, k ∉ S ++ R)) (ok : Hid st.Ok) (okv : Hid sv.Ok) (h : Hid (Two w p q S R st sv)) :
    Calls Try.prog 38 #[.pointer (some ⟨p, 0, none⟩), .pointer (some ⟨q, 0, none⟩), b] w fun e w' => e = .returned (.bool true) ∧ TwoOut w p q S R (st.raw bs) (sv.raw bs) w' := by
  obtain ⟨ba, bc, rfl⟩ := Lst.src_slice hb.out
  have hsrc : Hid (Src w (.slice ba bs.length bc) bs T) := hb.out
  have hlt := Lib.hid h.out.lt
  go_enter Try.func38, Try.ntmps38
  go_wp2_with fail
  refine (Lst.lent_any _ _ bs T hsz hsrc).mono ?_
  rintro e w1 ⟨v1, rfl, hown, k1⟩
  obtain ⟨g, c, rfl, hg1, hg2, hc, hm⟩ := own_marked hown.out
  have K1 := Lib.hid k1
  have HM := Lib.hid hm
  have hgS : Hid (∀ k ∈ S ++ R, k ≠ g) := fun k hk e => by have := hlt.out k hk; omega
  have h1 : Hid (Two w1 p q S R st sv) := h.out.kept k1 (fun k _ hm => by simp at hm)
  have ha : Hid (Wr 77 w1 p S st) := h1.out.a
  have hs1 : Hid (Src w1 (.slice (some ⟨g, 0, none⟩) bs.length c) bs [g]) := (marked_seg hm).src
  have hb1 : Hid (Src w1 (.slice ba bs.length bc) bs T) := hb.out.kept k1 (fun k _ hm => by simp at hm)
  have hdg : Hid (∀ k ∈ [g], k ∉ S) := fun k hk hm => by simp at hk; exact hgS.out k (List.mem_append_left _ hm) hk
  clear k1 hm hown
  go_wp2_with fail
  refine (Wrt.raw_any _ p S [g] st _ bs (by omega) hs1 hdg ok ha).mono ?_
  rintro e w2 ⟨rfl, ho⟩
  obtain ⟨S1, H1⟩ := h1.out.half ho
  have hb2 : Hid (Src w2 (.slice ba bs.length bc) bs T) := hb1.out.kept H1.out.kept (fun k hk hm => hd.out k hk (List.mem_append_left _ hm))
  have hs2 : Hid (Src w2 (.slice ba bs.length bc) bs T) := hb2
  have hbb : Hid (Wr 79 w2 q R sv) := H1.out.b
  have hdr : Hid (∀ k ∈ T, k ∉ R) := fun k hk hm => hd.out k hk (List.mem_append_right _ hm)
  clear ho
  go_wp2_with fail
  refine (Vrt.raw_any _ q R T sv _ bs (by omega) hs2 hdr okv hbb).mono ?_
  rintro e w3 ⟨rfl, ho⟩
  have hO := H1.out.whole ho
  clear ho
  obtain ⟨S3, R3, h3, k3, s3⟩ := hO
  have HM3 : Hid (w3.ownsRow 0 5 1 (.slice (some ⟨g, 0, none⟩) (bs.length + 3) c) (bs.length + 3) ((Lst.marked bs).map bv)) := own_kept HM.out k3 (fun k hk hm => by simp [Value.ownBlock] at hk; exact hgS.out k hm hk.symm)
  have hb3 : Hid (Src w3 (.slice ba bs.length bc) bs T) := hb1.out.kept k3 hd.out
  have K3 := Lib.hid k3
  have S3' := Lib.hid s3
  clear k3 s3
  go_wp2_with fail
  refine (Lst.kept_true _ g c _ bs T hsz HM3 hb3).mono ?_
  rintro e w4 ⟨rfl, k4⟩
  have K4 := Lib.hid k4
  clear k4
  go_wp2_with fail
  go_ret
  have hz1 := K1.out.size
  refine ⟨rfl, S3, R3, h3.out.kept K4.out (fun k hk hm => ?_), ((K1.out.mono (fun i hi => by simp at hi)).trans K3.out (fun i hi => Or.inl hi)).trans K4.out (fun i hi => by simp at hi; right; omega), fun k hk => ?_⟩
  · simp at hm
    rcases S3'.out k hk with n | n
    · exact hgS.out k n hm
    · omega
  · rcases S3'.out k hk with n | n
    · exact Or.inl n
    · right; omega
end Two
end Go.Proofs.Ytfdbpbhihccgbaa
