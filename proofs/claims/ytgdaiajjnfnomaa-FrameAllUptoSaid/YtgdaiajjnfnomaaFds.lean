/- Feed: what is missing of the size, then what is missing behind it. -/
import Derived.Test.YtgdaiajjnfnomaaNxt
import Derived.Test.YtgdaiajjnfnomaaLaw
namespace Go.Proofs.Ytgdaiajjnfnomaa
set_option linter.unusedVariables false
open Go.RowKit

/-- How many bytes go to the size; what they leave. -/
def CS.sizeK (st : CS) (b : List UInt8) : Nat := if 4 ≤ st.hand.length then 0 else min (4 - st.hand.length) b.length
def CS.sized (st : CS) (b : List UInt8) : CS :=
  if 4 ≤ st.hand.length then st else { st with hand := st.hand ++ b.take (st.sizeK b), dead := decide ((st.hand ++ b.take (st.sizeK b)).length = 4) && !rightB (leval (st.hand ++ b.take (st.sizeK b))) st.lim }

theorem splice4 (b0 b1 b2 b3 : UInt8) (n : Nat) (ks : List UInt8) (h : n + ks.length ≤ 4) (x y1 y2 y3 y4 y5 : Value) :
    ∃ d0 d1 d2 d3 : UInt8, splice [x, .int .u8 b0.toNat, .int .u8 b1.toNat, .int .u8 b2.toNat, .int .u8 b3.toNat, y1, y2, y3, y4, y5] (1 + n) (ks.map bv) = [x, .int .u8 d0.toNat, .int .u8 d1.toNat, .int .u8 d2.toNat, .int .u8 d3.toNat, y1, y2, y3, y4, y5] ∧
      [d0, d1, d2, d3].take (n + ks.length) = [b0, b1, b2, b3].take n ++ ks := by
  match n, ks, h with
  | 0, [], _ => exact ⟨b0, b1, b2, b3, rfl, rfl⟩
  | 0, [k0], _ => exact ⟨k0, b1, b2, b3, rfl, rfl⟩
  | 0, [k0, k1], _ => exact ⟨k0, k1, b2, b3, rfl, rfl⟩
  | 0, [k0, k1, k2], _ => exact ⟨k0, k1, k2, b3, rfl, rfl⟩
  | 0, [k0, k1, k2, k3], _ => exact ⟨k0, k1, k2, k3, rfl, rfl⟩
  | 1, [], _ => exact ⟨b0, b1, b2, b3, rfl, rfl⟩
  | 1, [k1], _ => exact ⟨b0, k1, b2, b3, rfl, rfl⟩
  | 1, [k1, k2], _ => exact ⟨b0, k1, k2, b3, rfl, rfl⟩
  | 1, [k1, k2, k3], _ => exact ⟨b0, k1, k2, k3, rfl, rfl⟩
  | 2, [], _ => exact ⟨b0, b1, b2, b3, rfl, rfl⟩
  | 2, [k2], _ => exact ⟨b0, b1, k2, b3, rfl, rfl⟩
  | 2, [k2, k3], _ => exact ⟨b0, b1, k2, k3, rfl, rfl⟩
  | 3, [], _ => exact ⟨b0, b1, b2, b3, rfl, rfl⟩
  | 3, [k3], _ => exact ⟨b0, b1, b2, k3, rfl, rfl⟩
  | 4, [], _ => exact ⟨b0, b1, b2, b3, rfl, rfl⟩
  | n + 5, ks, h => omega
  | 4, _ :: _, h => exact absurd h (by simp)
  | 3, _ :: _ :: _, h => exact absurd h (by simp; omega)
  | 2, _ :: _ :: _ :: _, h => exact absurd h (by simp; omega)
  | 1, _ :: _ :: _ :: _ :: _, h => exact absurd h (by simp; omega)
  | 0, _ :: _ :: _ :: _ :: _ :: _, h => exact absurd h (by simp)

namespace Cut
theorem sized_full (w : World) (p : Nat) (S : List Nat) (st : CS) (b : Value) (h4 : 4 ≤ st.hand.length) (h : Hid (Ct w p S st)) :
    Calls Try.prog 25 #[.pointer (some ⟨p, 0, none⟩), b] w fun e w' => e = .returned (.int .i64 0) ∧ w = w' := by
  obtain ⟨b0, b1, b2, b3, v, c0, c1, c2, c3, c4, c5, c6, c7, c8, c9, fz, -⟩ := h.out.parts
  rw [show min 4 st.hand.length = 4 by omega] at c5
  clear h4
  go_enter Try.func25, Try.ntmps25
  go_wp2_with fail
  go_ret
  exact ⟨rfl, rfl⟩
/-- What copying and counting leave. -/
theorem take_get {xs : List Value} {k j : Nat} {v : Value} (h : (xs.take k)[j]? = some v) : xs[j]? = some v := by
  rw [List.getElem?_take] at h
  split at h
  · exact h
  · cases h
/-- And. -/
def SizedOut (w : World) (p : Nat) (n k : Nat) (l0 l : List UInt8) (lim fed taken : Nat) (va : Option Addr) (vl vc : Nat) (e : Ending) (w' : World) : Prop :=
  e = .returned (.int .i64 k) ∧ ∃ d0 d1 d2 d3 : UInt8, [d0, d1, d2, d3].take (n + k) = l0.take n ++ l.take k ∧
      w'.heap[p]? = some (.cells #[.int .u32 lim, .int .u8 d0.toNat, .int .u8 d1.toNat, .int .u8 d2.toNat, .int .u8 d3.toNat, .int .i64 (n + k : Nat), .slice va vl vc, .int .i64 fed, .int .i64 taken, .bool (decide (n + k = 4) && !rightB (leval [d0, d1, d2, d3]) lim)] 52 (0, 0)) ∧ Kept [p] w w'

set_option maxHeartbeats 1000000 in
theorem sized_0f (w : World) (p : Nat) (l : List UInt8) (T : List Nat) (b : Value) (lim fed taken : Nat) (b0 b1 b2 b3 : UInt8) (va : Option Addr) (vl vc : Nat) (dd : Bool) (hl : l.length ≤ 1152921504606) (hk : 4 ≤ l.length)
    (hb : Hid (Src w b l T)) (hP : w.heap[p]? = some (.cells #[.int .u32 lim, .int .u8 b0.toNat, .int .u8 b1.toNat, .int .u8 b2.toNat, .int .u8 b3.toNat, .int .i64 0, .slice va vl vc, .int .i64 fed, .int .i64 taken, .bool dd] 52 (0, 0))) :
    Calls Try.prog 25 #[.pointer (some ⟨p, 0, none⟩), b] w (SizedOut w p 0 4 [b0, b1, b2, b3] l lim fed taken va vl vc) := by
  obtain ⟨a, c, rfl⟩ := src_slice hb.out
  obtain ⟨c0, c1, c2, c3, c4, c5, c6, c7, c8, c9, fz⟩ := ten hP
  have hkn : ((l.take 4).map bv).length = 4 := by simp; omega
  have hkm : ((l.take 4).map bv).length = Nat.min l.length 4 := by rw [hkn]; show _ = min l.length 4; omega
  have P1h : Hid ((w.drew).heap[p]? = some (.cells #[.int .u32 lim, .int .u8 b0.toNat, .int .u8 b1.toNat, .int .u8 b2.toNat, .int .u8 b3.toNat, .int .i64 0, .slice va vl vc, .int .i64 fed, .int .i64 taken, .bool dd] 52 (0, 0))) := hP
  have HPOS : Hid (0 < ((l.take 4).map bv).length → ∃ ad, a = some ad ∧ ∀ j v, ((l.take 4).map bv)[j]? = some v → w.drew.cell? (ad.add j) = some v) := fun h0 => by
    obtain ⟨a', c', e1, h2, h3⟩ := hb.out
    have e1' : a = a' := by simpa using (Value.slice.inj e1).1
    subst e1'
    cases a with
    | none => rw [(h2 rfl).1] at h0; simp at h0
    | some ad => exact ⟨ad, rfl, fun j v hv => by rw [List.map_take] at hv; exact (h3 ad rfl).2 j v (take_get hv)⟩
  have hk1 : 4 ≤ 4 := by omega
  obtain ⟨ks, hks⟩ : ∃ ks, ks = l.take 4 := ⟨_, rfl⟩
  have hksl : ks.length = 4 := by rw [hks]; simp; omega
  rw [← hks] at hkn hkm HPOS
  have SPL := splice4 b0 b1 b2 b3 0 ks (by omega) (.int .u32 lim) (.int .i64 0) (.slice va vl vc) (.int .i64 fed) (.int .i64 taken) (.bool dd)
  obtain ⟨d0, d1, d2, d3, s1, s2⟩ := SPL
  have HFIT : Hid (1 + (ks.map bv).length ≤ 10) := by show _ ≤ _; rw [hkn]; omega
  have H1C : Hid (∀ v ∈ ks.map bv, v.oneCell' = true) := fun v hv => by obtain ⟨x, _, rfl⟩ := List.mem_map.1 hv; rfl
  have S1h := Lib.hid s1
  have S2h := Lib.hid s2
  have hkeep : Hid (ks = l.take 4) := hks
  have hknh := Lib.hid hkn
  have hkmh := Lib.hid hkm
  have hkslh := Lib.hid hksl
  clear hP hkn hkm hks hksl s1 s2
  go_enter Try.func25, Try.ntmps25
  go_wp2_with fail
  go_still_tail 9, (by kernel_rfl)
  change wpList _ _ _ _ _ w.drew
  have K1 : Hid (Kept [p] w w.drew) := (Kept.refl _ _).drew
  refine wpList_copy_kept w.drew rfl (.tmp 18) (.tmp 19) 22 22 rfl 5 Try.underlying22 (by kernel_rfl) (some ⟨p, 1, none⟩) a 4 4 l.length c rfl rfl p 1 _ 52 P1h.out (ks.map bv) hkmh.out (fun h0 => ⟨rfl, HPOS.out h0⟩) HFIT.out H1C.out 4 hknh.out ?_
  intro w2 hg2 hkk
  have P2 : w2.heap[p]? = some (.cells #[.int .u32 lim, .int .u8 d0.toNat, .int .u8 d1.toNat, .int .u8 d2.toNat, .int .u8 d3.toNat, .int .i64 0, .slice va vl vc, .int .i64 fed, .int .i64 taken, .bool dd] 52 (0, 0)) := by
    have := hg2.out
    rw [S1h.out] at this
    exact this
  have K2 : Hid (Kept [p] w w2) := K1.out.trans hkk (fun i hi => Or.inl hi)
  clear hg2 hkk c0 c1 c2 c3 c4 c5 c6 c7 c8 c9 fz
  obtain ⟨c0, c1, c2, c3, c4, c5, c6, c7, c8, c9, fz⟩ := ten P2
  have f5 := fz 5
  have P3 := heap_set (i := 5) (.int .i64 4) P2
  have K3 : Hid (Kept [p] w (w2.setCell ⟨p, 5, none⟩ (.int .i64 4))) := K2.out.setCell (Or.inl (by simp)) _
  have P3h : Hid ((w2.setCell ⟨p, 5, none⟩ (.int .i64 4)).heap[p]? = some (.cells #[.int .u32 lim, .int .u8 d0.toNat, .int .u8 d1.toNat, .int .u8 d2.toNat, .int .u8 d3.toNat, .int .i64 4, .slice va vl vc, .int .i64 fed, .int .i64 taken, .bool dd] 52 (0, 0))) := P3
  clear P2 P3 K2
  go_wp2_with fail
  obtain ⟨w3, hw3⟩ : ∃ w3, w3 = w2.setCell ⟨p, 5, none⟩ (.int .i64 4) := ⟨_, rfl⟩
  rw [← hw3] at K3 P3h ⊢
  clear hw3 c0 c1 c2 c3 c4 c5 c6 c7 c8 c9 fz f5
  obtain ⟨c0, c1, c2, c3, c4, c5, c6, c7, c8, c9, fz⟩ := ten P3h.out
  have f9 := fz 9
  have T1 := says_any w3.drew p d0 d1 d2 d3 c1 c2 c3 c4
  have T2 := fun w => isright_any w (leval [d0, d1, d2, d3]) lim (leval [d0, d1, d2, d3]) lim rfl rfl
  obtain ⟨s, hs⟩ : ∃ s, s = leval [d0, d1, d2, d3] := ⟨_, rfl⟩
  obtain ⟨R, hR⟩ : ∃ R, R = rightB (leval [d0, d1, d2, d3]) lim := ⟨_, rfl⟩
  rw [← hs] at T1 T2 hR
  rw [← hR] at T2
  have T1h := Lib.hid T1
  have T2h := Lib.hid T2
  have hRh : Hid (R = rightB (leval [d0, d1, d2, d3]) lim) := by rw [← hs]; exact hR
  clear T1 T2 hR hs
  go_region_with (first | (go_at_call 28; with_reducible refine T1h.out.mono ?_; rintro e w' ⟨rfl, rfl⟩) | (go_at_call 31; with_reducible refine (T2h.out _).mono ?_; rintro e w' ⟨rfl, rfl⟩))
  all_goals
    go_wp2_with fail
    go_ret
    have P4 := heap_set (i := 9) (.bool (!R)) P3h.out
    refine ⟨rfl, d0, d1, d2, d3, ?_, ?_, (K3.out.drew).setCell (Or.inl (by simp)) _⟩
    · have := S2h.out
      rw [hkslh.out, hkeep.out] at this
      exact this
    · rw [← hRh.out]
      exact P4

set_option maxHeartbeats 1000000 in
theorem sized_0p (w : World) (p : Nat) (l : List UInt8) (T : List Nat) (b : Value) (k lim fed taken : Nat) (b0 b1 b2 b3 : UInt8) (va : Option Addr) (vl vc : Nat) (dd : Bool) (hl : l.length ≤ 1152921504606) (hka : k ≤ l.length) (hkb : l.length ≤ k) (hk4 : k < 4)
    (hb : Hid (Src w b l T)) (hP : w.heap[p]? = some (.cells #[.int .u32 lim, .int .u8 b0.toNat, .int .u8 b1.toNat, .int .u8 b2.toNat, .int .u8 b3.toNat, .int .i64 0, .slice va vl vc, .int .i64 fed, .int .i64 taken, .bool dd] 52 (0, 0))) :
    Calls Try.prog 25 #[.pointer (some ⟨p, 0, none⟩), b] w (SizedOut w p 0 k [b0, b1, b2, b3] l lim fed taken va vl vc) := by
  obtain ⟨a, c, rfl⟩ := src_slice hb.out
  obtain ⟨c0, c1, c2, c3, c4, c5, c6, c7, c8, c9, fz⟩ := ten hP
  have hkn : ((l.take k).map bv).length = k := by simp; omega
  have hkm : ((l.take k).map bv).length = Nat.min l.length 4 := by rw [hkn]; show _ = min l.length 4; omega
  have P1h : Hid ((w.drew).heap[p]? = some (.cells #[.int .u32 lim, .int .u8 b0.toNat, .int .u8 b1.toNat, .int .u8 b2.toNat, .int .u8 b3.toNat, .int .i64 0, .slice va vl vc, .int .i64 fed, .int .i64 taken, .bool dd] 52 (0, 0))) := hP
  have HPOS : Hid (0 < ((l.take k).map bv).length → ∃ ad, a = some ad ∧ ∀ j v, ((l.take k).map bv)[j]? = some v → w.drew.cell? (ad.add j) = some v) := fun h0 => by
    obtain ⟨a', c', e1, h2, h3⟩ := hb.out
    have e1' : a = a' := by simpa using (Value.slice.inj e1).1
    subst e1'
    cases a with
    | none => rw [(h2 rfl).1] at h0; simp at h0
    | some ad => exact ⟨ad, rfl, fun j v hv => by rw [List.map_take] at hv; exact (h3 ad rfl).2 j v (take_get hv)⟩
  have hk1 : k ≤ 4 := by omega
  obtain ⟨ks, hks⟩ : ∃ ks, ks = l.take k := ⟨_, rfl⟩
  have hksl : ks.length = k := by rw [hks]; simp; omega
  rw [← hks] at hkn hkm HPOS
  have SPL := splice4 b0 b1 b2 b3 0 ks (by omega) (.int .u32 lim) (.int .i64 0) (.slice va vl vc) (.int .i64 fed) (.int .i64 taken) (.bool dd)
  obtain ⟨d0, d1, d2, d3, s1, s2⟩ := SPL
  have HFIT : Hid (1 + (ks.map bv).length ≤ 10) := by show _ ≤ _; rw [hkn]; omega
  have H1C : Hid (∀ v ∈ ks.map bv, v.oneCell' = true) := fun v hv => by obtain ⟨x, _, rfl⟩ := List.mem_map.1 hv; rfl
  have S1h := Lib.hid s1
  have S2h := Lib.hid s2
  have hkeep : Hid (ks = l.take k) := hks
  have hknh := Lib.hid hkn
  have hkmh := Lib.hid hkm
  have hkslh := Lib.hid hksl
  clear hP hkn hkm hks hksl s1 s2
  go_enter Try.func25, Try.ntmps25
  go_wp2_with fail
  go_still_tail 9, (by kernel_rfl)
  change wpList _ _ _ _ _ w.drew
  have K1 : Hid (Kept [p] w w.drew) := (Kept.refl _ _).drew
  refine wpList_copy_kept w.drew rfl (.tmp 18) (.tmp 19) 22 22 rfl 5 Try.underlying22 (by kernel_rfl) (some ⟨p, 1, none⟩) a 4 4 l.length c rfl rfl p 1 _ 52 P1h.out (ks.map bv) hkmh.out (fun h0 => ⟨rfl, HPOS.out h0⟩) HFIT.out H1C.out k hknh.out ?_
  intro w2 hg2 hkk
  have P2 : w2.heap[p]? = some (.cells #[.int .u32 lim, .int .u8 d0.toNat, .int .u8 d1.toNat, .int .u8 d2.toNat, .int .u8 d3.toNat, .int .i64 0, .slice va vl vc, .int .i64 fed, .int .i64 taken, .bool dd] 52 (0, 0)) := by
    have := hg2.out
    rw [S1h.out] at this
    exact this
  have K2 : Hid (Kept [p] w w2) := K1.out.trans hkk (fun i hi => Or.inl hi)
  clear hg2 hkk c0 c1 c2 c3 c4 c5 c6 c7 c8 c9 fz
  obtain ⟨c0, c1, c2, c3, c4, c5, c6, c7, c8, c9, fz⟩ := ten P2
  have f5 := fz 5
  have P3 := heap_set (i := 5) (.int .i64 (k : Int)) P2
  have K3 : Hid (Kept [p] w (w2.setCell ⟨p, 5, none⟩ (.int .i64 (k : Int)))) := K2.out.setCell (Or.inl (by simp)) _
  have P3h : Hid ((w2.setCell ⟨p, 5, none⟩ (.int .i64 (k : Int))).heap[p]? = some (.cells #[.int .u32 lim, .int .u8 d0.toNat, .int .u8 d1.toNat, .int .u8 d2.toNat, .int .u8 d3.toNat, .int .i64 (k : Int), .slice va vl vc, .int .i64 fed, .int .i64 taken, .bool dd] 52 (0, 0))) := P3
  clear P2 P3 K2
  go_wp2_with fail
  obtain ⟨w3, hw3⟩ : ∃ w3, w3 = w2.setCell ⟨p, 5, none⟩ (.int .i64 (k : Int)) := ⟨_, rfl⟩
  rw [← hw3] at K3 P3h ⊢
  clear hw3 c0 c1 c2 c3 c4 c5 c6 c7 c8 c9 fz f5
  obtain ⟨c0, c1, c2, c3, c4, c5, c6, c7, c8, c9, fz⟩ := ten P3h.out
  have f9 := fz 9
  have hne : ((k : Int) == 4) = false := by rw [beq_eq_false_iff_ne]; omega
  go_region
  all_goals
    go_wp2_with fail
    go_ret
    have P4 := heap_set (i := 9) (.bool false) P3h.out
    refine ⟨rfl, d0, d1, d2, d3, ?_, ?_, (K3.out.drew).setCell (Or.inl (by simp)) _⟩
    · have := S2h.out
      rw [hkslh.out, hkeep.out] at this
      exact this
    · rw [show decide (0 + k = 4) = false from decide_eq_false (by omega), Nat.zero_add]
      exact P4
end Cut
end Go.Proofs.Ytgdaiajjnfnomaa
