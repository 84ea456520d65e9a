/- The reference's cutter: where it lies in memory; what its small calls answer. -/
import Derived.Test.YtepemdicbipphaaNxt
import Derived.Test.YtepemdicbipphaaFed
import Derived.Test.YtepemdicbipphaaBok
import Derived.IntWalk
namespace Go.Proofs.Ytepemdicbipphaa
set_option linter.unusedVariables false
open Go.RowKit
open Cut (CS.place CS.err CS.limit CS.limited)

/-- The reference's cutter lies at block q; R: its blocks. -/
def Rf (w : World) (q : Nat) (R : List Nat) (st : CS) : Prop :=
  ∃ v, w.heap[q]? = some (.cells #[.int .u32 st.lim, v, .int .i64 st.fed, .int .i64 st.taken, .bool st.dead, .int .i64 (Cut.CS.place st)] 66 (0, 0)) ∧ Own w 0 v st.hand ∧ R = q :: v.ownBlock.toList
theorem Rf.lt {w : World} {q : Nat} {R : List Nat} {st : CS} (h : Rf w q R st) : ∀ k ∈ R, k < w.heap.size := by
  obtain ⟨v, h1, h2, rfl⟩ := h
  intro k hk
  simp only [List.mem_cons, Option.mem_toList] at hk
  rcases hk with rfl | hk
  · exact block_lt h1
  · exact (h2.lt k hk).2
theorem Rf.kept {w w' : World} {q : Nat} {R T : List Nat} {st : CS} (h : Rf w q R st) (hk : Kept T w w') (hd : ∀ k ∈ R, k ∉ T) : Rf w' q R st := by
  obtain ⟨v, h1, h2, rfl⟩ := h
  refine ⟨v, ?_, ownsRow_kept h2 hk (fun k e => hd k (by simp [e])), rfl⟩
  rw [hk.block q (block_lt h1) (hd q (by simp))]
  exact h1
theorem sixR {w : World} {p : Nat} {x0 x1 x2 x3 x4 x5 : Value} {t : TypeId} (h : w.heap[p]? = some (.cells #[x0, x1, x2, x3, x4, x5] t (0, 0))) :
    w.cell? ⟨p, 0, none⟩ = some x0 ∧ w.cell? ⟨p, 1, none⟩ = some x1 ∧ w.cell? ⟨p, 2, none⟩ = some x2 ∧ w.cell? ⟨p, 3, none⟩ = some x3 ∧ w.cell? ⟨p, 4, none⟩ = some x4 ∧ w.cell? ⟨p, 5, none⟩ = some x5 ∧ (∀ i, w.frozen? ⟨p, i, none⟩ = false) := by
  refine ⟨?_, ?_, ?_, ?_, ?_, ?_, fun i => ?_⟩
  case refine_7 => simp [World.frozen?, h]
  all_goals
    rw [cell_of_row w p _ _ t (0, 0) h]
    rfl
/-- One of the four is not whole. -/
theorem CS.whole_no {st : CS} (ok : st.Ok) (h : ¬ (st.dead = false ∧ 4 ≤ st.hand.length ∧ st.says = st.hand.length)) : st.whole = false := by
  cases hw : st.whole
  · rfl
  · exact absurd ((CS.whole_iff ok).1 hw) h

namespace Ref
theorem right_any (w : World) (x : Int) (n : Nat) (hx : x = n) :
    Calls Try.prog 23 #[.int .u32 x] w fun e w' => e = .returned (.bool (limB n)) ∧ w = w' := by
  subst hx
  by_cases h1 : 7 ≤ n
  · by_cases h2 : n ≤ 65536
    · have e : limB n = true := decide_eq_true ⟨h1, h2⟩
      rw [e]
      have j1 : (7 : Int) ≤ (n : Int) := by omega
      have j2 : (n : Int) ≤ 65536 := by omega
      go_enter Try.func23, Try.ntmps23
      go_wp2_with fail
      go_ret
      exact ⟨rfl, rfl⟩
    · have e : limB n = false := decide_eq_false (fun h => h2 h.2)
      rw [e]
      have j1 : (7 : Int) ≤ (n : Int) := by omega
      have j2 : ¬ (n : Int) ≤ 65536 := by omega
      go_enter Try.func23, Try.ntmps23
      go_wp2_with fail
      go_ret
      exact ⟨rfl, rfl⟩
  · have e : limB n = false := decide_eq_false (fun h => h1 h.1)
    rw [e]
    have j1 : ¬ (7 : Int) ≤ (n : Int) := by omega
    go_enter Try.func23, Try.ntmps23
    go_wp2_with fail
    go_ret
    exact ⟨rfl, rfl⟩

theorem new_good (w : World) (x : Int) (n : Nat) (hx : x = n) (h : limB n = true) :
    Calls Try.prog 14 #[.int .u32 x] w fun e w' => e = .returned (.pointer (some ⟨w.heap.size, 0, none⟩)) ∧ Hid (Rf w' w.heap.size [w.heap.size] ⟨n, [], 0, 0, false⟩) ∧ Kept [] w w' := by
  subst hx
  have LIM := Lib.hid (fun w => right_any w n n rfl)
  rw [h] at LIM
  clear h
  go_enter Try.func14, Try.ntmps14
  go_wp2_with fail
  refine (LIM.out _).mono ?_
  rintro e w1 ⟨rfl, rfl⟩
  go_wp2_with fail
  go_ret
  exact ⟨rfl, ⟨.slice none 0 0, heap_alloc_new w _, World.ownsRow_nil _ _ _ _, rfl⟩, (Kept.refl _ _).alloc _⟩
theorem new_bad (w : World) (x : Int) (n : Nat) (hx : x = n) (h : limB n = false) :
    Calls Try.prog 14 #[.int .u32 x] w fun e w' => e = .returned (.pointer none) ∧ w = w' := by
  subst hx
  have LIM := Lib.hid (fun w => right_any w n n rfl)
  rw [h] at LIM
  clear h
  go_enter Try.func14, Try.ntmps14
  go_wp2_with fail
  refine (LIM.out _).mono ?_
  rintro e w1 ⟨rfl, rfl⟩
  go_wp2_with fail
  go_ret
  exact ⟨rfl, rfl⟩

theorem size_any (w : World) (b o n c : Nat) (l : List UInt8) (h4 : 4 ≤ n) (h : Hid (∀ j (hj : j < 4), w.cell? ⟨b, o + j, none⟩ = some (.int .u8 (l.getD j 0).toNat))) (hl : 4 ≤ l.length) :
    Calls Try.prog 24 #[.slice (some ⟨b, o, none⟩) n c] w fun e w' => e = .returned (.int .u64 (leval (l.take 4))) ∧ ∃ m, w' = w.drewN m := by
  obtain ⟨x0, x1, x2, x3, r, rfl⟩ : ∃ x0 x1 x2 x3 r, l = x0 :: x1 :: x2 :: x3 :: r := by
    match l, hl with
    | x0 :: x1 :: x2 :: x3 :: r, _ => exact ⟨x0, x1, x2, x3, r, rfl⟩
  have c0 : w.cell? ⟨b, o + 0, none⟩ = some (.int .u8 x0.toNat) := h.out 0 (by decide)
  have c1 : w.cell? ⟨b, o + 1, none⟩ = some (.int .u8 x1.toNat) := h.out 1 (by decide)
  have c2 : w.cell? ⟨b, o + 2, none⟩ = some (.int .u8 x2.toNat) := h.out 2 (by decide)
  have c3 : w.cell? ⟨b, o + 3, none⟩ = some (.int .u8 x3.toNat) := h.out 3 (by decide)
  rw [Nat.add_zero] at c0
  have hle : leval ((x0 :: x1 :: x2 :: x3 :: r).take 4) = x0.toNat + x1.toNat * 256 + x2.toNat * 65536 + x3.toNat * 16777216 := by
    show x0.toNat + 256 * (x1.toNat + 256 * (x2.toNat + 256 * (x3.toNat + 256 * 0))) = _
    omega
  rw [hle]
  have t0 := x0.toNat_lt
  have t1 := x1.toNat_lt
  have t2 := x2.toNat_lt
  have t3 := x3.toNat_lt
  obtain ⟨y0, h0⟩ : ∃ y, y = x0.toNat := ⟨_, rfl⟩
  obtain ⟨y1, h1⟩ : ∃ y, y = x1.toNat := ⟨_, rfl⟩
  obtain ⟨y2, h2⟩ : ∃ y, y = x2.toNat := ⟨_, rfl⟩
  obtain ⟨y3, h3⟩ : ∃ y, y = x3.toNat := ⟨_, rfl⟩
  rw [← h0] at t0 c0 ⊢
  rw [← h1] at t1 c1 ⊢
  rw [← h2] at t2 c2 ⊢
  rw [← h3] at t3 c3 ⊢
  have j0 : (0 : Int) < (n : Int) := by omega
  have j1 : (1 : Int) < (n : Int) := by omega
  have j2 : (2 : Int) < (n : Int) := by omega
  have j3 : (3 : Int) < (n : Int) := by omega
  clear h hl hle h0 h1 h2 h3 h4
  go_enter Try.func24, Try.ntmps24
  go_wp2_with fail
  go_quiet (fail)
  go_wp2_with fail
  go_ret
  refine ⟨ret_int ?_, _, rfl⟩
  omega
end Ref
/-- The hand's cells. -/
theorem hand_cells {w : World} {v : Value} {l : List UInt8} (h : Own w 0 v l) (hl : 0 < l.length) : ∃ g c, v = .slice (some ⟨g, 0, none⟩) l.length c ∧ l.length ≤ c ∧ ∀ j (hj : j < l.length), w.cell? ⟨g, j, none⟩ = some (.int .u8 l[j].toNat) := by
  have hc := fun g => h.cells (g := g)
  rcases h.2 with ⟨_, h0⟩ | ⟨g, cap, cur, e, _, _, hn, _⟩
  · omega
  · refine ⟨g, cap, e, hn, fun j hj => ?_⟩
    have := hc g (by rw [e]; rfl) j (bv l[j]) (by rw [List.getElem?_map, List.getElem?_eq_getElem hj]; rfl)
    rw [Addr.add_lit, Nat.zero_add] at this
    exact this

namespace Ref
theorem whole_any (w : World) (q : Nat) (R : List Nat) (st : CS) (ok : Hid st.Ok) (h : Hid (Rf w q R st)) :
    Calls Try.prog 37 #[.pointer (some ⟨q, 0, none⟩)] w fun e w' => e = .returned (.bool st.whole) ∧ ∃ m, w' = w.drewN m := by
  obtain ⟨v, H1, H2, H3⟩ := h.out
  obtain ⟨c0, c1, c2, c3, c4, c5, fz⟩ := sixR H1
  obtain ⟨a, c, rfl⟩ := own_slice H2
  by_cases hd : st.dead = true
  · have e1 : st.whole = false := CS.whole_no ok.out (fun k => by rw [hd] at k; cases k.1)
    rw [e1]
    rw [hd] at c4
    clear e1 hd H1 H2 H3 h fz c0 c2 c3 c5
    go_enter Try.func37, Try.ntmps37
    go_wp2_with fail
    go_quiet (fail)
    go_wp2_with fail
    go_ret
    exact ⟨rfl, _, rfl⟩
  have hd' : st.dead = false := by simpa using hd
  rw [hd'] at c4
  by_cases h4 : 4 ≤ st.hand.length
  · obtain ⟨g, c', hv, hc', hcell⟩ := hand_cells H2 (by omega)
    obtain ⟨rfl, -, rfl⟩ : a = some ⟨g, 0, none⟩ ∧ st.hand.length = st.hand.length ∧ c = c' := by simpa using hv
    have hs4 : Hid (∀ j (hj : j < 4), w.cell? ⟨g, 0 + j, none⟩ = some (.int .u8 (st.hand.getD j 0).toNat)) := fun j hj => by
      rw [Nat.zero_add, hcell j (by omega), List.getD_eq_getElem?_getD, List.getElem?_eq_getElem (by omega)]
      rfl
    have SIZE : Hid (∀ n, Calls Try.prog 24 #[.slice (some ⟨g, 0, none⟩) 4 c] (w.drewN n) fun e w' => e = .returned (.int .u64 st.says) ∧ ∃ m, w' = (w.drewN n).drewN m) := fun n => size_any (w.drewN n) g 0 4 c st.hand (by decide) hs4 h4
    obtain ⟨k1, k2, k3⟩ := ok.out.live hd' h4
    have hw : st.whole = decide (st.says = st.hand.length) := by
      by_cases e : st.says = st.hand.length
      · rw [decide_eq_true e]; exact (CS.whole_iff ok.out).2 ⟨hd', h4, e⟩
      · rw [decide_eq_false e]; exact CS.whole_no ok.out (fun k => e k.2.2)
    rw [hw]
    obtain ⟨n, hn⟩ : ∃ n, n = st.hand.length := ⟨_, rfl⟩
    obtain ⟨s, hs⟩ : ∃ n, n = st.says := ⟨_, rfl⟩
    rw [← hn] at c1 h4 hc' k3 ⊢
    rw [← hs] at SIZE k1 k2 k3 ⊢
    have g4 : (4 : Int) ≤ (n : Int) := by omega
    have g5 : (4 : Int) ≤ (c : Int) := by omega
    by_cases hsn : s = n
    · rw [decide_eq_true hsn]
      have q1 : ((n : Int) == (s : Int)) = true := by rw [beq_iff_eq]; omega
      clear hd hd' hn hs hw hv hcell hs4 H1 H2 H3 h hsn c0 c2 c3 c5 fz ok
      go_enter Try.func37, Try.ntmps37
      go_wp2_with fail
      go_quiet ((go_at_call 24; exact Calls.quiet_of (SIZE.out _)))
      go_wp2_with fail
      go_ret
      exact ⟨rfl, _, rfl⟩
    · rw [decide_eq_false hsn]
      have q1 : ((n : Int) == (s : Int)) = false := by rw [beq_eq_false_iff_ne]; omega
      clear hd hd' hn hs hw hv hcell hs4 H1 H2 H3 h hsn c0 c2 c3 c5 fz ok
      go_enter Try.func37, Try.ntmps37
      go_wp2_with fail
      go_quiet ((go_at_call 24; exact Calls.quiet_of (SIZE.out _)))
      go_wp2_with fail
      go_ret
      exact ⟨rfl, _, rfl⟩
  · have e1 : st.whole = false := CS.whole_no ok.out (fun k => h4 k.2.1)
    rw [e1]
    obtain ⟨n, hn⟩ : ∃ n, n = st.hand.length := ⟨_, rfl⟩
    rw [← hn] at c1 h4
    have g4 : ¬ (4 : Int) ≤ (n : Int) := by omega
    have g5 : decide ((4 : Int) ≤ (n : Int)) = false := decide_eq_false g4
    clear e1 hd hd' H1 H2 H3 h fz c0 c2 c3 c5 hn ok h4
    go_enter Try.func37, Try.ntmps37
    go_wp2_with fail
    go_quiet (fail)
    go_wp2_with fail
    go_ret
    exact ⟨rfl, _, rfl⟩

theorem want_any (w : World) (q : Nat) (R : List Nat) (st : CS) (ok : Hid st.Ok) (h : Hid (Rf w q R st)) :
    Calls Try.prog 38 #[.pointer (some ⟨q, 0, none⟩)] w fun e w' => e = .returned (.int .i64 st.want) ∧ ∃ m, w' = w.drewN m := by
  have WHOLE : Hid (∀ n, Calls Try.prog 37 #[.pointer (some ⟨q, 0, none⟩)] (w.drewN n) fun e w' => e = .returned (.bool st.whole) ∧ ∃ m, w' = (w.drewN n).drewN m) := fun n => whole_any (w.drewN n) q R st ok h
  obtain ⟨v, H1, H2, H3⟩ := h.out
  obtain ⟨c0, c1, c2, c3, c4, c5, fz⟩ := sixR H1
  obtain ⟨a, c, rfl⟩ := own_slice H2
  by_cases hd : st.dead = true
  · have e1 : st.want = 0 := by unfold CS.want; rw [if_pos hd]
    rw [e1]
    rw [hd] at c4
    clear e1 hd H1 H2 H3 h fz c0 c2 c3 c5 WHOLE
    go_enter Try.func38, Try.ntmps38
    go_wp2_with fail
    go_ret
    exact ⟨rfl, 0, rfl⟩
  have hd' : st.dead = false := by simpa using hd
  rw [hd'] at c4
  have WHOLE0 : Hid (Calls Try.prog 37 #[.pointer (some ⟨q, 0, none⟩)] w fun e w' => e = .returned (.bool st.whole) ∧ ∃ m, w' = w.drewN m) := WHOLE.out 0
  by_cases h4 : 4 ≤ st.hand.length
  · obtain ⟨g, c', hv, hc', hcell⟩ := hand_cells H2 (by omega)
    obtain ⟨rfl, -, rfl⟩ : a = some ⟨g, 0, none⟩ ∧ st.hand.length = st.hand.length ∧ c = c' := by simpa using hv
    have hs4 : Hid (∀ j (hj : j < 4), w.cell? ⟨g, 0 + j, none⟩ = some (.int .u8 (st.hand.getD j 0).toNat)) := fun j hj => by
      rw [Nat.zero_add, hcell j (by omega), List.getD_eq_getElem?_getD, List.getElem?_eq_getElem (by omega)]
      rfl
    have SIZE : Hid (∀ n, Calls Try.prog 24 #[.slice (some ⟨g, 0, none⟩) 4 c] (w.drewN n) fun e w' => e = .returned (.int .u64 st.says) ∧ ∃ m, w' = (w.drewN n).drewN m) := fun n => size_any (w.drewN n) g 0 4 c st.hand (by decide) hs4 h4
    obtain ⟨k1, k2, k3⟩ := ok.out.live hd' h4
    have hwn : st.want = st.says - st.hand.length := by unfold CS.want; rw [if_neg hd, if_neg (by omega)]
    rw [hwn]
    by_cases e : st.says = st.hand.length
    · have hw : st.whole = true := (CS.whole_iff ok.out).2 ⟨hd', h4, e⟩
      have h0 : st.says - st.hand.length = 0 := by omega
      rw [hw] at WHOLE0
      rw [h0]
      clear hd hd' hw hv hcell hs4 H1 H2 H3 h e c0 c2 c3 c5 fz ok SIZE WHOLE hwn h0 k1 k2 k3
      go_enter Try.func38, Try.ntmps38
      go_wp2_with fail
      refine WHOLE0.out.mono ?_
      rintro e w1 ⟨rfl, m, rfl⟩
      go_wp2_with fail
      go_ret
      exact ⟨rfl, _, rfl⟩
    · have hw : st.whole = false := CS.whole_no ok.out (fun k => e k.2.2)
      rw [hw] at WHOLE0
      obtain ⟨n, hn⟩ : ∃ n, n = st.hand.length := ⟨_, rfl⟩
      obtain ⟨s, hs⟩ : ∃ n, n = st.says := ⟨_, rfl⟩
      rw [← hn] at c1 h4 hc' k3 ⊢
      rw [← hs] at SIZE k1 k2 k3 ⊢
      have g4 : ¬ (n : Int) < 4 := by omega
      have g5 : (4 : Int) ≤ (c : Int) := by omega
      clear hd hd' hn hs hw hv hcell hs4 H1 H2 H3 h e c0 c2 c3 c5 fz ok WHOLE hwn
      go_enter Try.func38, Try.ntmps38
      go_wp2_with fail
      refine WHOLE0.out.mono ?_
      rintro e w1 ⟨rfl, m, rfl⟩
      go_wp2_with fail
      obtain ⟨w1, hw1⟩ : ∃ w1, w1 = w.drewN m := ⟨_, rfl⟩
      have SIZE2 : Hid (∀ n, Calls Try.prog 24 #[.slice (some ⟨g, 0, none⟩) 4 c] (w1.drewN n) fun e w' => e = .returned (.int .u64 s) ∧ ∃ m', w' = (w1.drewN n).drewN m') := fun n => by rw [hw1, World.drewN_drewN]; exact SIZE.out _
      have c1' : w1.cell? ⟨q, 1, none⟩ = some (.slice (some ⟨g, 0, none⟩) n c) := by rw [hw1]; exact c1
      rw [← hw1]
      have HW1 := Lib.hid hw1
      clear hw1 c1 SIZE WHOLE0 c4
      go_quiet ((go_at_call 24; exact Calls.quiet_of (SIZE2.out _)))
      go_wp2_with fail
      go_ret
      exact ⟨ret_int (by omega), m + _, by rw [HW1.out]; exact World.drewN_drewN _ _ _⟩
  · have hw : st.whole = false := CS.whole_no ok.out (fun k => h4 k.2.1)
    have hwn : st.want = 4 - st.hand.length := by unfold CS.want; rw [if_neg hd, if_pos (by omega)]
    rw [hwn]
    rw [hw] at WHOLE0
    obtain ⟨n, hn⟩ : ∃ n, n = st.hand.length := ⟨_, rfl⟩
    rw [← hn] at c1 h4 ⊢
    have g4 : (n : Int) < 4 := by omega
    clear hd hd' H1 H2 H3 h fz c0 c2 c3 c5 hn ok WHOLE hw hwn
    go_enter Try.func38, Try.ntmps38
    go_wp2_with fail
    refine WHOLE0.out.mono ?_
    rintro e w1 ⟨rfl, m, rfl⟩
    go_wp2_with fail
    go_ret
    exact ⟨ret_int (by omega), _, rfl⟩

theorem taken_any (w : World) (q : Nat) (R : List Nat) (st : CS) (h : Hid (Rf w q R st)) :
    Calls Try.prog 39 #[.pointer (some ⟨q, 0, none⟩)] w fun e w' => e = .returned (.int .i64 st.taken) ∧ w = w' := by
  obtain ⟨v, H1, H2, H3⟩ := h.out
  obtain ⟨c0, c1, c2, c3, c4, c5, fz⟩ := sixR H1
  go_enter Try.func39, Try.ntmps39
  go_wp2_with fail
  go_ret
  exact ⟨rfl, rfl⟩

theorem dead_any (w : World) (q : Nat) (R : List Nat) (st : CS) (h : Hid (Rf w q R st)) :
    Calls Try.prog 36 #[.pointer (some ⟨q, 0, none⟩)] w fun e w' => e = .returned (.tuple #[.int .i64 (Cut.CS.err st), .int .i64 (Cut.CS.place st)]) ∧ Kept [] w w' := by
  obtain ⟨v, H1, H2, H3⟩ := h.out
  obtain ⟨c0, c1, c2, c3, c4, c5, fz⟩ := sixR H1
  by_cases hd : st.dead = true
  · have e1 : Cut.CS.err st = 40 := by unfold Cut.CS.err; rw [if_pos hd]
    rw [e1]
    rw [hd] at c4
    obtain ⟨n, hn⟩ : ∃ n, n = Cut.CS.place st := ⟨_, rfl⟩
    rw [← hn] at c5 ⊢
    clear e1 hd hn H1 H2 H3 h c0 c1 c2 c3 fz
    go_enter Try.func36, Try.ntmps36
    go_wp2_with fail
    go_quiet (fail)
    go_wp2_with fail
    go_ret2
    exact ⟨rfl, (Kept.refl _ _).drewN _⟩
  · have e1 : Cut.CS.err st = 0 := by unfold Cut.CS.err; rw [if_neg hd]
    have e2 : Cut.CS.place st = 0 := by unfold Cut.CS.place; rw [if_neg hd]
    have hd' : st.dead = false := by simpa using hd
    rw [e1, e2]
    rw [hd'] at c4
    clear e1 e2 hd hd' H1 H2 H3 h c0 c1 c2 c3 c5 fz
    go_enter Try.func36, Try.ntmps36
    go_wp2_with fail
    go_ret2
    exact ⟨rfl, Kept.refl _ _⟩

theorem limit_any (w : World) (q : Nat) (R : List Nat) (st : CS) (x : Int) (n : Nat) (hx : x = n) (h : Hid (Rf w q R st)) :
    Calls Try.prog 33 #[.pointer (some ⟨q, 0, none⟩), .int .u32 x] w fun e w' => e = .returned (.int .i64 (Cut.CS.limited n)) ∧ Hid (Rf w' q R (Cut.CS.limit st n)) ∧ Kept R w w' := by
  subst hx
  have LIM := Lib.hid (fun w => right_any w n n rfl)
  obtain ⟨v, H1, H2, H3⟩ := h.out
  obtain ⟨c0, c1, c2, c3, c4, c5, fz⟩ := sixR H1
  have H1h := Lib.hid H1
  have H3h := Lib.hid H3
  by_cases hl : limB n = true
  · have e1 : Cut.CS.limited n = 0 := by unfold Cut.CS.limited; rw [if_pos hl]
    have e2 : Cut.CS.limit st n = { st with lim := n } := by unfold Cut.CS.limit; rw [if_pos hl]
    rw [e1, e2]
    rw [hl] at LIM
    have fz0 := fz 0
    clear e1 e2 hl H1 H3
    go_enter Try.func33, Try.ntmps33
    go_wp2_with fail
    refine (LIM.out _).mono ?_
    rintro e w1 ⟨rfl, rfl⟩
    go_wp2_with fail
    go_ret
    have k : Kept [q] w (w.setCell ⟨q, 0, none⟩ (.int .u32 n)) := (Kept.refl _ _).setCell (Or.inl (by simp)) _
    refine ⟨rfl, ⟨v, by rw [heap_set _ H1h.out]; rfl, ownsRow_kept H2 k (fun i hi hm => ?_), H3h.out⟩, k.mono (fun i hi => Or.inl (by rw [H3h.out]; simp at hi; simp [hi]))⟩
    simp at hm
    exact own_neB H2 H1h.out (by decide) i hi hm
  · have e1 : Cut.CS.limited n = 1 := by unfold Cut.CS.limited; rw [if_neg hl]
    have e2 : Cut.CS.limit st n = st := by unfold Cut.CS.limit; rw [if_neg hl]
    have hl' : limB n = false := by simpa using hl
    rw [e1, e2]
    rw [hl'] at LIM
    clear e1 e2 hl hl' H1 H3
    go_enter Try.func33, Try.ntmps33
    go_wp2_with fail
    refine (LIM.out _).mono ?_
    rintro e w1 ⟨rfl, rfl⟩
    go_wp2_with fail
    go_ret
    exact ⟨rfl, h, Kept.refl _ _⟩
end Ref
end Go.Proofs.Ytepemdicbipphaa
