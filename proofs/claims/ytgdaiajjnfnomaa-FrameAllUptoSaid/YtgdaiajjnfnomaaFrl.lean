/- Lists of frames in memory; the law's alike. -/
import Derived.Test.YtgdaiajjnfnomaaSam
import Derived.Test.YtgdaiajjnfnomaaLaw
import Derived.StillTailTactics
namespace Go.Proofs.Ytgdaiajjnfnomaa
set_option linter.unusedVariables false
open Go.RowKit

/-- A list of lists of bytes, all of the call's own. T: its blocks. -/
structure FrL (w : World) (v : Value) (vs : List Value) (fs : List (List UInt8)) (T : List Nat) : Prop where
  len : vs.length = fs.length
  own : w.ownsRow 0 22 1 v vs.length vs
  el : ∀ i (h : i < vs.length) (h' : i < fs.length), Own w 0 vs[i] fs[i] ∧ ∀ k, vs[i].ownBlock = some k → k ∈ T
  blk : ∀ k, v.ownBlock = some k → k ∈ T
  lt : ∀ k ∈ T, k < w.heap.size
theorem FrL.nil (w : World) : FrL w (.slice none 0 0) [] [] [] := ⟨rfl, World.ownsRow_nil _ _ _ _, (fun i h => by simp at h), (fun k h => by cases h), (fun k h => by cases h)⟩
theorem FrL.kept {w w' : World} {v : Value} {vs : List Value} {fs : List (List UInt8)} {T S : List Nat} (h : FrL w v vs fs T) (hk : Kept S w w') (hd : ∀ k ∈ T, k ∉ S) : FrL w' v vs fs T :=
  ⟨h.len, ownsRow_kept h.own hk (fun k e => hd k (h.blk k e)), fun i h1 h2 => ⟨ownsRow_kept (h.el i h1 h2).1 hk (fun k e => hd k ((h.el i h1 h2).2 k e)), (h.el i h1 h2).2⟩, h.blk, fun k hk' => Nat.lt_of_lt_of_le (h.lt k hk') hk.size⟩
/-- One more. -/
theorem FrL.push {w W w1 : World} {v v' x : Value} {vs : List Value} {fs : List (List UInt8)} {f : List UInt8} {T : List Nat} {n : Nat} (h : FrL w v vs fs T) (hW : Kept [] w W) (hx : Own W 0 x f) (hn : n = vs.length)
    (hown : w1.ownsRow 0 22 1 v' (n + 1) (vs ++ [x])) (hgrow : W.grownBy w1 v.ownBlock) (hat : v'.ownBlock = v.ownBlock ∨ v'.ownBlock = some W.heap.size) :
    FrL w1 v' (vs ++ [x]) (fs ++ [f]) (T ++ (x.ownBlock.toList ++ v'.ownBlock.toList)) ∧ Kept v.ownBlock.toList w w1 ∧ Kept v.ownBlock.toList W w1 := by
  subst hn
  have kW : Kept v.ownBlock.toList W w1 := (Kept.refl _ W).grown hgrow (fun k e => Or.inl (by rw [e]; simp))
  have k1 : Kept v.ownBlock.toList w w1 := (hW.mono (T := v.ownBlock.toList) (fun i hi => by simp at hi)).trans kW (fun i hi => Or.inl hi)
  have ne : ∀ {y : Value} {g : List UInt8} {u : World}, Kept [] w u → Own u 0 y g → ∀ k, y.ownBlock = some k → k ∉ v.ownBlock.toList := fun {y g u} hu hy k hk hm => by
    have hv := ownsRow_kept h.own hu (fun i _ hm => by simp at hm)
    rcases hv.2 with ⟨rfl, _⟩ | ⟨gg, cap, cur, rfl, _, hgg, _⟩
    · simp [Value.ownBlock] at hm
    · simp [Value.ownBlock] at hm
      subst hm
      exact own_neB hy hgg (by decide) k hk rfl
  refine ⟨⟨by simp [h.len], by simpa using hown, fun i h1 h2 => ?_, fun k hk => by simp [hk], fun k hk => ?_⟩, k1, kW⟩
  · by_cases hi : i < vs.length
    · have hi2 : i < fs.length := by have := h.len; omega
      rw [List.getElem_append_left hi, List.getElem_append_left hi2]
      obtain ⟨a, b⟩ := h.el i hi hi2
      exact ⟨ownsRow_kept a k1 (ne (Kept.refl _ _) a), fun k hk => List.mem_append_left _ (b k hk)⟩
    · have e1 : i = vs.length := by simp at h1; omega
      subst e1
      rw [List.getElem_append_right (Nat.le_refl _), List.getElem_append_right (by have := h.len; omega)]
      simp only [Nat.sub_self, h.len, List.getElem_singleton]
      exact ⟨ownsRow_kept hx kW (ne hW hx), fun k hk => by simp [hk]⟩
  · rcases List.mem_append.1 hk with hk | hk
    · exact Nat.lt_of_lt_of_le (h.lt k hk) k1.size
    · rcases List.mem_append.1 hk with hk | hk
      · exact Nat.lt_of_lt_of_le (hx.lt k (by simpa using hk)).2 kW.size
      · exact (hown.lt k (by simpa using hk)).2
theorem FrL.at {w : World} {v : Value} {vs : List Value} {fs : List (List UInt8)} {T : List Nat} (h : FrL w v vs fs T) (i : Nat) (hi : i < fs.length) :
    ∃ b c y, v = .slice (some ⟨b, 0, none⟩) fs.length c ∧ fs.length ≤ c ∧ w.cell? ⟨b, i, none⟩ = some y ∧ Own w 0 y fs[i] ∧ ∀ k, y.ownBlock = some k → k ∈ T := by
  have hi' : i < vs.length := by rw [h.len]; exact hi
  have hc := fun g => h.own.cells (g := g)
  rcases h.own.2 with ⟨_, h0⟩ | ⟨g, cap, cur, e, _, _, hn, _⟩
  · omega
  · obtain ⟨a, b⟩ := h.el i hi' hi
    refine ⟨g, cap, vs[i], by rw [e, h.len], by rw [← h.len]; exact hn, ?_, a, b⟩
    have := hc g (by rw [e]; rfl) i vs[i] (List.getElem?_eq_getElem hi')
    rw [Addr.add_lit, Nat.zero_add] at this
    exact this
theorem FrL.val {w : World} {v : Value} {vs : List Value} {fs : List (List UInt8)} {T : List Nat} (h : FrL w v vs fs T) : ∃ a c, v = .slice a fs.length c := by
  obtain ⟨a, c, e⟩ := own_slice h.own
  exact ⟨a, c, by rw [e, h.len]⟩

namespace Law
set_option maxHeartbeats 1000000 in
theorem alike_any (w : World) (va vb : Value) (vs us : List Value) (fs gs : List (List UInt8)) (T1 T2 : List Nat) (hn : fs.length ≤ 1152921504606) (hl : ∀ i (h : i < fs.length), fs[i].length ≤ 1152921504606) (ha : Hid (FrL w va vs fs T1)) (hb : Hid (FrL w vb us gs T2)) :
    Calls Try.prog 10 #[va, vb] w fun e w' => e = .returned (.bool (decide (fs = gs))) ∧ Kept [] w w' := by
  obtain ⟨aa, ac, hva⟩ := ha.out.val
  obtain ⟨ba, bc, hvb⟩ := hb.out.val
  by_cases hlen : fs.length = gs.length
  · subst hva hvb
    have HL := Lib.hid hl
    rw [← hlen]
    have HLEN := Lib.hid hlen
    rw [← hlen] at hb
    clear hlen hl
    go_enter Try.func10, Try.ntmps10
    go_wp2_with fail
    go_loopw [5] (fun v wr => ∃ k : Nat, k ≤ fs.length ∧ v = .int .i64 k ∧ Hid (fs.take k = gs.take k) ∧ Hid (Kept [] w wr)) (fun v _ => fs.length - (intOf v).toNat)
    case atStart => exact ⟨0, by omega, rfl, rfl, Kept.refl _ _⟩
    case round =>
      obtain ⟨k, hk, rfl, hp, hK⟩ := hrel
      by_cases hlt : k < fs.length
      · have ha1 := ha.out.kept hK.out (fun _ _ hm => by simp at hm)
        have hb1 := hb.out.kept hK.out (fun _ _ hm => by simp at hm)
        obtain ⟨b1, c1, y1, e1, d1, f1, o1, -⟩ := ha1.at k hlt
        obtain ⟨b2, c2, y2, e2, d2, f2, o2, -⟩ := hb1.at k (by rw [← HLEN.out]; exact hlt)
        rw [← HLEN.out] at e2 d2
        cases e1
        cases e2
        obtain ⟨x1, z1, rfl⟩ := own_slice o1
        obtain ⟨x2, z2, rfl⟩ := own_slice o2
        have hfk := HL.out k hlt
        obtain ⟨xs, hxs⟩ : ∃ xs, xs = fs[k] := ⟨_, rfl⟩
        obtain ⟨ys, hys⟩ : ∃ ys, ys = gs[k]'(by rw [← HLEN.out]; exact hlt) := ⟨_, rfl⟩
        rw [← hxs] at o1 hfk f1
        rw [← hys] at o2 f2
        have HX := Lib.hid hxs
        have HY := Lib.hid hys
        have s1 : Hid (Seg wr.drew (.slice x1 xs.length z1) xs (Value.slice x1 xs.length z1).ownBlock.toList) := Seg.of_own o1
        have s2 : Hid (Seg wr.drew (.slice x2 ys.length z2) ys (Value.slice x2 ys.length z2).ownBlock.toList) := Seg.of_own o2
        have SAME := Lib.hid (Lst.same_any wr.drew _ _ xs ys _ _ hfk s1 s2)
        have j1 : (k : Int) < (fs.length : Int) := by omega
        clear ha1 hb1 hxs hys o1 o2
        by_cases hxy : xs = ys
        · have hq : decide (xs = ys) = true := decide_eq_true hxy
          rw [hq] at SAME
          have HQ := Lib.hid hxy
          clear hxy hq
          go_wp2_with fail
          go_still_tail 8, (by kernel_rfl)
          change wpList _ _ _ _ _ wr.drew
          go_wp2_with fail
          refine SAME.out.mono ?_
          rintro e w2 ⟨rfl, k2⟩
          have K2 : Hid (Kept [] w w2) := (hK.out.drew).trans k2 (fun i hi => by simp at hi)
          clear k2
          go_wp2_with fail
          go_roundw
          case rel =>
            refine ⟨k + 1, by omega, by go_num, ?_, K2⟩
            show fs.take (k + 1) = gs.take (k + 1)
            rw [List.take_succ_eq_append_getElem hlt, List.take_succ_eq_append_getElem (by rw [← HLEN.out]; exact hlt), hp.out, ← HX.out, ← HY.out, HQ.out]
          case measure => simp [intOf]; omega
        · have hq : decide (xs = ys) = false := decide_eq_false hxy
          have hv : decide (fs = gs) = false := decide_eq_false (fun e => hxy (by rw [HX.out, HY.out]; simp [e]))
          rw [hq] at SAME
          have Hv := Lib.hid hv
          clear hxy hq hv
          go_wp2_with fail
          go_still_tail 8, (by kernel_rfl)
          change wpList _ _ _ _ _ wr.drew
          go_wp2_with fail
          refine SAME.out.mono ?_
          rintro e w2 ⟨rfl, k2⟩
          have K2 : Hid (Kept [] w w2) := (hK.out.drew).trans k2 (fun i hi => by simp at hi)
          clear k2
          go_wp2_with fail
          go_ret
          exact ⟨ret_bool Hv.out.symm, K2.out⟩
      · have hv : decide (fs = gs) = true := by
          have e1 : fs.take k = fs := List.take_of_length_le (by omega)
          have e2 : gs.take k = gs := List.take_of_length_le (by have := HLEN.out; omega)
          have := hp.out
          rw [e1, e2] at this
          exact decide_eq_true this
        have Hv := Lib.hid hv
        have j1 : ¬ (k : Int) < (fs.length : Int) := by omega
        clear hv
        go_wp2_with fail
        go_ret
        exact ⟨ret_bool Hv.out.symm, hK.out⟩
  · subst hva hvb
    have hne : ((fs.length : Int) != (gs.length : Int)) = true := by rw [bne_iff_ne]; omega
    have hv : decide (fs = gs) = false := decide_eq_false (fun e => hlen (by rw [e]))
    have Hv := Lib.hid hv
    clear hlen hv
    go_enter Try.func10, Try.ntmps10
    go_wp2_with fail
    go_ret
    exact ⟨ret_bool Hv.out.symm, Kept.refl _ _⟩
end Law
end Go.Proofs.Ytgdaiajjnfnomaa
