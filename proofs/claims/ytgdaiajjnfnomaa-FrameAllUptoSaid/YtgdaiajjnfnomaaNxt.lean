/- Next: the frame that is whole is taken. -/
import Derived.Test.YtgdaiajjnfnomaaCnc
import Derived.StillTailTactics
namespace Go.Proofs.Ytgdaiajjnfnomaa
set_option linter.unusedVariables false
open Go.RowKit

/-- What Next gives, and what it leaves. -/
def CS.got (st : CS) : List UInt8 := if st.whole = true then st.hand else []
def CS.next (st : CS) : CS := if st.whole = true then { st with hand := [], taken := st.taken + 1 } else st
theorem CS.whole_iff {st : CS} (ok : st.Ok) : st.whole = true ↔ st.dead = false ∧ 4 ≤ st.hand.length ∧ st.says = st.hand.length := by
  unfold CS.whole CS.want
  by_cases hd : st.dead = true
  · simp [hd]
  · have hd' : st.dead = false := by simpa using hd
    simp only [hd', Bool.not_false, Bool.true_and, decide_eq_true_eq, Bool.false_eq_true, if_false, true_and]
    by_cases h4 : st.hand.length < 4
    · rw [if_pos h4]; omega
    · rw [if_neg h4]
      have := ok.live hd' (by omega)
      omega
theorem CS.Ok.next {st : CS} (ok : st.Ok) : st.next.Ok := by
  unfold CS.next
  split
  · rename_i h
    have := (CS.whole_iff ok).1 h
    exact ⟨ok.l1, ok.l2, fun _ h4 => by simp at h4, fun hd => by rw [show _ = st.dead from rfl, this.1] at hd; cases hd⟩
  · exact ok
/-- What Next leaves. -/
def NextOut (w : World) (p : Nat) (S : List Nat) (st : CS) (e : Ending) (w' : World) : Prop :=
  ∃ v S', e = .returned (.tuple #[v, .bool st.whole]) ∧ Hid (Own w' w.heap.size v st.got) ∧ Hid (Ct w' p S' st.next) ∧ Hid (Kept S w w') ∧ Hid (∀ k ∈ S', k ∈ S)

namespace Cut

theorem next_any (w : World) (p : Nat) (S : List Nat) (st : CS) (ok : Hid st.Ok) (ht : st.taken ≤ 1152921504606846976) (h : Hid (Ct w p S st)) :
    Calls Try.prog 14 #[.pointer (some ⟨p, 0, none⟩)] w (NextOut w p S st) := by
  have WHOLE := whole_any w p S st ok h
  by_cases hw : st.whole = true
  · obtain ⟨q1, q2, q3⟩ := (CS.whole_iff ok.out).1 hw
    have q4 := (ok.out.live q1 q2).2.1
    have e1 : st.got = st.hand := by unfold CS.got; rw [if_pos hw]
    have e2 : st.next = { st with hand := [], taken := st.taken + 1 } := by unfold CS.next; rw [if_pos hw]
    have OUTh : Hid (∀ v w' S', Hid (Own w' w.heap.size v st.hand) → Hid (Ct w' p S' { st with hand := [], taken := st.taken + 1 }) → Hid (Kept S w w') → Hid (∀ k ∈ S', k ∈ S) → NextOut w p S st (.returned (.tuple #[v, .bool true])) w') := by
      intro v w' S' a1 a2 a3 a4
      unfold NextOut
      rw [hw, e1, e2]
      exact ⟨v, S', rfl, a1, a2, a3, a4⟩
    rw [hw] at WHOLE
    have WHOLEh := Lib.hid WHOLE
    have Q2 := Lib.hid q2
    have Q3 := Lib.hid q3
    have Q4 : st.hand.length ≤ 65536 := by omega
    obtain ⟨tk, htk⟩ : ∃ n, n = st.taken := ⟨_, rfl⟩
    have HTK := Lib.hid htk
    rw [← htk] at ht
    clear WHOLE hw e1 e2 q1 q2 q3 q4 htk
    go_enter Try.func14, Try.ntmps14
    go_wp2_with fail
    refine WHOLEh.out.mono ?_
    rintro e w1 ⟨rfl, k1⟩
    have h1 : Hid (Ct w1 p S st) := h.out.kept k1 (fun _ _ hm => by simp at hm)
    obtain ⟨b0, b1, b2, b3, v, c0, c1, c2, c3, c4, c5, c6, c7, c8, c9, fz, H1, H2, H3, H4⟩ := h1.out.parts
    have hcat : Hid (st.hand = [b0, b1, b2, b3] ++ st.hand.drop 4) := by
      have e := H2.out
      rw [List.take_of_length_le (by simpa using Q2.out)] at e
      show _ = _
      rw [e, List.take_append_drop]
    obtain ⟨l2, hl2⟩ : ∃ l2, l2 = st.hand.drop 4 := ⟨_, rfl⟩
    rw [← hl2] at hcat H3
    have hl2n : l2.length ≤ 1152921504 := by rw [hl2]; simp; omega
    clear hl2
    obtain ⟨va, vc, rfl⟩ := own_slice H3.out
    go_wp2_with fail
    go_still_tail 8, (by kernel_rfl)
    change wpList _ _ _ _ _ w1.drew
    obtain ⟨w2, hw2⟩ : ∃ w2, w2 = w1.drew := ⟨_, rfl⟩
    have hlt : ∀ k ∈ S, k < w2.heap.size := by rw [hw2]; exact h1.out.lt
    have k2 : Kept [] w w2 := by rw [hw2]; exact k1.drew
    have P2 : w2.heap[p]? = some (.cells #[.int .u32 st.lim, .int .u8 b0.toNat, .int .u8 b1.toNat, .int .u8 b2.toNat, .int .u8 b3.toNat, .int .i64 (min 4 st.hand.length : Nat), .slice va l2.length vc, .int .i64 st.fed, .int .i64 st.taken, .bool st.dead] 52 (0, 0)) := by rw [hw2]; exact H1.out
    have O2 : Hid (w2.ownsRow 0 5 1 (.slice va l2.length vc) l2.length (l2.map bv)) := by rw [hw2]; exact H3.out
    rw [← hw2]
    clear hw2 h1 k1 c0 c1 c2 c3 c4 c5 c6 c7 c8 c9 fz H1 H3
    obtain ⟨c0, c1, c2, c3, c4, c5, c6, c7, c8, c9, fz⟩ := ten P2
    have H1 := Lib.hid P2
    have H3 := O2
    clear P2 O2
    have H1h := H1
    go_wp2_with fail
    have hseg : Hid (Seg (w2.alloc (.cells #[.slice (some ⟨p, 1, none⟩) 4 4, .slice va l2.length vc] 22)) (.slice va l2.length vc) l2 (Value.slice va l2.length vc).ownBlock.toList) := (Seg.of_own H3.out).kept ((Kept.refl [] _).alloc _) (fun _ _ hm => by simp at hm)
    have hl1 : Hid (∀ j u, ([b0, b1, b2, b3].map bv)[j]? = some u → (w2.alloc (.cells #[.slice (some ⟨p, 1, none⟩) 4 4, .slice va l2.length vc] 22)).cell? ((⟨p, 1, none⟩ : Addr).add j) = some u) := by
      intro j u hu
      rw [Addr.add_lit]
      have hc : w2.cell? ⟨p, 1 + j, none⟩ = some u := by
        match j, hu with
        | 0, hu => simp [bv] at hu; subst hu; exact c1
        | 1, hu => simp [bv] at hu; subst hu; exact c2
        | 2, hu => simp [bv] at hu; subst hu; exact c3
        | 3, hu => simp [bv] at hu; subst hu; exact c4
        | j + 4, hu => simp at hu
      rw [← hc]
      exact World.cell?_of_block (Below.heap_alloc _ _ _ (World.block_lt_of_cell? w2 _ hc))
    refine (concat_two _ w2.heap.size ⟨p, 1, none⟩ 4 [b0, b1, b2, b3] l2 _ _ (by simp) hl2n (heap_alloc_new w2 _) hl1 hseg).mono ?_
    rintro e w3 ⟨v', rfl, own3, k3⟩
    rw [← hcat.out] at own3
    have k23 : Kept [] w2 w3 := ((Kept.refl [] w2).alloc _).trans k3 (fun i hi => by simp at hi)
    have P3 := (k23.block _ (block_lt H1h.out) (by simp)).trans H1h.out
    have R3 := ownsRow_kept H3.out k23 (fun k _ hm => by simp at hm)
    have own3h : Hid (w3.ownsRow w.heap.size 5 1 v' st.hand.length (st.hand.map bv)) := World.ownsRow.mono own3.out (by have := k2.size; simp; omega)
    have K3 : Hid (Kept [] w w3) := k2.trans k23 (fun i hi => by simp at hi)
    have hsep : Hid (∀ k, v'.ownBlock = some k → k ∉ S) := fun k hk hm => by have h1 := (own3.out.lt k hk).1; have h2 := hlt k hm; simp at h1; omega
    have P3h := Lib.hid P3
    have R3h := Lib.hid R3
    have K2 := Lib.hid k2
    clear c0 c1 c2 c3 c4 c5 c6 c7 c8 c9 fz hseg hl1 own3 k3 k23 hlt k2 R3
    obtain ⟨c0, c1, c2, c3, c4, c5, c6, c7, c8, c9, fz⟩ := ten P3
    have f5 := fz 5
    have f6 := fz 6
    have f8 := fz 8
    clear P3 fz
    rw [← HTK.out] at c8
    go_wp2_with fail
    go_ret2
    have q1 := heap_set (i := 5) (.int .i64 0) P3h.out
    have q2 := heap_set (i := 6) (.slice none 0 0) q1
    have q3 := heap_set (i := 8) (.int .i64 ((tk : Int) + 1)) q2
    have kk : Kept [p] w3 (((w3.setCell ⟨p, 5, none⟩ (.int .i64 0)).setCell ⟨p, 6, none⟩ (.slice none 0 0)).setCell ⟨p, 8, none⟩ (.int .i64 ((tk : Int) + 1))) :=
      ((((Kept.refl _ _).setCell (Or.inl (by simp)) _).setCell (Or.inl (by simp)) _).setCell (Or.inl (by simp)) _)
    have hpS : p ∈ S := by rw [H4.out]; simp
    refine OUTh.out _ _ [p] (ownsRow_kept own3h.out kk (fun k hk hm => ?_)) ⟨b0, b1, b2, b3, .slice none 0 0, ?_, rfl, World.ownsRow_nil _ _ _ _, rfl⟩ (K3.out.mono (T := S) (fun i hi => by simp at hi) |>.trans kk (fun i hi => Or.inl (by simp at hi; rw [hi]; exact hpS))) (fun k hk => by simp at hk; rw [hk]; exact hpS)
    · simp at hm
      exact hsep.out k hk (by rw [hm]; exact hpS)
    · refine q3.trans ?_
      rw [HTK.out]
      rfl
  · have e1 : st.got = [] := by unfold CS.got; rw [if_neg hw]
    have e2 : st.next = st := by unfold CS.next; rw [if_neg hw]
    have hw' : st.whole = false := by simpa using hw
    have OUTh : Hid (∀ w', Kept [] w w' → NextOut w p S st (.returned (.tuple #[.slice none 0 0, .bool false])) w') := by
      intro w' k
      unfold NextOut
      rw [hw', e1, e2]
      exact ⟨_, S, rfl, World.ownsRow_nil _ _ _ _, h.out.kept k (fun _ _ hm => by simp at hm), k.mono (fun i hi => by simp at hi), fun _ hk => hk⟩
    rw [hw'] at WHOLE
    have WHOLEh := Lib.hid WHOLE
    clear WHOLE hw hw' e1 e2
    go_enter Try.func14, Try.ntmps14
    go_wp2_with fail
    refine WHOLEh.out.mono ?_
    rintro e w1 ⟨rfl, k1⟩
    go_wp2_with fail
    go_ret2
    exact OUTh.out _ k1
end Cut
end Go.Proofs.Ytgdaiajjnfnomaa
