/- Feed, whole. -/
import Derived.Test.YtgdaiajjnfnomaaFds
import Derived.Test.YtgdaiajjnfnomaaFd1
import Derived.Test.YtgdaiajjnfnomaaFd2
import Derived.Test.YtgdaiajjnfnomaaFd3
import Derived.Test.YtgdaiajjnfnomaaFrs
namespace Go.Proofs.Ytgdaiajjnfnomaa
set_option linter.unusedVariables false
open Go.RowKit

namespace Cut
theorem sized_ct {w w' : World} {p n k : Nat} {S : List Nat} {st : CS} {l : List UInt8} {b0 b1 b2 b3 : UInt8} {va : Option Addr} {vc : Nat} {e : Ending}
    (hn : n = st.hand.length) (h4 : n < 4) (hk : k = st.sizeK l) (hnk : n + k ≤ 4) (hkl : k ≤ l.length) (P1 : w.heap[p]? = some (.cells #[.int .u32 st.lim, .int .u8 b0.toNat, .int .u8 b1.toNat, .int .u8 b2.toNat, .int .u8 b3.toNat, .int .i64 n, .slice va (st.hand.drop 4).length vc, .int .i64 st.fed, .int .i64 st.taken, .bool st.dead] 52 (0, 0)))
    (H2 : [b0, b1, b2, b3].take st.hand.length = st.hand.take 4) (H3 : w.ownsRow 0 5 1 (.slice va (st.hand.drop 4).length vc) (st.hand.drop 4).length ((st.hand.drop 4).map bv)) (H4 : S = p :: (Value.slice va (st.hand.drop 4).length vc).ownBlock.toList)
    (h : SizedOut w p n k [b0, b1, b2, b3] l st.lim st.fed st.taken va (st.hand.drop 4).length vc e w') :
    e = .returned (.int .i64 k) ∧ Hid (Ct w' p S (st.sized l)) ∧ Hid (Kept [p] w w') := by
  obtain ⟨rfl, d0, d1, d2, d3, ht, hp, hkk⟩ := h
  have h4' : ¬ 4 ≤ st.hand.length := by omega
  have e1 : st.sized l = { st with hand := st.hand ++ l.take k, dead := decide ((st.hand ++ l.take k).length = 4) && !rightB (leval (st.hand ++ l.take k)) st.lim } := by unfold CS.sized; rw [if_neg h4', hk]
  have e2 : (st.hand ++ l.take k).length = n + k := by rw [List.length_append, List.length_take, hn]; omega
  have e3 : (st.hand ++ l.take k).take 4 = st.hand ++ l.take k := List.take_of_length_le (by omega)
  have e4 : (st.hand ++ l.take k).drop 4 = [] := List.drop_eq_nil_of_le (by omega)
  have e5 : st.hand.drop 4 = [] := List.drop_eq_nil_of_le (by omega)
  have e6 : st.hand.take 4 = st.hand := List.take_of_length_le (by omega)
  have e7 : [d0, d1, d2, d3].take (n + k) = st.hand ++ l.take k := by rw [ht, hn, H2, e6]
  have hne := own_neB H3 P1 (by decide)
  refine ⟨rfl, ?_, hkk⟩
  rw [e1]
  refine ⟨d0, d1, d2, d3, .slice va (st.hand.drop 4).length vc, ?_, ?_, ?_, H4⟩
  · show w'.heap[p]? = _
    rw [hp]
    show some (Obj.cells #[_, _, _, _, _, .int .i64 ((n + k : Nat) : Int), _, _, _, _] _ _) = some (Obj.cells #[_, _, _, _, _, .int .i64 ((min 4 (st.hand ++ l.take k).length : Nat) : Int), _, _, _, _] _ _)
    rw [e2, show min 4 (n + k) = n + k by omega]
    congr 1
    by_cases hf : n + k = 4
    · have : [d0, d1, d2, d3] = st.hand ++ l.take k := by rw [← e7, hf]; rfl
      rw [this]
    · rw [show decide (n + k = 4) = false from decide_eq_false hf]
      rfl
  · show [d0, d1, d2, d3].take (st.hand ++ l.take k).length = (st.hand ++ l.take k).take 4
    rw [e2, e3, e7]
  · show w'.ownsRow 0 5 1 _ ((st.hand ++ l.take k).drop 4).length (((st.hand ++ l.take k).drop 4).map bv)
    rw [e4, e5]
    rw [e5] at H3
    exact ownsRow_kept H3 hkk (fun i hi hm => hne i (by rw [e5]; exact hi) (by simpa using hm))

theorem sized_any (w : World) (p : Nat) (S T : List Nat) (st : CS) (b : Value) (l : List UInt8) (hl : l.length ≤ 1152921504606) (hb : Hid (Src w b l T)) (h : Hid (Ct w p S st)) :
    Calls Try.prog 25 #[.pointer (some ⟨p, 0, none⟩), b] w fun e w' => e = .returned (.int .i64 (st.sizeK l)) ∧ Hid (Ct w' p S (st.sized l)) ∧ Hid (Kept [p] w w') := by
  by_cases h4 : 4 ≤ st.hand.length
  · have e1 : st.sizeK l = 0 := by unfold CS.sizeK; rw [if_pos h4]
    have e2 : st.sized l = st := by unfold CS.sized; rw [if_pos h4]
    rw [e1, e2]
    refine (sized_full w p S st b h4 h).mono ?_
    rintro e w' ⟨rfl, rfl⟩
    exact ⟨rfl, h, Kept.refl _ _⟩
  · obtain ⟨b0, b1, b2, b3, v, P1, H2, H3, H4⟩ := h.out
    obtain ⟨va, vc, rfl⟩ := own_slice H3
    rw [show min 4 st.hand.length = st.hand.length by omega] at P1
    obtain ⟨n, hn⟩ : ∃ n, n = st.hand.length := ⟨_, rfl⟩
    rw [← hn] at P1 h4
    have hk : st.sizeK l = min (4 - n) l.length := by unfold CS.sizeK; rw [if_neg (by omega), hn]
    have hlt : n < 4 := by omega
    have key : ∀ k, k = st.sizeK l → n + k ≤ 4 → k ≤ l.length → Calls Try.prog 25 #[.pointer (some ⟨p, 0, none⟩), b] w (SizedOut w p n k [b0, b1, b2, b3] l st.lim st.fed st.taken va (st.hand.drop 4).length vc) →
        Calls Try.prog 25 #[.pointer (some ⟨p, 0, none⟩), b] w fun e w' => e = .returned (.int .i64 (st.sizeK l)) ∧ Hid (Ct w' p S (st.sized l)) ∧ Hid (Kept [p] w w') := by
      intro k e1 e2 e3 hc
      refine hc.mono fun e w' ho => ?_
      rw [← e1]
      exact sized_ct hn hlt e1 e2 e3 P1 H2 H3 H4 ho
    have h4c : n = 0 ∨ n = 1 ∨ n = 2 ∨ n = 3 := by omega
    rcases h4c with rfl | rfl | rfl | rfl
    · by_cases hf : 4 ≤ l.length
      · exact key 4 (by omega) (by omega) hf (sized_0f w p l T b _ _ _ b0 b1 b2 b3 va _ vc st.dead hl hf hb P1)
      · exact key l.length (by omega) (by omega) (Nat.le_refl _) (sized_0p w p l T b _ _ _ _ b0 b1 b2 b3 va _ vc st.dead hl (Nat.le_refl _) (Nat.le_refl _) (by omega) hb P1)
    · by_cases hf : 3 ≤ l.length
      · exact key 3 (by omega) (by omega) hf (sized_1f w p l T b _ _ _ b0 b1 b2 b3 va _ vc st.dead hl hf hb P1)
      · exact key l.length (by omega) (by omega) (Nat.le_refl _) (sized_1p w p l T b _ _ _ _ b0 b1 b2 b3 va _ vc st.dead hl (Nat.le_refl _) (Nat.le_refl _) (by omega) hb P1)
    · by_cases hf : 2 ≤ l.length
      · exact key 2 (by omega) (by omega) hf (sized_2f w p l T b _ _ _ b0 b1 b2 b3 va _ vc st.dead hl hf hb P1)
      · exact key l.length (by omega) (by omega) (Nat.le_refl _) (sized_2p w p l T b _ _ _ _ b0 b1 b2 b3 va _ vc st.dead hl (Nat.le_refl _) (Nat.le_refl _) (by omega) hb P1)
    · by_cases hf : 1 ≤ l.length
      · exact key 1 (by omega) (by omega) hf (sized_3f w p l T b _ _ _ b0 b1 b2 b3 va _ vc st.dead hl hf hb P1)
      · exact key l.length (by omega) (by omega) (Nat.le_refl _) (sized_3p w p l T b _ _ _ _ b0 b1 b2 b3 va _ vc st.dead hl (Nat.le_refl _) (Nat.le_refl _) (by omega) hb P1)
end Cut

theorem CS.Ok.sized {st : CS} (ok : st.Ok) (l : List UInt8) : (st.sized l).Ok := by
  unfold CS.sized
  split
  · exact ok
  · rename_i h4
    have hk : st.sizeK l = min (4 - st.hand.length) l.length := by unfold CS.sizeK; rw [if_neg h4]
    have hlen : (st.hand ++ l.take (st.sizeK l)).length ≤ 4 := by rw [List.length_append, List.length_take]; omega
    refine ⟨ok.l1, ok.l2, fun hd hh => ?_, fun hd => ?_⟩
    · have h4' : (st.hand ++ l.take (st.sizeK l)).length = 4 := Nat.le_antisymm hlen hh
      have hd' : (decide ((st.hand ++ l.take (st.sizeK l)).length = 4) && !rightB (leval (st.hand ++ l.take (st.sizeK l))) st.lim) = false := hd
      rw [decide_eq_true h4', Bool.true_and, Bool.not_eq_false'] at hd'
      have hr := of_decide_eq_true hd'
      have hs : (CS.says { st with hand := st.hand ++ l.take (st.sizeK l), dead := decide ((st.hand ++ l.take (st.sizeK l)).length = 4) && !rightB (leval (st.hand ++ l.take (st.sizeK l))) st.lim }) = leval (st.hand ++ l.take (st.sizeK l)) := by
        unfold CS.says
        rw [List.take_of_length_le (by exact hlen)]
      have := ok.l2
      refine ⟨by rw [hs]; omega, by rw [hs]; omega, ?_⟩
      rw [hs]
      show (st.hand ++ l.take (st.sizeK l)).length ≤ _
      omega
    · have hd' : (decide ((st.hand ++ l.take (st.sizeK l)).length = 4) && !rightB (leval (st.hand ++ l.take (st.sizeK l))) st.lim) = true := hd
      rw [Bool.and_eq_true] at hd'
      exact of_decide_eq_true hd'.1

/-- Feed: how many bytes go in; what they leave. -/
def CS.feedK (st : CS) (l : List UInt8) : Nat := st.sizeK l + (st.sized l).restK (l.drop (st.sizeK l))
def CS.fedS (st : CS) (l : List UInt8) : CS := { (st.sized l).rested (l.drop (st.sizeK l)) with fed := st.fed + st.feedK l }

theorem CS.sized_fed (st : CS) (l : List UInt8) : (st.sized l).fed = st.fed := by unfold CS.sized; split <;> rfl
theorem CS.sized_short {st : CS} {l : List UInt8} (h : (st.sized l).hand.length < 4) : l.drop (st.sizeK l) = [] := by
  by_cases h4 : 4 ≤ st.hand.length
  · have : (st.sized l).hand = st.hand := by unfold CS.sized; rw [if_pos h4]
    rw [this] at h
    omega
  · have hk : st.sizeK l = min (4 - st.hand.length) l.length := by unfold CS.sizeK; rw [if_neg h4]
    have : (st.sized l).hand = st.hand ++ l.take (st.sizeK l) := by unfold CS.sized; rw [if_neg h4]
    rw [this, List.length_append, List.length_take] at h
    exact List.drop_eq_nil_of_le (by omega)
theorem Ct.fed_store {w : World} {p : Nat} {S : List Nat} {st : CS} (h : Ct w p S st) (x : Int) (n : Nat) (hx : x = n) : Ct (w.setCell ⟨p, 7, none⟩ (.int .i64 x)) p S { st with fed := n } ∧ Kept S w (w.setCell ⟨p, 7, none⟩ (.int .i64 x)) := by
  subst hx
  obtain ⟨b0, b1, b2, b3, v, P, H2, H3, H4⟩ := h
  have k : Kept [p] w (w.setCell ⟨p, 7, none⟩ (.int .i64 n)) := (Kept.refl _ _).setCell (Or.inl (by simp)) _
  refine ⟨⟨b0, b1, b2, b3, v, by rw [heap_set _ P]; rfl, H2, ownsRow_kept H3 k (fun i hi hm => ?_), H4⟩, k.mono (fun i hi => Or.inl (by rw [H4]; simp at hi; simp [hi]))⟩
  exact own_neB H3 P (by decide) i hi (by simpa using hm)

namespace Cut
set_option maxHeartbeats 1000000 in
theorem feed_some (w : World) (p : Nat) (S T : List Nat) (st : CS) (ad : Addr) (c : Nat) (l : List UInt8) (hl : l.length ≤ 1152921504) (hc : l.length ≤ c) (hc2 : c ≤ 9223372036854775807) (hf : st.fed ≤ 1152921504606) (ok : Hid st.Ok)
    (hb : Hid (Src w (.slice (some ad) l.length c) l T)) (hT : Hid (∀ k ∈ T, k ∉ S)) (h : Hid (Ct w p S st)) :
    Calls Try.prog 12 #[.pointer (some ⟨p, 0, none⟩), .slice (some ad) l.length c] w fun e w' => e = .returned (.int .i64 (st.feedK l)) ∧ RestOut w p S (st.fedS l) w' := by
  have SIZE := sized_any w p S T st (.slice (some ad) l.length c) l (by omega) hb h
  obtain ⟨k, hk⟩ : ∃ k, k = st.sizeK l := ⟨_, rfl⟩
  rw [← hk] at SIZE
  have hkl : k ≤ l.length := by rw [hk]; unfold CS.sizeK; split <;> omega
  have hkc : k ≤ c := by omega
  have SIZEh := Lib.hid SIZE
  have HK := Lib.hid hk
  have hpT : Hid (∀ i ∈ T, i ∉ [p]) := fun i hi hm => by
    obtain ⟨_, _, _, _, _, _, _, _, h4⟩ := h.out
    exact hT.out i hi (by rw [h4]; simp at hm; simp [hm])
  clear SIZE hk
  by_cases hcap : c = k
  · subst hcap
    have hlk : l.length - c = 0 := by omega
    have hb0 : Hid (Src w (.slice (some ad) (l.drop c).length 0) (l.drop c) T) := by
      have hdr : l.drop c = [] := List.drop_eq_nil_of_le (by omega)
      rw [hdr]
      exact ⟨_, _, rfl, (fun e => by cases e), fun ad' e => ⟨fun hp => by simp at hp, fun j u hu => by simp at hu⟩⟩
    go_enter Try.func12, Try.ntmps12
    go_wp2_with fail
    refine SIZEh.out.mono ?_
    rintro e w1 ⟨rfl, h1, k1⟩
    have hb1 : Hid (Src w1 (.slice (some ad) (l.drop c).length 0) (l.drop c) T) := hb0.out.kept k1.out hpT.out
    have REST := rest_any w1 p S T (st.sized l) (some ad) 0 (l.drop c) (by rw [List.length_drop]; omega) (by rw [List.length_drop]; omega) (fun hh => by have := CS.sized_short hh; rw [← HK.out] at this; exact this) (ok.out.sized l) hb1 hT h1
    obtain ⟨r, hr⟩ : ∃ r, r = (st.sized l).restK (l.drop c) := ⟨_, rfl⟩
    rw [List.length_drop, ← hr, hlk] at REST
    have hrl : r ≤ l.length := by rw [hr]; unfold CS.restK; rw [List.length_drop]; omega
    have RESTh := Lib.hid REST
    have HR := Lib.hid hr
    clear REST hr
    go_wp2_with fail
    refine RESTh.out.mono ?_
    rintro e w2 ⟨rfl, S2, h2, k2, s2⟩
    have hfd : ((st.sized l).rested (l.drop c)).fed = st.fed := CS.sized_fed st l
    obtain ⟨b0, b1, b2, b3, v, c0, c1, c2, c3, c4, c5, c6, c7, c8, c9, fz, -⟩ := h2.out.parts
    rw [hfd] at c7
    have f7 := fz 7
    have FS := h2.out.fed_store ((st.fed : Int) + ((c : Int) + (r : Int))) (st.fed + (c + r)) (by omega)
    have FSh := Lib.hid FS
    have hkk : Hid (Kept [p] w w1) := k1
    clear hfd c0 c1 c2 c3 c4 c5 c6 c8 c9 fz FS k1
    go_wp2_with fail
    go_ret
    have eK : st.feedK l = c + r := by unfold CS.feedK; rw [← HK.out, ← HR.out]
    have eS : st.fedS l = { (st.sized l).rested (l.drop c) with fed := st.fed + (c + r) } := by unfold CS.fedS; rw [eK, ← HK.out]
    have hpS : p ∈ S := by obtain ⟨_, _, _, _, _, _, _, _, h4⟩ := h.out; rw [h4]; simp
    rw [eS, eK]
    have z1 := hkk.out.size
    refine ⟨ret_int (by omega), S2, FSh.out.1, ((hkk.out.mono (T := S) (fun i hi => Or.inl (by simp at hi; rw [hi]; exact hpS))).trans k2.out (fun i hi => Or.inl hi)).trans FSh.out.2 (fun i hi => (s2.out i hi).imp id (fun q => by omega)), fun i hi => (s2.out i hi).imp id (fun q => by omega)⟩
  · have hcap' : k < c := by omega
    have hb0 : Hid (Src w (.slice (some (ad.add k)) (l.drop k).length (c - k)) (l.drop k) T) := by
      obtain ⟨a', c', e1, -, h3⟩ := hb.out
      cases e1
      refine ⟨_, _, rfl, (fun e => by cases e), fun ad' e => ?_⟩
      cases e
      refine ⟨fun hp => by rw [add_block]; exact (h3 ad rfl).1 (by rw [List.length_drop] at hp; omega), fun j u hu => ?_⟩
      rw [List.map_drop, List.getElem?_drop] at hu
      rw [Addr.add_add]
      exact (h3 ad rfl).2 (k + j) u hu
    go_enter Try.func12, Try.ntmps12
    go_wp2_with fail
    refine SIZEh.out.mono ?_
    rintro e w1 ⟨rfl, h1, k1⟩
    have hb1 : Hid (Src w1 (.slice (some (ad.add k)) (l.drop k).length (c - k)) (l.drop k) T) := hb0.out.kept k1.out hpT.out
    have REST := rest_any w1 p S T (st.sized l) (some (ad.add k)) (c - k) (l.drop k) (by rw [List.length_drop]; omega) (by rw [List.length_drop]; omega) (fun hh => by have := CS.sized_short hh; rw [← HK.out] at this; exact this) (ok.out.sized l) hb1 hT h1
    obtain ⟨r, hr⟩ : ∃ r, r = (st.sized l).restK (l.drop k) := ⟨_, rfl⟩
    rw [List.length_drop, ← hr] at REST
    have hrl : r ≤ l.length := by rw [hr]; unfold CS.restK; rw [List.length_drop]; omega
    have RESTh := Lib.hid REST
    have HR := Lib.hid hr
    clear REST hr
    go_wp2_with fail
    refine RESTh.out.mono ?_
    rintro e w2 ⟨rfl, S2, h2, k2, s2⟩
    have hfd : ((st.sized l).rested (l.drop k)).fed = st.fed := CS.sized_fed st l
    obtain ⟨b0, b1, b2, b3, v, c0, c1, c2, c3, c4, c5, c6, c7, c8, c9, fz, -⟩ := h2.out.parts
    rw [hfd] at c7
    have f7 := fz 7
    have FS := h2.out.fed_store ((st.fed : Int) + ((k : Int) + (r : Int))) (st.fed + (k + r)) (by omega)
    have FSh := Lib.hid FS
    have hkk : Hid (Kept [p] w w1) := k1
    clear hfd c0 c1 c2 c3 c4 c5 c6 c8 c9 fz FS k1
    go_wp2_with fail
    go_ret
    have eK : st.feedK l = k + r := by unfold CS.feedK; rw [← HK.out, ← HR.out]
    have eS : st.fedS l = { (st.sized l).rested (l.drop k) with fed := st.fed + (k + r) } := by unfold CS.fedS; rw [eK, ← HK.out]
    have hpS : p ∈ S := by obtain ⟨_, _, _, _, _, _, _, _, h4⟩ := h.out; rw [h4]; simp
    rw [eS, eK]
    have z1 := hkk.out.size
    refine ⟨ret_int (by omega), S2, FSh.out.1, ((hkk.out.mono (T := S) (fun i hi => Or.inl (by simp at hi; rw [hi]; exact hpS))).trans k2.out (fun i hi => Or.inl hi)).trans FSh.out.2 (fun i hi => (s2.out i hi).imp id (fun q => by omega)), fun i hi => (s2.out i hi).imp id (fun q => by omega)⟩

theorem feed_none (w : World) (p : Nat) (S : List Nat) (st : CS) (hf : st.fed ≤ 1152921504606) (ok : Hid st.Ok) (h : Hid (Ct w p S st)) :
    Calls Try.prog 12 #[.pointer (some ⟨p, 0, none⟩), .slice none 0 0] w fun e w' => e = .returned (.int .i64 (st.feedK [])) ∧ RestOut w p S (st.fedS []) w' := by
  have hnil : ∀ w, Hid (Src w (.slice none 0 0) [] []) := fun w => ⟨none, 0, rfl, fun _ => ⟨rfl, rfl⟩, fun ad e => by cases e⟩
  have hnilh := Lib.hid hnil
  have SIZE := sized_any w p S [] st (.slice none 0 0) [] (by decide) (hnil w) h
  have hk : 0 = st.sizeK [] := by unfold CS.sizeK; split <;> simp
  rw [← hk] at SIZE
  have SIZEh := Lib.hid SIZE
  have HK := Lib.hid hk
  have hT : Hid (∀ k ∈ ([] : List Nat), k ∉ S) := fun _ hm => by cases hm
  clear SIZE hk hnil
  go_enter Try.func12, Try.ntmps12
  go_wp2_with fail
  refine SIZEh.out.mono ?_
  rintro e w1 ⟨rfl, h1, k1⟩
  have REST := rest_any w1 p S [] (st.sized []) none 0 [] (by decide) (by decide) (fun _ => rfl) (ok.out.sized []) (hnilh.out _) hT h1
  obtain ⟨r, hr⟩ : ∃ r, r = (st.sized []).restK [] := ⟨_, rfl⟩
  rw [show (List.length ([] : List UInt8)) = 0 from rfl, ← hr] at REST
  have hrl : r ≤ 0 := by rw [hr]; unfold CS.restK; simp
  have RESTh := Lib.hid REST
  have HR := Lib.hid hr
  clear REST hr
  go_wp2_with fail
  refine RESTh.out.mono ?_
  rintro e w2 ⟨rfl, S2, h2, k2, s2⟩
  have hfd : ((st.sized []).rested []).fed = st.fed := CS.sized_fed st []
  obtain ⟨b0, b1, b2, b3, v, c0, c1, c2, c3, c4, c5, c6, c7, c8, c9, fz, -⟩ := h2.out.parts
  rw [hfd] at c7
  have f7 := fz 7
  have FS := h2.out.fed_store ((st.fed : Int) + (r : Int)) (st.fed + r) (by omega)
  have FSh := Lib.hid FS
  have hkk : Hid (Kept [p] w w1) := k1
  clear hfd c0 c1 c2 c3 c4 c5 c6 c8 c9 fz FS k1
  go_wp2_with fail
  go_ret
  have eK : st.feedK [] = r := by unfold CS.feedK; rw [← HK.out, List.drop_zero, ← HR.out, Nat.zero_add]
  have eS : st.fedS [] = { (st.sized []).rested [] with fed := st.fed + r } := by unfold CS.fedS; rw [eK, ← HK.out, List.drop_zero]
  have hpS : p ∈ S := by obtain ⟨_, _, _, _, _, _, _, _, h4⟩ := h.out; rw [h4]; simp
  rw [eS, eK]
  have z1 := hkk.out.size
  refine ⟨ret_int (by omega), S2, FSh.out.1, ((hkk.out.mono (T := S) (fun i hi => Or.inl (by simp at hi; rw [hi]; exact hpS))).trans k2.out (fun i hi => Or.inl hi)).trans FSh.out.2 (fun i hi => (s2.out i hi).imp id (fun q => by omega)), fun i hi => (s2.out i hi).imp id (fun q => by omega)⟩

theorem feed_any (w : World) (p : Nat) (S T : List Nat) (st : CS) (a : Option Addr) (c : Nat) (l : List UInt8) (hl : l.length ≤ 1152921504) (hc : l.length ≤ c) (hc2 : c ≤ 9223372036854775807) (hf : st.fed ≤ 1152921504606) (ok : Hid st.Ok)
    (hb : Hid (Src w (.slice a l.length c) l T)) (hT : Hid (∀ k ∈ T, k ∉ S)) (h : Hid (Ct w p S st)) :
    Calls Try.prog 12 #[.pointer (some ⟨p, 0, none⟩), .slice a l.length c] w fun e w' => e = .returned (.int .i64 (st.feedK l)) ∧ RestOut w p S (st.fedS l) w' := by
  cases a with
  | some ad => exact feed_some w p S T st ad c l hl hc hc2 hf ok hb hT h
  | none =>
    obtain ⟨a', c', e1, h2, -⟩ := hb.out
    have e2 : (none : Option Addr) = a' ∧ c = c' := by simpa using e1
    obtain ⟨rfl, rfl⟩ := e2
    obtain ⟨rfl, rfl⟩ := h2 rfl
    exact feed_none w p S st hf ok h
end Cut
end Go.Proofs.Ytgdaiajjnfnomaa
