/- What is missing behind the size: feedRest. -/
import Derived.Test.YtgdaiajjnfnomaaNxt
import Derived.Test.YtgdaiajjnfnomaaLaw
namespace Go.Proofs.Ytgdaiajjnfnomaa
set_option linter.unusedVariables false
open Go.RowKit

theorem Src.rowsrc {w : World} {v : Value} {bs : List UInt8} {T : List Nat} (h : Src w v bs T) : RowSrc w v bs.length (bs.map bv) := by
  obtain ⟨a, c, h1, h2, h3⟩ := h
  cases a with
  | none => obtain ⟨rfl, rfl⟩ := h2 rfl; exact Or.inl ⟨h1, rfl, rfl⟩
  | some ad => exact Or.inr ⟨ad, c, h1, (h3 ad rfl).2⟩

/-- How many bytes go to the rest; what they leave. -/
def CS.restK (st : CS) (b : List UInt8) : Nat := min b.length st.want
def CS.rested (st : CS) (b : List UInt8) : CS := { st with hand := st.hand ++ b.take (st.restK b) }

/-- What feedRest leaves. -/
def RestOut (w : World) (p : Nat) (S : List Nat) (st : CS) (w' : World) : Prop := ∃ S', Hid (Ct w' p S' st) ∧ Hid (Kept S w w') ∧ Hid (∀ k ∈ S', k ∈ S ∨ w.heap.size ≤ k)

theorem RestOut.after {w w1 w2 : World} {p : Nat} {S : List Nat} {st : CS} (k : Kept [] w w1) (h : RestOut w1 p S st w2) : RestOut w p S st w2 := by
  obtain ⟨S', h1, h2, h3⟩ := h
  exact ⟨S', h1, (k.mono (T := S) (fun i hi => by simp at hi)).trans h2.out (fun i hi => Or.inl hi), fun i hi => (h3.out i hi).imp id (fun q => Nat.le_trans k.size q)⟩

/-- The rest has grown. -/
theorem pushed {w1 w2 : World} {p : Nat} {S : List Nat} {st : CS} {b0 b1 b2 b3 : UInt8} {v v' : Value} {rs l : List UInt8} {news : List Value} {k : Nat}
    (P1 : w1.heap[p]? = some (.cells #[.int .u32 st.lim, .int .u8 b0.toNat, .int .u8 b1.toNat, .int .u8 b2.toNat, .int .u8 b3.toNat, .int .i64 (min 4 st.hand.length : Nat), v, .int .i64 st.fed, .int .i64 st.taken, .bool st.dead] 52 (0, 0)))
    (H2 : [b0, b1, b2, b3].take st.hand.length = st.hand.take 4) (hown : w1.ownsRow 0 5 1 v rs.length (rs.map bv)) (hS : S = p :: v.ownBlock.toList)
    (hgrow : w1.drew.grownBy w2 v.ownBlock) (hown2 : w2.ownsRow 0 5 1 v' (rs.length + k) (rs.map bv ++ news)) (hat : v'.ownBlock = v.ownBlock ∨ v'.ownBlock = some w1.drew.heap.size)
    (hrs : rs = st.hand.drop 4) (hnews : news = (l.take k).map bv) (hk : k = st.restK l) (hkl : k ≤ l.length) (h4 : st.hand.length < 4 → l = []) :
    w2.heap[p]? = some (.cells #[.int .u32 st.lim, .int .u8 b0.toNat, .int .u8 b1.toNat, .int .u8 b2.toNat, .int .u8 b3.toNat, .int .i64 (min 4 st.hand.length : Nat), v, .int .i64 st.fed, .int .i64 st.taken, .bool st.dead] 52 (0, 0)) ∧ RestOut w1 p S (st.rested l) (w2.setCell ⟨p, 6, none⟩ v') := by
  have hne := own_neB hown P1 (by decide)
  have hW : Kept v.ownBlock.toList w1 w2 := ((Kept.refl v.ownBlock.toList w1).drew).grown hgrow (fun i hi => Or.inl (by rw [hi]; simp))
  have P2 : w2.heap[p]? = _ := (hW.block p (block_lt P1) (fun hm => hne p (by simpa using hm) rfl)).trans P1
  have hW3 : Kept S w1 (w2.setCell ⟨p, 6, none⟩ v') := (hW.mono (T := S) (fun i hi => Or.inl (by rw [hS]; exact List.mem_cons_of_mem _ hi))).setCell (Or.inl (by rw [hS]; simp)) _
  have hne2 := own_neB hown2 P2 (by decide)
  have hlen : (st.rested l).hand = st.hand ++ l.take k := by rw [hk]; rfl
  have hcase : l = [] ∨ 4 ≤ st.hand.length := by
    by_cases h : st.hand.length < 4
    · exact Or.inl (h4 h)
    · exact Or.inr (by omega)
  have e1 : min 4 (st.hand ++ l.take k).length = min 4 st.hand.length := by
    rcases hcase with rfl | h
    · simp
    · rw [List.length_append]; omega
  have e2 : (st.hand ++ l.take k).drop 4 = rs ++ l.take k := by
    rcases hcase with rfl | h
    · simp [hrs]
    · rw [List.drop_append_of_le_length h, hrs]
  have e3 : (st.hand ++ l.take k).take 4 = st.hand.take 4 := by
    rcases hcase with rfl | h
    · simp
    · rw [List.take_append_of_le_length h]
  have e4 : [b0, b1, b2, b3].take (st.hand ++ l.take k).length = [b0, b1, b2, b3].take st.hand.length := by
    rcases hcase with rfl | h
    · simp
    · rw [List.take_of_length_le (by simp; omega), List.take_of_length_le (by simpa using h)]
  refine ⟨P2, p :: v'.ownBlock.toList, ⟨b0, b1, b2, b3, v', ?_, ?_, ?_, rfl⟩, hW3, fun i hi => ?_⟩
  · rw [heap_set _ P2, hlen, e1]; rfl
  · rw [hlen, e4, e3]; exact H2
  · rw [hlen, e2, List.map_append, ← hnews]
    have hll : (rs ++ l.take k).length = rs.length + k := by simp; omega
    rw [hll]
    exact ownsRow_kept hown2 ((Kept.refl _ _).setCell (S := [p]) (Or.inl (by simp)) _) (fun i hi hm => hne2 i hi (by simpa using hm))
  · rcases List.mem_cons.1 hi with rfl | hi
    · left; rw [hS]; simp
    · rcases hat with q | q
      · left; rw [hS, ← q]; exact List.mem_cons_of_mem _ hi
      · right; rw [q] at hi; simp at hi; rw [hi]; exact Nat.le_refl _

namespace Cut
theorem rest_some (w : World) (p : Nat) (S T : List Nat) (st : CS) (ad : Addr) (c : Nat) (l : List UInt8) (hl : l.length ≤ 1152921504) (hc : l.length ≤ c) (h4 : st.hand.length < 4 → l = []) (ok : Hid st.Ok)
    (hb : Hid (Src w (.slice (some ad) l.length c) l T)) (hT : Hid (∀ k ∈ T, k ∉ S)) (h : Hid (Ct w p S st)) :
    Calls Try.prog 26 #[.pointer (some ⟨p, 0, none⟩), .slice (some ad) l.length c] w fun e w' => e = .returned (.int .i64 (st.restK l)) ∧ RestOut w p S (st.rested l) w' := by
  have WANT := want_any w p S st ok h
  obtain ⟨i0, hi, hz0, hz1, hz2⟩ := info_parts info_u8
  obtain ⟨wt, hwt⟩ : ∃ n, n = st.want := ⟨_, rfl⟩
  obtain ⟨k, hk⟩ : ∃ n, n = st.restK l := ⟨_, rfl⟩
  have hk' : k = min l.length wt := by rw [hk, hwt]; rfl
  rw [← hwt] at WANT
  rw [← hk]
  have WANTh := Lib.hid WANT
  have HK := Lib.hid hk
  have hk1 : k ≤ l.length := by omega
  have hkc : k ≤ c := by omega
  have hM : (if wt < l.length then (wt : Int) else (l.length : Int)) = (k : Int) := by split <;> omega
  clear WANT hwt hk
  have hkh := Lib.hid hk'
  clear hk'
  go_enter Try.func26, Try.ntmps26
  go_wp2_with fail
  refine WANTh.out.mono ?_
  rintro e w1 ⟨rfl, k1⟩
  go_wp2_with fail
  have h1 : Hid (Ct w1 p S st) := h.out.kept k1 (fun _ _ hm => by simp at hm)
  have hb1 : Hid (Src w1 (.slice (some ad) l.length c) l T) := hb.out.kept k1 (fun _ _ hm => by simp at hm)
  obtain ⟨b0, b1, b2, b3, v, c0, c1, c2, c3, c4, c5, c6, c7, c8, c9, fz, H1, H2, H3, H4⟩ := h1.out.parts
  obtain ⟨rs, hrs⟩ : ∃ rs, rs = st.hand.drop 4 := ⟨_, rfl⟩
  rw [← hrs] at H3
  have HRS := Lib.hid hrs
  have hrl : rs.length ≤ 65536 := by
    rw [hrs]
    simp
    have := ok.out.live
    by_cases hd : st.dead = true
    · have := ok.out.died hd; omega
    · by_cases h4 : 4 ≤ st.hand.length
      · have := ok.out.live (by simpa using hd) h4; omega
      · omega
  obtain ⟨va, vc, rfl⟩ := own_slice H3.out
  have hsrc : Hid (RowSrc w1.drew (.slice (some ad) k c) k ((l.take k).map bv)) := Or.inr ⟨ad, c, rfl, fun j u hu => by
    obtain ⟨a', c', e1, -, h3⟩ := hb1.out
    cases e1
    rw [List.map_take, List.getElem?_take] at hu
    split at hu
    · exact (h3 ad rfl).2 j u hu
    · cases hu⟩
  have hown : Hid (w1.drew.ownsRow 0 5 1 (.slice va rs.length vc) rs.length (rs.map bv)) := H3.out
  have hnl : Hid (((l.take k).map bv).length = k * 1) := by show _ = _; simp; omega
  have h1c : Hid (∀ u ∈ (l.take k).map bv, u.oneCell' = true) := fun v hv => by obtain ⟨x, _, rfl⟩ := List.mem_map.1 hv; rfl
  obtain ⟨news, hnews⟩ : ∃ n, n = (l.take k).map bv := ⟨_, rfl⟩
  rw [← hnews] at hsrc hnl h1c
  have HNEWS := Lib.hid hnews
  have f6 := fz 6
  have hm1 : rs.length + k ≤ maxLen := by unfold maxLen; omega
  have hm1h := Lib.hid hm1
  clear hrs hnews fz hm1
  go_region_law (refine step_append_src w1.drew rfl (.tmp 15) (.tmp 18) 22 rfl 0 5 i0 (.int .u8 0) 1 1 Try.underlying22 hi hz0 hz1 hz2 rfl (by decide) (.slice va rs.length vc) rs.length (rs.map bv) (by simp [Act.eval]) hown.out (.slice (some ad) k c) k news (by simp [Act.eval]) hsrc.out hnl.out h1c.out hm1h.out (by omega) (Nat.zero_le _) ?_; intro v' w2 hown2 hgrow2 hat2; obtain ⟨P2, RO⟩ := pushed (k := k) H1.out H2.out H3.out H4.out hgrow2 hown2 hat2 HRS.out HNEWS.out HK.out hk1 h4; obtain ⟨-, -, -, -, -, -, g6, -, -, -, fz2⟩ := ten P2; have f62 := fz2 6; obtain ⟨xa, xc, rfl⟩ := own_slice hown2; have ROh := Lib.hid RO; clear hown2 hgrow2 hat2 P2 fz2 RO)
  all_goals
    go_wp2_with fail
    go_ret
    exact ⟨rfl, ROh.out.after k1⟩
theorem rest_none (w : World) (p : Nat) (S : List Nat) (st : CS) (ok : Hid st.Ok) (h : Hid (Ct w p S st)) :
    Calls Try.prog 26 #[.pointer (some ⟨p, 0, none⟩), .slice none 0 0] w fun e w' => e = .returned (.int .i64 0) ∧ RestOut w p S (st.rested []) w' := by
  have WANT := want_any w p S st ok h
  obtain ⟨i0, hi, hz0, hz1, hz2⟩ := info_parts info_u8
  obtain ⟨wt, hwt⟩ : ∃ n, n = st.want := ⟨_, rfl⟩
  have hk : 0 = st.restK [] := by show 0 = min 0 st.want; omega
  rw [← hwt] at WANT
  have WANTh := Lib.hid WANT
  have HK := Lib.hid hk
  clear WANT hwt hk
  go_enter Try.func26, Try.ntmps26
  go_wp2_with fail
  refine WANTh.out.mono ?_
  rintro e w1 ⟨rfl, k1⟩
  go_wp2_with fail
  have h1 : Hid (Ct w1 p S st) := h.out.kept k1 (fun _ _ hm => by simp at hm)
  obtain ⟨b0, b1, b2, b3, v, c0, c1, c2, c3, c4, c5, c6, c7, c8, c9, fz, H1, H2, H3, H4⟩ := h1.out.parts
  obtain ⟨rs, hrs⟩ : ∃ rs, rs = st.hand.drop 4 := ⟨_, rfl⟩
  rw [← hrs] at H3
  have HRS := Lib.hid hrs
  have hrl : rs.length ≤ 65536 := by
    rw [hrs]
    simp
    have := ok.out.live
    by_cases hd : st.dead = true
    · have := ok.out.died hd; omega
    · by_cases h4 : 4 ≤ st.hand.length
      · have := ok.out.live (by simpa using hd) h4; omega
      · omega
  obtain ⟨va, vc, rfl⟩ := own_slice H3.out
  have hsrc : Hid (RowSrc w1.drew (.slice none 0 0) 0 []) := Or.inl ⟨rfl, rfl, rfl⟩
  have hown : Hid (w1.drew.ownsRow 0 5 1 (.slice va rs.length vc) rs.length (rs.map bv)) := H3.out
  have hnl : Hid ((([] : List Value)).length = 0 * 1) := rfl
  have h1c : Hid (∀ u ∈ ([] : List Value), u.oneCell' = true) := fun v hv => by cases hv
  have f6 := fz 6
  have hm1 : rs.length + 0 ≤ maxLen := by unfold maxLen; omega
  have hm1h := Lib.hid hm1
  clear hrs fz hm1
  go_region_law (refine step_append_src w1.drew rfl (.tmp 15) (.tmp 18) 22 rfl 0 5 i0 (.int .u8 0) 1 1 Try.underlying22 hi hz0 hz1 hz2 rfl (by decide) (.slice va rs.length vc) rs.length (rs.map bv) (by simp [Act.eval]) hown.out (.slice none 0 0) 0 [] (by simp [Act.eval]) hsrc.out hnl.out h1c.out hm1h.out (by omega) (Nat.zero_le _) ?_; intro v' w2 hown2 hgrow2 hat2; obtain ⟨P2, RO⟩ := pushed (k := 0) (l := []) H1.out H2.out H3.out H4.out hgrow2 hown2 hat2 HRS.out rfl HK.out (Nat.le_refl _) (fun _ => rfl); obtain ⟨-, -, -, -, -, -, g6, -, -, -, fz2⟩ := ten P2; have f62 := fz2 6; obtain ⟨xa, xc, rfl⟩ := own_slice hown2; have ROh := Lib.hid RO; clear hown2 hgrow2 hat2 P2 fz2 RO)
  all_goals
    go_wp2_with fail
    go_ret
    exact ⟨rfl, ROh.out.after k1⟩

theorem rest_any (w : World) (p : Nat) (S T : List Nat) (st : CS) (a : Option Addr) (c : Nat) (l : List UInt8) (hl : l.length ≤ 1152921504) (hc : l.length ≤ c) (h4 : st.hand.length < 4 → l = []) (ok : Hid st.Ok)
    (hb : Hid (Src w (.slice a l.length c) l T)) (hT : Hid (∀ k ∈ T, k ∉ S)) (h : Hid (Ct w p S st)) :
    Calls Try.prog 26 #[.pointer (some ⟨p, 0, none⟩), .slice a l.length c] w fun e w' => e = .returned (.int .i64 (st.restK l)) ∧ RestOut w p S (st.rested l) w' := by
  cases a with
  | some ad => exact rest_some w p S T st ad c l hl hc h4 ok hb hT h
  | none =>
    obtain ⟨a', c', e1, h2, -⟩ := hb.out
    have e2 : (none : Option Addr) = a' ∧ c = c' := by simpa using e1
    obtain ⟨rfl, rfl⟩ := e2
    obtain ⟨rfl, rfl⟩ := h2 rfl
    have hk : st.restK [] = 0 := by show min 0 st.want = 0; omega
    rw [hk]
    exact rest_none w p S st ok h
end Cut
end Go.Proofs.Ytgdaiajjnfnomaa
