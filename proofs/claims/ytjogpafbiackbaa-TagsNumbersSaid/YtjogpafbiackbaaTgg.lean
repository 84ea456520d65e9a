/- tags: cutFirst. -/
import Derived.Test.YtjogpafbiackbaaTgf
namespace Go.Proofs.Ytjogpafbiackbaa
set_option linter.unusedVariables false
open Go.RowKit
namespace Tg
open Go.Proofs.Ytjogpafbiackbaa.Mpf Go.PlainAid

theorem setCells_after {g : Nat} {t : TypeId} : ∀ (vs : List Value) (o : Nat) (w : World) (cs : Array Value), w.heap[g]? = some (.cells cs t (0, 0)) →
    ∃ cs', (w.setCells g o vs).heap[g]? = some (.cells cs' t (0, 0)) ∧ cs'.size = cs.size ∧ (∀ i, o + vs.length ≤ i → cs'[i]? = cs[i]?) ∧ Kept [g] w (w.setCells g o vs)
  | [], o, w, cs, h => ⟨cs, h, rfl, fun _ _ => rfl, Kept.refl _ _⟩
  | v :: r, o, w, cs, h => by
    have h1 := heap_set (i := o) v h
    obtain ⟨cs', h2, h3, h4, k⟩ := setCells_after r (o + 1) (w.setCell ⟨g, o, none⟩ v) _ h1
    refine ⟨cs', h2, by rw [h3]; simp, fun i hi => ?_, ((Kept.refl [g] w).setCell (Or.inl (by simp)) v).trans k (fun i hi => Or.inl hi)⟩
    simp only [List.length_cons] at hi
    rw [h4 i (by omega), Array.getElem?_setIfInBounds, if_neg (by omega)]
section
variable {Ba : Nat} {w : World} {p rm gm : Nat} {s : Value} {nR : Nat} {T : TS}
def TS.cut (T : TS) : TS := { T with row := T.row.drop 1 }
/-- What 'cutFirst' leaves. -/
theorem cut_done {g o n cap : Nat} (h : TBx Ba w p rm gm (.slice (some ⟨g, o, none⟩) n cap) nR T) {e : Rep} {q : List Rep} (hrow : T.row = e :: q) {w4 : World} {S : List Nat} (K : Kept S w w4) (hS : ∀ i ∈ S, i = g) {cur cur' : Array Value}
    (h1 : n ≤ cap) (h2 : cap ≤ maxLen) (h3 : o + cap * 38 ≤ cur.size) (h4 : ∀ j v, (rowC (e :: q))[j]? = some v → cur[o + j]? = some v) (hg : w4.heap[g]? = some (.cells cur' 84 (0, 0))) (hs : cur'.size = cur.size) (ha : ∀ i, o + 38 ≤ i → cur'[i]? = cur[i]?) (hn : n = q.length + 1) (s' : Value)
    (hs' : s' = .slice (some ⟨g, o + 38, none⟩) q.length (cap - 1) ∨ (s' = .slice (some ⟨g, o, none⟩) q.length 0 ∧ q.length = 0)) {w6 : World} {B0 : Nat} (k6 : Kept [B0] (w4.setCell ⟨p, 4, none⟩ s') w6) (hB0 : w.heap.size ≤ B0) : TB Ba w6 p T.cut ∧ KT Ba w w6 := by
  have gp := h.sp g rfl
  have grm := h.srm g rfl
  have ggm := h.sgm g rfl
  have nS : ∀ i, g ≠ i → i ∉ S := fun i hi hm => hi (hS i hm).symm
  have b4 := h.box.kept K (nS p gp)
  have m4 := h.rmap.kept K (nS rm grm)
  have g4 := h.gmap.kept K (nS gm ggm)
  have k5 : Kept [p] w4 (w4.setCell ⟨p, 4, none⟩ s') := (Kept.refl _ _).setCell (Or.inl (by simp)) _
  have hg5 : (w4.setCell ⟨p, 4, none⟩ s').heap[g]? = some (.cells cur' 84 (0, 0)) := (k5.block g (block_lt hg) (by simpa using gp)).trans hg
  have n6 : ∀ i, i < w.heap.size → i ∉ [B0] := fun i hi => by simp; omega
  have hg6 : w6.heap[g]? = some (.cells cur' 84 (0, 0)) := (k6.block g (block_lt hg5) (n6 g (h.row.lt g rfl))).trans hg5
  have hO : s'.ownBlock = some g := by rcases hs' with rfl | ⟨rfl, -⟩ <;> rfl
  have e1 : rowC (e :: q) = e.C ++ rowC q := rfl
  have hcut : T.cut.row = q := by unfold TS.cut; rw [hrow]; rfl
  refine ⟨⟨rm, gm, s', nR, ⟨(b4.set 4 s').kept k6 (n6 p h.box.lt), (m4.kept k5 (by simpa using fun e => h.prm e.symm)).kept k6 (n6 rm h.rmap.lt), (g4.kept k5 (by simpa using fun e => h.pgm e.symm)).kept k6 (n6 gm h.gmap.lt), ?_, h.ne, h.hp, h.hr, h.hg, fun g' hg' => ?_⟩⟩, h.kt (((K.mono (T := B0 :: p :: S) (fun i hi => Or.inl (by simp [hi]))).trans k5 (by simp)).trans k6 (by simp)) (fun i hi => ?_)⟩
  · rw [hcut]
    rcases hs' with rfl | ⟨rfl, h0⟩
    · refine Or.inr ⟨g, o + 38, cap - 1, cur', rfl, hg6, by omega, by omega, by omega, fun j v hv => ?_⟩
      rw [ha _ (by omega), Nat.add_assoc]
      refine h4 (38 + j) v ?_
      rw [e1, List.getElem?_append_right (by rw [Rep.C_length]; omega), Rep.C_length, Nat.add_sub_cancel_left]
      exact hv
    · have : q = [] := List.eq_nil_of_length_eq_zero h0
      subst this
      exact Or.inr ⟨g, o, 0, cur', rfl, hg6, Nat.le_refl _, Nat.zero_le _, by omega, fun j v hv => by simp [rowC] at hv⟩
  · rw [hO] at hg'
    cases hg'
    exact h.hs g rfl
  · simp only [List.mem_cons] at hi
    rcases hi with rfl | rfl | hi
    · exact Or.inr (Or.inr (Or.inr (Or.inr hB0)))
    · exact Or.inl rfl
    · exact Or.inr (Or.inr (Or.inr (Or.inl (by rw [hS i hi]; rfl))))
set_option maxHeartbeats 4000000 in
set_option maxRecDepth 100000 in
theorem cutFirst_any (h : TB Ba w p T) (e : Rep) (q : List Rep) (hrow : T.row = e :: q) :
    Calls Try.prog 28 #[.pointer (some ⟨p, 0, none⟩)] w fun r w' => r = .returned (.agg e.C.toArray) ∧ TB Ba w' p T.cut ∧ KT Ba w w' := by
  obtain ⟨rm, gm, s, nR, h⟩ := h
  have hr := h.row
  rw [hrow] at hr
  rcases hr with ⟨-, hn⟩ | ⟨g, o, cap, cur, rfl, hg, hc1, hc2, hc3, hc4⟩
  · cases hn
  have gp := h.sp g rfl
  have grm := h.srm g rfl
  have ggm := h.sgm g rfl
  obtain ⟨n, hn⟩ : ∃ n, n = (e :: q).length := ⟨_, rfl⟩
  have hn1 : n = q.length + 1 := by rw [hn]; simp
  have dn : (0 : Int) < (n : Int) := by omega
  rw [← hn] at hc1 h
  have d1 : (1 : Int) ≤ (n : Int) := by omega
  have d2 : (n : Int) ≤ (cap : Int) := by omega
  obtain ⟨E, hE⟩ : ∃ E, E = e.C.toArray := ⟨_, rfl⟩
  obtain ⟨Z, hZ⟩ : ∃ Z : Array Value, Z = #[.int .u8 0, .int .u16 0, .int .u32 0, .string ⟨#[]⟩, .int .u32 0, .string ⟨#[]⟩, .string ⟨#[]⟩, .string ⟨#[]⟩, .int .u16 0, .int .u32 0, .int .u32 0, .slice none 0 0, .slice none 0 0, .int .u8 0, .int .u32 0, .int .u64 0, .int .u8 0, .int .u32 0, .string ⟨#[]⟩, .int .u32 0, .int .u64 0, .int .u32 0, .slice none 0 0, .int .u16 0, .int .u32 0, .int .u8 0, .int .u32 0, .int .u64 0, .int .u32 0, .int .u32 0, .int .u32 0, .int .u64 0, .string ⟨#[]⟩, .string ⟨#[]⟩, .string ⟨#[]⟩, .string ⟨#[]⟩, .int .i64 0, .bool false] := ⟨_, rfl⟩
  have ES : Hid (E.size = 38 ∧ E.all (·.oneCell') = true ∧ E.toList = e.C) := by rw [hE]; exact ⟨rfl, by simp [Rep.C, Rep.V, msgC, Value.oneCell'], rfl⟩
  have ZS : Hid (Z.size = 38 ∧ Z.all (·.oneCell') = true) := by rw [hZ]; exact ⟨rfl, by simp [Value.oneCell']⟩
  have HZ := Lib.hid hZ
  have HE := Lib.hid hE
  have RA : Hid (∀ w' : World, w'.heap[g]? = some (.cells cur 84 (0, 0)) → w'.rangeAt g o E.toList) := fun w' hb j v hv => by
    rw [cell_of_row w' g (o + j) cur _ (0, 0) hb]
    refine hc4 j v ?_
    rw [ES.out.2.2] at hv
    have e1 : rowC (e :: q) = e.C ++ rowC q := rfl
    rw [e1, List.getElem?_append_left (List.getElem?_eq_some_iff.1 hv).1]
    exact hv
  have TH : Hid (∀ w' : World, w'.heap[g]? = some (.cells cur 84 (0, 0)) → w'.there g o Z.size) := fun w' hb j hj => by
    rw [ZS.out.1] at hj
    refine ⟨?_, by simp [World.frozen?, hb]⟩
    rw [cell_of_row w' g (o + j) cur _ (0, 0) hb, Array.getElem?_eq_getElem (by omega)]
    rfl
  have A1 : Hid (Bx (w.alloc (.cells Z 84)) w.heap.size 84 Z) := Bx.made _ _ _
  have A2 : Hid (Bx ((w.alloc (.cells Z 84)).alloc (.cells Z 84)) (w.heap.size + 1) 84 Z) := by
    have := Bx.made (w.alloc (.cells Z 84)) 84 Z
    rwa [World.size_alloc] at this
  have G1 : Hid ((w.alloc (.cells Z 84)).heap[g]? = some (.cells cur 84 (0, 0))) := (Below.heap_alloc _ _ _ (block_lt hg)).trans hg
  have K2 : Hid (Kept [] w ((w.alloc (.cells Z 84)).alloc (.cells Z 84))) := ((Kept.refl _ _).alloc _).alloc _
  have GL := block_lt hg
  have HTB := Lib.hid h
  have c4a := (h.kept0 ((Kept.refl [] w).alloc (.cells Z 84))).box.cell 4 (v := .slice (some ⟨g, o, none⟩) n cap) rfl
  rw [hZ] at c4a
  have HGL := Lib.hid GL
  have HPL : Hid (p < w.heap.size) := h.box.lt
  have HN := Lib.hid hn1
  have HGP : Hid (g ≠ p) := gp
  have DONE : Hid (∀ (w3 w4 : World) (cur' : Array Value) (s' : Value), Kept [] w w3 → Kept [g] w3 w4 → w4.heap[g]? = some (.cells cur' 84 (0, 0)) → cur'.size = cur.size → (∀ i, o + 38 ≤ i → cur'[i]? = cur[i]?) → (s' = .slice (some ⟨g, o + 38, none⟩) q.length (cap - 1) ∨ (s' = .slice (some ⟨g, o, none⟩) q.length 0 ∧ q.length = 0)) → ∀ w6, Kept [w.heap.size] (w4.setCell ⟨p, 4, none⟩ s') w6 → TB Ba w6 p T.cut ∧ KT Ba w w6) :=
    fun w3 w4 cur' s' k1 k2 a1 a2 a3 a4 w6 k6 => cut_done h hrow ((k1.mono (T := [g]) (fun i hi => by cases hi)).trans k2 (fun i hi => Or.inl hi)) (fun i hi => by simpa using hi) hc1 hc2 hc3 hc4 a1 a2 a3 hn1 s' a4 k6 (Nat.le_refl _)
  clear hE hZ h hg hc4 GL hrow hn hn1 hc1 hc2 hc3 gp grm ggm
  go_enter Try.func28, Try.ntmps28
  go_wp2_with (first | (refine wpList_load_mid rfl 84 (.tmp 8) rfl g o rfl E.toList _ (RA.out _ (by rw [← HZ.out]; exact G1.out)) Try.underlying84 rfl (by rw [Array.length_toList, ES.out.1]; exact size_rep) ?_; rw [Array.toArray_toList]) | (refine wpList_srep rfl (.tmp 3) (.tmp 9) rfl (w.heap.size + 1) rfl Z E rfl (by rw [← HZ.out]; exact A2.out) ZS.out.1 ES.out.1 ES.out.2.1 ?_; intro w3 b3' k3'; rw [← HZ.out] at k3'; have K3 : Hid (Kept [] w w3) := K2.out.trans k3' (fun i hi => Or.inr (by simp at hi; omega)); have G3 : Hid (w3.heap[g]? = some (.cells cur 84 (0, 0))) := (k3'.block g (by have := HGL.out; simp; omega) (by have := HGL.out; simp; omega)).trans ((Below.heap_alloc _ _ _ (by have := HGL.out; simp; omega)).trans G1.out); have A3 : Hid (Bx w3 w.heap.size 84 Z) := (A1.out.alloc _).kept k3' (by simp); have B3 := Lib.hid b3'; have c4b := (HTB.out.kept0 K3.out).box.cell 4 (v := .slice (some ⟨g, o, none⟩) n cap) rfl; clear b3' k3' K2 A1 A2 G1 RA c4a) | (refine wpList_store_mid rfl 84 (.tmp 15) (.tmp 14) rfl g o Z rfl (by rw [HZ.out]; rfl) (TH.out _ G3.out) (by rw [ZS.out.1]; exact size_rep) ZS.out.2 ?_; obtain ⟨cur', hg', hs', ha', k4'⟩ := setCells_after Z.toList o w3 cur G3.out; obtain ⟨w4, hw4⟩ : ∃ w4, w4 = w3.setCells g o Z.toList := ⟨_, rfl⟩; rw [← hw4] at hg' k4' ⊢; have G4 := Lib.hid hg'; have S4 := Lib.hid hs'; have H4 : Hid (∀ i, o + 38 ≤ i → cur'[i]? = cur[i]?) := fun i hi => ha' i (by rw [Array.length_toList, ZS.out.1]; exact hi); have K4 := Lib.hid k4'; have A4 : Hid (Bx w4 w.heap.size 84 Z) := A3.out.kept k4' (by have := HGL.out; simp; omega); have B4 : Hid (Bx w4 (w.heap.size + 1) 84 E) := B3.out.kept k4' (by have := HGL.out; simp; omega); have b4t := ((HTB.out.kept0 K3.out).box).kept k4' (by simpa using HGP.out.symm); have c4c := b4t.cell 4 (v := .slice (some ⟨g, o, none⟩) n cap) rfl; have f4c := b4t.frozen 4; clear hw4 hg' hs' ha' k4' b4t A3 B3 G3 TH c4b) | (refine wpList_lrep rfl (.tmp 3) rfl (w.heap.size + 1) E ES.out.1 (B4.out.other (by have := HPL.out; simp; omega) _) rfl ?_) | (refine wpList_srep rfl (.tmp 2) (.tmp 24) rfl w.heap.size rfl Z E rfl (A4.out.other (by have := HPL.out; simp; omega) _) ZS.out.1 ES.out.1 ES.out.2.1 ?_; intro w6 b6 k6))
  all_goals
    have hl := run_loadVar_row (P := Try.prog) w6 w.heap.size 84 84 _ (0, 0) _ b6 Try.underlying84 rfl (by rw [ES.out.1]; exact size_rep)
    have e1 : n - 1 = q.length := by have := HN.out; omega
    refine bodyPost_ret (v := .agg E) (by simp [results, Try.results28, asAddr, hl]) rfl ⟨by rw [HE.out], ?_⟩
    rw [e1] at k6
    by_cases hc : cap = 1
    · simp only [if_pos hc] at k6
      have e2 : cap - 1 = 0 := by omega
      rw [e2] at k6
      exact DONE.out w3 w4 cur' _ K3.out K4.out G4.out S4.out H4.out (Or.inr ⟨rfl, by omega⟩) w6 k6
    · simp only [if_neg hc] at k6
      exact DONE.out w3 w4 cur' _ K3.out K4.out G4.out S4.out H4.out (Or.inl rfl) w6 k6
end
end Tg
end Go.Proofs.Ytjogpafbiackbaa
