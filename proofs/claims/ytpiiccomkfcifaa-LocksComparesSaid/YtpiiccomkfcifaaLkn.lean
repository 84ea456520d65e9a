/- locks: next: those at a queue's front who can have the lock. -/
import Derived.Test.YtpiiccomkfcifaaLkt
namespace Go.Proofs.Ytpiiccomkfcifaa
set_option linter.unusedVariables false
open Go.RowKit
namespace Lk
open Go.Proofs.Ytpiiccomkfcifaa.Mpf Go.PlainAid

/-- Whether the lock is held alone; who holds it; how many. -/
abbrev St := Bool × (Nat → Option Value) × Nat
def stN (st : St) (x : Nat × Bool) : St := (x.2, upd st.2.1 x.1 (some unitV), if (st.2.1 x.1).isSome then st.2.2 else st.2.2 + 1)
/-- How many are let in. -/
def admN : St → List (Nat × Bool) → Nat
  | _, [] => 0
  | st, x :: q => if admB st.1 st.2.2 x.2 = true then admN (stN st x) q + 1 else 0
def aftN (st : St) (q : List (Nat × Bool)) : St := q.foldl stN st
theorem admN_le : ∀ (q : List (Nat × Bool)) (st : St), admN st q ≤ q.length
  | [], st => Nat.le_refl _
  | x :: q, st => by
    unfold admN
    split
    · have := admN_le q (stN st x); simp; omega
    · simp
theorem aft_succ (st : St) {q : List (Nat × Bool)} {j : Nat} (h : j < q.length) : aftN st (q.take (j + 1)) = stN (aftN st (q.take j)) q[j] := by
  unfold aftN
  rw [List.take_succ_eq_append_getElem h, List.foldl_append]
  rfl
theorem drop_cons {q : List (Nat × Bool)} {j : Nat} (h : j < q.length) : q.drop j = q[j] :: q.drop (j + 1) := List.drop_eq_getElem_cons h
/-- Cells of a row. -/
theorem cell_two {w : World} {g o : Nat} {cur : Array Value} {q : List (Nat × Bool)} {t : TypeId} (hg : w.heap[g]? = some (.cells cur t (0, 0))) (hc : ∀ (j : Nat) (v : Value), (aC q)[j]? = some v → cur[o + j]? = some v) {j : Nat} (h : j < q.length) :
    w.cell? ⟨g, o + j * 2, none⟩ = some (.int .i64 q[j].1) ∧ w.cell? ⟨g, o + j * 2 + 1, none⟩ = some (.bool q[j].2) := by
  obtain ⟨h1, h2⟩ := aC_get q j q[j] (List.getElem?_eq_getElem h)
  refine ⟨?_, ?_⟩
  · rw [cell_of_row w g _ cur t (0, 0) hg, Nat.mul_comm]; exact hc _ _ h1
  · rw [cell_of_row w g _ cur t (0, 0) hg, Nat.mul_comm]; exact hc _ _ h2
theorem aC_take (q : List (Nat × Bool)) (m : Nat) : ∀ (j : Nat) (v : Value), (aC (q.take m))[j]? = some v → (aC q)[j]? = some v := fun j v h => by
  have e : aC q = aC (q.take m) ++ aC (q.drop m) := by rw [← aC_append, List.take_append_drop]
  rw [e, List.getElem?_append_left (List.getElem?_eq_some_iff.1 h).1]
  exact h
theorem aC_drop (q : List (Nat × Bool)) (m : Nat) (hm : m ≤ q.length) : ∀ (j : Nat) (v : Value), (aC (q.drop m))[j]? = some v → (aC q)[m * 2 + j]? = some v := fun j v h => by
  have e : aC q = aC (q.take m) ++ aC (q.drop m) := by rw [← aC_append, List.take_append_drop]
  have hl : (aC (q.take m)).length = m * 2 := by rw [aC_length, List.length_take, Nat.min_eq_left hm]
  rw [e, List.getElem?_append_right (by omega), hl, Nat.add_sub_cancel_left]
  exact h
theorem ro_take {w : World} {g o cap : Nat} {cur : Array Value} {q : List (Nat × Bool)} (hg : w.heap[g]? = some (.cells cur 95 (0, 0))) (h1 : q.length ≤ cap) (h2 : cap ≤ maxLen) (h3 : o + cap * 2 ≤ cur.size) (hc : ∀ (j : Nat) (v : Value), (aC q)[j]? = some v → cur[o + j]? = some v) {m : Nat} (hm : m ≤ q.length) :
    Ro w (.slice (some ⟨g, o, none⟩) m m) (q.take m) :=
  Or.inr ⟨g, o, m, cur, by rw [List.length_take, Nat.min_eq_left hm], hg, by rw [List.length_take]; omega, by omega, by omega, fun j v h => hc j v (aC_take q m j v h)⟩
theorem ro_drop {w : World} {g o cap : Nat} {cur : Array Value} {q : List (Nat × Bool)} (hg : w.heap[g]? = some (.cells cur 95 (0, 0))) (h1 : q.length ≤ cap) (h2 : cap ≤ maxLen) (h3 : o + cap * 2 ≤ cur.size) (hc : ∀ (j : Nat) (v : Value), (aC q)[j]? = some v → cur[o + j]? = some v) {m : Nat} (hm : m ≤ q.length) :
    Ro w (.slice (some ⟨g, o + m * 2, none⟩) (q.length - m) (cap - m)) (q.drop m) :=
  Or.inr ⟨g, o + m * 2, cap - m, cur, by rw [List.length_drop], hg, by rw [List.length_drop]; omega, by omega, by omega, fun j v h => by
    rw [Nat.add_assoc]
    exact hc _ v (aC_drop q m hm j v h)⟩
theorem ro_end {w : World} {g o cap : Nat} {cur : Array Value} {q : List (Nat × Bool)} (hg : w.heap[g]? = some (.cells cur 95 (0, 0))) (h3 : o + cap * 2 ≤ cur.size) {m : Nat} (hm : q.length ≤ m) :
    Ro w (.slice (some ⟨g, o, none⟩) (q.length - m) 0) (q.drop m) := by
  have e : q.drop m = [] := List.drop_of_length_le hm
  rw [e, show q.length - m = 0 by omega]
  exact Or.inr ⟨g, o, 0, cur, rfl, hg, Nat.le_refl _, Nat.zero_le _, by omega, fun j v h => by simp [aC] at h⟩
/-- What next does. -/
def NextOut (w : World) (k bm : Nat) (st : St) (s : Value) (q : List (Nat × Bool)) (e : Ending) (w' : World) : Prop :=
  ∃ s1 s2, e = .returned s1 ∧ Ro w' s1 (q.take (admN st q)) ∧ Ro w' s2 (q.drop (admN st q)) ∧ Bx w' k 74 #[.bool (aftN st (q.take (admN st q))).1, .map (some bm), s2] ∧ Mp IK w' bm (aftN st (q.take (admN st q))).2.2 (aftN st (q.take (admN st q))).2.1 ∧ Kept [k, bm] w w' ∧ s2.ownBlock = s.ownBlock ∧ s1.ownBlock = s.ownBlock
/-- The loop's state. -/
structure NxI (w wr : World) (k bm : Nat) (st : St) (s : Value) (q : List (Nat × Bool)) (j : Nat) : Prop where
  le : j ≤ q.length
  adm : admN (aftN st (q.take j)) (q.drop j) + j = admN st q
  box : Bx wr k 74 #[.bool (aftN st (q.take j)).1, .map (some bm), s]
  map : Mp IK wr bm (aftN st (q.take j)).2.2 (aftN st (q.take j)).2.1
  kept : Kept [k, bm] w wr
set_option maxHeartbeats 4000000 in
set_option maxRecDepth 100000 in
theorem next_any {w : World} {k bm : Nat} {st : St} {s : Value} {q : List (Nat × Bool)} (hk : Bx w k 74 #[.bool st.1, .map (some bm), s]) (hm : Mp IK w bm st.2.2 st.2.1) (hr : Ro w s q) (hq : q.length ≤ 1000) (hw : ∀ x ∈ q, x.1 < 9223372036854775808) :
    Calls Try.prog 64 #[.pointer (some ⟨k, 0, none⟩)] w (NextOut w k bm st s q) := by
  have hne : bm ≠ k := Mp.ne hm hk
  rcases hr with ⟨rfl, rfl⟩ | ⟨g, o, cap, cur, rfl, hg, hc1, hc2, hc3, hc4⟩
  · have c2 := hk.cell 2 (v := .slice none 0 0) rfl
    have f2 := hk.frozen 2
    have B2 : Hid (Bx (w.setCell ⟨k, 2, none⟩ (.slice none 0 0)) k 74 #[.bool st.1, .map (some bm), .slice none 0 0]) := Bx.set hk 2 _
    have M2 : Hid (Mp IK (w.setCell ⟨k, 2, none⟩ (.slice none 0 0)) bm st.2.2 st.2.1) := hm.setCell (a := ⟨k, 2, none⟩) (fun e => hne e.symm) _
    have K2 : Hid (Kept [k, bm] w (w.setCell ⟨k, 2, none⟩ (.slice none 0 0))) := (Kept.refl _ w).setCell (p := ⟨k, 2, none⟩) (Or.inl (by simp)) _
    clear hm hk hw hne hq
    go_enter Try.func64, Try.ntmps64
    go_wp2_with fail
    go_loopw [3] (fun iv wr => iv = .int .i64 0 ∧ w = wr) (fun iv _ => 0)
    case atStart => exact ⟨rfl, rfl⟩
    case round =>
      obtain ⟨rfl, rfl⟩ := hrel
      go_wp2_with fail
      go_ret
      exact ⟨_, _, rfl, Ro.nil _, Ro.nil _, B2.out, M2.out, K2.out, rfl, rfl⟩
  · have hgk : g ≠ k := fun e => by
      subst e
      exact (Bx.type_ne (A := g) (B := g) (t := 95) (u := 74) hg hk (by decide)) rfl
    have hgm : g ≠ bm := fun e => by
      subst e
      exact hm.ne hg rfl
    have HG : Hid (∀ wr, Kept [k, bm] w wr → wr.heap[g]? = some (.cells cur 95 (0, 0))) := fun wr kk => (kk.block g (block_lt hg) (by simp [hgk, hgm])).trans hg
    have HC : Hid (q.length ≤ cap ∧ cap ≤ maxLen ∧ o + cap * 2 ≤ cur.size ∧ ∀ j v, (aC q)[j]? = some v → cur[o + j]? = some v) := ⟨hc1, hc2, hc3, hc4⟩
    have I0 : Hid (NxI w w k bm st (.slice (some ⟨g, o, none⟩) q.length cap) q 0) := ⟨Nat.zero_le _, rfl, hk, hm, Kept.refl _ w⟩
    have HW := Lib.hid hw
    have HNE := Lib.hid hne
    have hcm : cap ≤ 9223372036854775807 := by unfold maxLen at hc2; omega
    have CELL : Hid (∀ wr, Kept [k, bm] w wr → ∀ j (h : j < q.length), wr.cell? ⟨g, o + j * 2, none⟩ = some (.int .i64 q[j].1) ∧ wr.cell? ⟨g, o + j * 2 + 1, none⟩ = some (.bool q[j].2)) := fun wr kk j h => cell_two (HG.out wr kk) hc4 h
    clear hm hk hw hne hgk hgm hg hc2 hc3 hc4
    go_enter Try.func64, Try.ntmps64
    go_wp2_with fail
    go_loopw [3] (fun iv wr => ∃ j : Nat, iv = .int .i64 j ∧ j ≤ q.length ∧ Hid (NxI w wr k bm st (.slice (some ⟨g, o, none⟩) q.length cap) q j)) (fun iv _ => q.length - (intOf iv).toNat)
    case atStart => exact ⟨0, rfl, Nat.zero_le _, I0⟩
    case round =>
      obtain ⟨j, rfl, hj, IJ⟩ := hrel
      have d2 := IJ.out.box.cell 2 (v := .slice (some ⟨g, o, none⟩) q.length cap) rfl
      have z2 := IJ.out.box.frozen 2
      have FIN : Hid (∀ wy, Kept [] wr wy → admN (aftN st (q.take j)) (q.drop j) = 0 → ∀ s2, s2.ownBlock = some g → (∀ w', w'.heap[g]? = some (.cells cur 95 (0, 0)) → Ro w' s2 (q.drop j)) → NextOut w k bm st (.slice (some ⟨g, o, none⟩) q.length cap) q (.returned (.slice (some ⟨g, o, none⟩) j j)) (wy.setCell ⟨k, 2, none⟩ s2)) := fun wy ky h0 s2 hs2 hr2 => by
        have e : admN st q = j := by have := IJ.out.adm; omega
        have KK : Kept [k, bm] w (wy.setCell ⟨k, 2, none⟩ s2) := (IJ.out.kept.trans ky (fun i hi => by cases hi)).setCell (p := ⟨k, 2, none⟩) (Or.inl (by simp)) _
        obtain ⟨a1, a2, a3, a4⟩ := HC.out
        refine ⟨_, s2, rfl, ?_, ?_, ?_, ?_, KK, hs2, rfl⟩
        · rw [e]; exact ro_take (HG.out _ KK) a1 a2 a3 a4 hj
        · rw [e]; exact hr2 _ (HG.out _ KK)
        · rw [e]; exact Bx.set (IJ.out.box.kept ky (by simp)) 2 _
        · rw [e]; exact (IJ.out.map.kept ky (by simp)).setCell (a := ⟨k, 2, none⟩) (fun e => HNE.out e.symm) _
      have FA : Hid (∀ wy, Kept [] wr wy → admN (aftN st (q.take j)) (q.drop j) = 0 → NextOut w k bm st (.slice (some ⟨g, o, none⟩) q.length cap) q (.returned (.slice (some ⟨g, o, none⟩) j j)) (wy.setCell ⟨k, 2, none⟩ (.slice (some ⟨g, o + j * 2, none⟩) (q.length - j) (cap - j)))) := fun wy ky h0 =>
        FIN.out wy ky h0 _ rfl (fun w' hg' => ro_drop hg' HC.out.1 HC.out.2.1 HC.out.2.2.1 HC.out.2.2.2 hj)
      have FB : Hid (∀ wy, Kept [] wr wy → cap ≤ j → admN (aftN st (q.take j)) (q.drop j) = 0 → NextOut w k bm st (.slice (some ⟨g, o, none⟩) q.length cap) q (.returned (.slice (some ⟨g, o, none⟩) j j)) (wy.setCell ⟨k, 2, none⟩ (.slice (some ⟨g, o, none⟩) (q.length - j) 0))) := fun wy ky hc h0 =>
        FIN.out wy ky h0 _ rfl (fun w' hg' => ro_end hg' HC.out.2.2.1 (by have := HC.out.1; omega))
      clear FIN
      by_cases hlt : j < q.length
      · have j1 : (j : Int) < (q.length : Int) := by omega
        obtain ⟨y0, y1⟩ := CELL.out wr IJ.out.kept j hlt
        obtain ⟨⟨x, b⟩, hx⟩ : ∃ x, x = q[j] := ⟨_, rfl⟩
        have hdr := drop_cons hlt
        rw [← hx] at y0 y1 hdr
        simp only at y0 y1
        have hx63 : x < 9223372036854775808 := HW.out (x, b) (hx ▸ List.getElem_mem hlt)
        have hst := aft_succ st hlt
        rw [← hx] at hst
        obtain ⟨⟨al, F, n⟩, hs⟩ : ∃ y, y = aftN st (q.take j) := ⟨_, rfl⟩
        have ADM := Lib.hid (fun (w' : World) (kk : Kept [] wr w') => admits_any (w := w') (IJ.out.box.kept kk (by simp)) (IJ.out.map.kept kk (by simp)) x b)
        rw [← hs] at ADM hst FA FB
        simp only at ADM
        have HST := Lib.hid hst
        have HS := Lib.hid hs
        have HDR := Lib.hid hdr
        cases hab : admB al n b with
        | false =>
          have H0 : Hid (admN (al, F, n) (q.drop j) = 0) := by
            show _ = _
            rw [HDR.out]; unfold admN; rw [if_neg (by rw [hab]; simp)]
          rw [hab] at ADM
          clear hst hs hdr hab
          go_wp2_with (go_at_call 73; refine (ADM.out _ ?kk).mono ?_; (case kk => exact (Kept.refl [] wr)); rintro e w2 ⟨rfl, k2⟩; have d2' := (IJ.out.box.kept k2 (by simp)).cell 2 (v := .slice (some ⟨g, o, none⟩) q.length cap) rfl; have z2' := (IJ.out.box.kept k2 (by simp)).frozen 2; have K2 := Lib.hid k2; clear k2)
          all_goals go_ret
          all_goals first
            | exact FA.out _ K2.out H0.out
            | exact FB.out _ K2.out (Nat.le_refl _) H0.out
            | exact FB.out _ K2.out (by omega) H0.out
        | true =>
          have H0 : Hid (admN (al, F, n) (q.drop j) = admN (stN (al, F, n) (x, b)) (q.drop (j + 1)) + 1) := by
            show _ = _
            rw [HDR.out]
            conv => lhs; unfold admN
            rw [if_pos (by rw [hab])]
          rw [hab] at ADM
          clear hst hs hdr hab
          clear FA FB
          go_wp2_with (go_at_call 73; refine (ADM.out _ ?kk).mono ?_; (case kk => exact (Kept.refl [] wr)); rintro e w2 ⟨rfl, k2⟩; have d2' := (IJ.out.box.kept k2 (by simp)).cell 2 (v := .slice (some ⟨g, o, none⟩) q.length cap) rfl; have d1' := (IJ.out.box.kept k2 (by simp)).cell 1 (v := .map (some bm)) rfl; have K2 := Lib.hid k2; obtain ⟨y0', y1'⟩ := CELL.out w2 (IJ.out.kept.trans k2 (fun i hi => by cases hi)) j hlt; rw [← hx] at y0' y1'; simp only at y0' y1'; obtain ⟨w3, hU, M3, k3, -⟩ := ((IJ.out.map.kept k2 (by simp)).drew).update Try.underlying71 (x := x) hx63 unitV; have K3 := Lib.hid k3; have HM3 := Lib.hid M3; clear k2 k3 M3)
          have hU2 : (Instr.mapUpdate 71 (.map (some bm)) (.int .i64 x) (.agg #[])).run Try.prog w2.drew = .ok () w3 := hU
          have K23 : Hid (Kept [bm] w2 w3) := (Kept.refl [bm] w2).drew.trans K3.out (fun i hi => Or.inl hi)
          have KW3 : Hid (Kept [k, bm] w w3) := (IJ.out.kept.trans K2.out (fun i hi => by cases hi)).trans K23.out (fun i hi => Or.inl (by simp at hi; simp [hi]))
          have B3 : Hid (Bx w3 k 74 #[.bool al, .map (some bm), .slice (some ⟨g, o, none⟩) q.length cap]) := by
            have := ((IJ.out.box.kept K2.out (by simp)).kept K23.out (by simp; exact fun e => HNE.out e.symm))
            rw [← HS.out] at this
            exact this
          obtain ⟨y0'', y1''⟩ := CELL.out w3 KW3.out j hlt
          rw [← hx] at y0'' y1''
          simp only at y0'' y1''
          have d0'' := B3.out.cell 0 (v := .bool al) rfl
          have d2'' := B3.out.cell 2 (v := .slice (some ⟨g, o, none⟩) q.length cap) rfl
          have z0'' := B3.out.frozen 0
          have NX : Hid (NxI w (w3.setCell ⟨k, 0, none⟩ (.bool b)) k bm st (.slice (some ⟨g, o, none⟩) q.length cap) q (j + 1)) := by
            refine ⟨by omega, ?_, ?_, ?_, KW3.out.setCell (p := ⟨k, 0, none⟩) (Or.inl (by simp)) _⟩
            · have h1 := IJ.out.adm
              rw [← HS.out, H0.out] at h1
              rw [HST.out]
              omega
            · rw [HST.out]
              exact Bx.set B3.out 0 _
            · rw [HST.out]
              have hm3 := HM3.out
              rw [← HS.out] at hm3
              exact hm3.setCell (a := ⟨k, 0, none⟩) (fun e => HNE.out e.symm) _
          clear ADM hU
          go_region
          go_wp2_with fail
          go_roundw
          case rel => exact ⟨j + 1, by go_num, by omega, NX⟩
          case measure => simp [intOf]; omega
      · have j1 : ¬ (j : Int) < (q.length : Int) := by omega
        have H0 : Hid (admN (aftN st (q.take j)) (q.drop j) = 0) := by
          show _ = _
          rw [List.drop_of_length_le (by omega)]; rfl
        go_wp2_with fail
        all_goals go_ret
        all_goals first
          | exact FA.out _ (Kept.refl [] wr) H0.out
          | exact FB.out _ (Kept.refl [] wr) (Nat.le_refl _) H0.out
          | exact FB.out _ (Kept.refl [] wr) (by omega) H0.out
end Lk
end Go.Proofs.Ytpiiccomkfcifaa
