/- NamesLead: child and leads walked. -/
import Derived.Test.YtjdhgeikbkjnoaaDoorLdm
namespace Go.Proofs.YtjdhgeikbkjnoaaDoor
set_option linter.unusedVariables false
open Go.RowKit Go.Shelf
attribute [local go_sem] Oper.semAt_some
namespace Nm
open Go.Proofs.YtjdhgeikbkjnoaaDoor.Utf Go.Proofs.YtjdhgeikbkjnoaaDoor.Txt Go.PlainAid

/-- A list of numbers that can be read. -/
def LsI (w : World) (v : Value) (xs : List Nat) : Prop :=
  ∃ a c, v = .slice a xs.length c ∧ xs.length ≤ c ∧ (xs = [] ∨ ∃ b o, a = some ⟨b, o, none⟩ ∧ b < w.heap.size ∧ ∀ j (x : Nat), xs[j]? = some x → w.cell? ⟨b, o + j, none⟩ = some (.int .i64 x))
theorem LsI.kept {w w' : World} {v : Value} {xs : List Nat} {S : List Nat} (h : LsI w v xs) (k : Kept S w w') (hd : ∀ a n c, v = .slice (some a) n c → a.block ∉ S) : LsI w' v xs := by
  obtain ⟨a, c, rfl, hc, h⟩ := h
  refine ⟨a, c, rfl, hc, ?_⟩
  rcases h with h | ⟨b, o, rfl, hb, h⟩
  · exact Or.inl h
  · refine Or.inr ⟨b, o, rfl, by have := k.size; omega, fun j x hx => ?_⟩
    have := h j x hx
    have e := k.block b hb (hd _ _ _ rfl)
    unfold World.cell? at this ⊢
    rw [e]
    exact this
/-- The tree in memory. -/
structure TrM (w : World) (vu vn : Value) (us : List Nat) (ns : List ByteArray) : Prop where
  u : LsI w vu us
  n : Lst w vn ns
  t : Tr us ns
theorem TrM.at' {w : World} {vu vn : Value} {us : List Nat} {ns : List ByteArray} (h : TrM w vu vn us ns) : ∃ b o c b' o' c', vu = .slice (some ⟨b, o, none⟩) us.length c ∧ vn = .slice (some ⟨b', o', none⟩) ns.length c' ∧
    (∀ j (hj : j < us.length), w.cell? ⟨b, o + j, none⟩ = some (.int .i64 (us.getD j 0))) ∧ (∀ j (hj : j < us.length), w.cell? ⟨b', o' + j, none⟩ = some (.string (ns.getD j ByteArray.empty))) := by
  obtain ⟨a, c, rfl, hc, hu⟩ := h.u
  obtain ⟨a', c', rfl, hc', hn⟩ := h.n
  have hl := h.t.len
  have hp := h.t.pos
  rcases hu with e | ⟨b, o, rfl, -, g⟩
  · rw [e] at hp; simp at hp
  rcases hn with e | ⟨b', o', rfl, -, g'⟩
  · rw [e] at hl; simp at hl; omega
  exact ⟨b, o, c, b', o', c', rfl, rfl, fun j hj => g j _ (by simp [List.getD, hj]), fun j hj => g' j _ (by simp [List.getD, hl, hj])⟩

set_option maxHeartbeats 8000000 in
set_option maxRecDepth 100000 in
theorem child_any (w : World) (vu vn : Value) (us : List Nat) (ns : List ByteArray) (a : Nat) (x : ByteArray) (h : TrM w vu vn us ns) :
    Calls Tryd.prog 32 #[vu, vn, .int .i64 a, .string x] w fun e w' => e = .returned (.tuple #[.int .i64 ((cd us ns a x).getD 0 : Nat), .bool (cd us ns a x).isSome]) ∧ w' = w := by
  obtain ⟨C, hC⟩ : ∃ C, C = cd us ns a x := ⟨_, rfl⟩
  have HC := Lib.hid hC
  rw [← hC]
  obtain ⟨b, o, c, b', o', c', rfl, rfl, g, g'⟩ := h.at'
  have hlen := h.t.len
  have hlow := h.t.low
  have hpos := h.t.pos
  have G := Lib.hid g
  have G' := Lib.hid g'
  have TT := Lib.hid h.t
  obtain ⟨L2, hL2⟩ : ∃ L, L = ns.length := ⟨_, rfl⟩
  rw [← hL2]
  have HL2 := Lib.hid (hL2.trans hlen)
  have hl2a : L2 ≤ us.length := by omega
  have hl2b : us.length ≤ L2 := by omega
  clear hC h g g' hlen hL2
  go_enter Tryd.func32, Tryd.ntmps32
  go_wp2_with fail
  go_loopw [10] (fun iv wr => ∃ k : Nat, iv = .int .i64 k ∧ 1 ≤ k ∧ k ≤ us.length ∧ wr = w ∧ Hid (cdf us ns a x (us.length - k) k = C)) (fun iv _ => us.length - (intOf iv).toNat)
  case atStart => exact ⟨1, rfl, by omega, by omega, rfl, HC.out.symm⟩
  case round =>
    obtain ⟨k, rfl, hk1, hk, rfl, hF⟩ := hrel
    by_cases hlt : k < us.length
    · have j1 : (k : Int) < (us.length : Int) := by omega
      have cu := G.out k hlt
      have cn := G'.out k hlt
      obtain ⟨u, hu⟩ : ∃ u, u = us.getD k 0 := ⟨_, rfl⟩
      obtain ⟨y, hy⟩ : ∃ y, y = ns.getD k ByteArray.empty := ⟨_, rfl⟩
      rw [← hu] at cu
      rw [← hy] at cn
      have ST : Hid (C = if u = a ∧ y.toList = x.toList then some k else cdf us ns a x (us.length - (k + 1)) (k + 1)) := by
        show _ = _
        rw [← hF.out]
        have e : us.length - k = (us.length - (k + 1)) + 1 := by omega
        rw [e]
        conv => lhs; unfold cdf
        rw [← hu, ← hy]
      clear hu hy hF
      by_cases h1 : u = a
      · have e1 : ((u : Int) == (a : Int)) = true := by rw [beq_iff_eq]; omega
        by_cases h2 : y.toList = x.toList
        · have e2 : (y.toList == x.toList) = true := by rw [beq_iff_eq]; exact h2
          have hc : C = some k := by rw [ST.out, if_pos ⟨h1, h2⟩]
          subst hc
          clear h1 h2
          go_wp2_with fail
          go_ret2
          exact ⟨rfl, rfl⟩
        · have e2 : (y.toList == x.toList) = false := by rw [beq_eq_false_iff_ne]; exact h2
          have hc := Lib.hid (ST.out.trans (if_neg (fun h => h2 h.2)))
          clear h1 h2
          go_wp2_with fail
          go_roundw
          case rel => exact ⟨k + 1, by go_num, by omega, by omega, trivial, hc.out.symm⟩
          case measure => simp [intOf]; omega
      · have e1 : ((u : Int) == (a : Int)) = false := by rw [beq_eq_false_iff_ne]; omega
        have hc := Lib.hid (ST.out.trans (if_neg (fun h => h1 h.1)))
        clear h1
        go_wp2_with fail
        go_roundw
        case rel => exact ⟨k + 1, by go_num, by omega, by omega, trivial, hc.out.symm⟩
        case measure => simp [intOf]; omega
    · have j1 : ¬ (k : Int) < (us.length : Int) := by omega
      have hc : C = none := by
        rw [← hF.out, show us.length - k = 0 by omega]
        rfl
      subst hc
      go_wp2_with fail
      go_ret2
      exact ⟨rfl, rfl⟩

set_option maxHeartbeats 8000000 in
set_option maxRecDepth 100000 in
theorem leads_any (w : World) (vu vn vp : Value) (us : List Nat) (ns ps : List ByteArray) (a : Nat) (h : TrM w vu vn us ns) (hp : Lst w vp ps) (ha : a < us.length) (hl : ps.length ≤ 1073741825) :
    Calls Tryd.prog 16 #[vu, vn, .int .i64 a, vp] w fun e w' => e = .returned (.tuple #[.int .i64 ((lds us ns a ps).getD 0 : Nat), .bool (lds us ns a ps).isSome]) ∧ w' = w := by
  obtain ⟨Z, hZ⟩ : ∃ Z, Z = lds us ns a ps := ⟨_, rfl⟩
  have HZ := Lib.hid hZ
  rw [← hZ]
  have CH := Lib.hid (fun a x => child_any w vu vn us ns a x h)
  obtain ⟨b, o, c, b', o', c', rfl, rfl, g, g'⟩ := h.at'
  have G := Lib.hid g
  have TT := Lib.hid h.t
  obtain ⟨pa, pc, rfl, hpc, hpp⟩ := hp
  have HPP := Lib.hid hpp
  have HA := Lib.hid ha
  have hlow := h.t.low
  obtain ⟨L2, hL2⟩ : ∃ L, L = ns.length := ⟨_, rfl⟩
  rw [← hL2] at CH ⊢
  clear hZ h g g' hpp ha hL2
  go_enter Tryd.func16, Tryd.ntmps16
  go_wp2_with fail
  go_loopw [10, 11] (fun av iv wr => ∃ k q : Nat, iv = .int .i64 k ∧ av = .int .i64 q ∧ k ≤ ps.length ∧ q < us.length ∧ wr = w ∧ Hid (lds us ns q (ps.drop k) = Z)) (fun _ iv _ => ps.length - (intOf iv).toNat)
  case atStart => exact ⟨0, a, rfl, rfl, by omega, HA.out, rfl, HZ.out.symm⟩
  case round =>
    obtain ⟨k, q, rfl, rfl, hk, hq, rfl, hF⟩ := hrel
    by_cases hlt : k < ps.length
    · have j1 : (k : Int) < (ps.length : Int) := by omega
      have j2 : (q : Int) < (us.length : Int) := by omega
      rcases HPP.out with e | ⟨bp, op, rfl, -, gp⟩
      · rw [e] at hlt; simp at hlt
      have cx := gp k _ (List.getElem?_eq_getElem hlt)
      have cu := G.out q hq
      have hdr : ps.drop k = ps[k] :: ps.drop (k + 1) := (List.getElem_cons_drop hlt).symm
      have hF2 := hF.out
      rw [hdr] at hF2
      obtain ⟨x, hx⟩ : ∃ x, x = ps[k] := ⟨_, rfl⟩
      rw [← hx] at cx hF2
      obtain ⟨u, hu⟩ : ∃ u, u = us.getD q 0 := ⟨_, rfl⟩
      rw [← hu] at cu
      have hul : Hid (u < us.length) := by show _ < _; rw [hu]; exact TT.out.all q
      clear gp hx hdr hF
      by_cases h1 : dl x = [46, 46]
      · have e1 : (x.toList == [46, 46]) = true := by rw [beq_iff_eq, toList_dl]; exact h1
        have HF : Hid (lds us ns u (ps.drop (k + 1)) = Z) := by
          simp only [lds, go1_up h1] at hF2
          rw [hu]
          exact hF2
        clear h1 hF2 hu
        go_wp2_with fail
        go_roundw
        case rel => exact ⟨k + 1, u, by go_num, rfl, by omega, hul.out, trivial, HF.out⟩
        case measure => simp [intOf]; omega
      · have e1 : (x.toList == [46, 46]) = false := by rw [beq_eq_false_iff_ne, toList_dl]; exact h1
        simp only [lds, go1_no h1] at hF2
        have CHx := Lib.hid (CH.out q x)
        obtain ⟨D, hD⟩ : ∃ D, D = cd us ns q x := ⟨_, rfl⟩
        rw [← hD] at CHx hF2
        have HD := Lib.hid hD
        clear h1 hu hD cu
        cases D with
        | none =>
          have hz : Z = none := hF2.symm
          subst hz
          clear hF2
          go_wp2_with fail
          refine CHx.out.mono ?_
          rintro e w2 ⟨rfl, rfl⟩
          go_wp2_with fail
          go_ret2
          exact ⟨rfl, rfl⟩
        | some j =>
          have HF : Hid (lds us ns j (ps.drop (k + 1)) = Z) := hF2
          have hjl := Lib.hid (TT.out.cd HD.out.symm).1
          clear hF2
          go_wp2_with fail
          refine CHx.out.mono ?_
          rintro e w2 ⟨rfl, rfl⟩
          go_wp2_with fail
          go_roundw
          case rel => exact ⟨k + 1, j, by go_num, rfl, by omega, hjl.out, trivial, HF.out⟩
          case measure => simp [intOf]; omega
    · have j1 : ¬ (k : Int) < (ps.length : Int) := by omega
      have hz : Z = some q := by
        rw [← hF.out, List.drop_eq_nil_of_le (by omega)]
        rfl
      subst hz
      go_wp2_with fail
      go_ret2
      exact ⟨rfl, rfl⟩
end Nm
end Go.Proofs.YtjdhgeikbkjnoaaDoor
