/- NamesLead walked. -/
import Derived.Test.YtjdhgeikbkjnoaaDoorLdt
import Derived.Test.YtjdhgeikbkjnoaaDoorAwn
import Derived.Test.YtjdhgeikbkjnoaaDoorLdn
import Derived.Deep.Cut
import Derived.Deep.CutBlock
import Derived.Deep.CutRange
namespace Go.Proofs.YtjdhgeikbkjnoaaDoor.namesLead
open Go.ChangeShapes Go.WideShapes Go.ChangeAt Go.RowKit Go.Shelf
attribute [local go_sem] Oper.semAt_some
open Go.Proofs.YtjdhgeikbkjnoaaDoor.Nm Go.Proofs.YtjdhgeikbkjnoaaDoor.Utf Go.Proofs.YtjdhgeikbkjnoaaDoor.Txt Go.PlainAid
set_option linter.unusedVariables false

/-- Clean, at the clean form. -/
theorem clean2 (w : World) (s : ByteArray) (hs : s.size ≤ 1073741824) : Calls Tryd.prog 11 #[.string s] w fun e w' =>
    (okl (dl s) = true ∧ e = .returned (.tuple #[.string (clf s), .int .i64 0]) ∧ Kept [] w w') ∨ (okl (dl s) = false ∧ e = .returned (.tuple #[.string ⟨#[]⟩, .int .i64 51]) ∧ Kept [] w w') := by
  refine (clean_any w s hs).mono ?_
  rintro e w' (⟨ho, ps, hps, rfl, k⟩ | h)
  · have e1 := pt_of hps
    subst e1
    exact Or.inl ⟨ho, rfl, k⟩
  · exact Or.inr h
/-- Split, at the parts. -/
theorem split2 (w : World) (s : ByteArray) (hs : s.size ≤ 1073741824) : Calls Tryd.prog 12 #[.string s] w fun e w' =>
    (okl (dl s) = true ∧ ∃ pv, e = .returned (.tuple #[.agg #[.bool (rooted (dl s)), pv], .int .i64 0]) ∧ Hid (Row w' w.heap.size pv (pt s)) ∧ Hid (Kept [] w w')) ∨
    (okl (dl s) = false ∧ e = .returned (.tuple #[.agg #[.bool false, .slice none 0 0], .int .i64 51]) ∧ Hid (Kept [] w w')) := by
  refine (split_any w s hs).mono ?_
  rintro e w' (⟨ho, pv, xs, rfl, hR, hE, k⟩ | h)
  · have e1 := pt_of hE.out
    subst e1
    exact Or.inl ⟨ho, pv, rfl, hR, k⟩
  · exact Or.inr h

set_option maxHeartbeats 16000000 in
set_option maxRecDepth 100000 in
theorem walk (w : World) (from' : Int) (s : ByteArray) (ra : Option Addr) (rc : Nat) (zs : List Int) (hz : LsZ w (.slice ra zs.length rc) zs) (hb : ∀ x ∈ zs, -9223372036854775808 ≤ x ∧ x ≤ 9223372036854775807) (hl : zs.length ≤ 140737488355328)
    (hf1 : -9223372036854775808 ≤ from') (hf2 : from' ≤ 9223372036854775807) :
    Calls Tryd.prog 5 #[.slice ra zs.length rc, .int .i64 from', .string s] w fun e w' => e = .returned (.bool true) ∧ Kept [] w w' := by
  have AW := Lib.hid (fun w => awake_any w)
  have TR := Lib.hid (fun w h => tree_any w ra rc zs h hb hl)
  have LZ := Lib.hid hz
  clear hz hb
  by_cases hs : s.size ≤ 268435456
  · have hs2 : ¬ (268435456 : Int) < (s.size : Int) := by omega
    have CL1 := Lib.hid (fun w => clean2 w s (by omega))
    have SP1 := Lib.hid (fun w => split2 w s (by omega))
    obtain ⟨c, hc⟩ : ∃ c, c = clf s := ⟨_, rfl⟩
    have HC := Lib.hid hc
    have hcs : c.size ≤ 1073741824 := by have := clf_size s; rw [hc]; omega
    have SP2 := Lib.hid (fun w => split2 w c hcs)
    rw [← hc] at CL1
    have hpl : (pt s).length ≤ 1073741825 := by have := pt_length s; omega
    have hql : (pt c).length ≤ 1073741825 := by have := pt_length c; omega
    have HPQ := Lib.hid (And.intro hpl hql)
    clear hc hpl hql
    go_enter Tryd.func5, Tryd.ntmps5
    go_wp2_with fail
    refine (AW.out w).mono ?_
    rintro e w1 ⟨rfl, k1⟩
    have K1 := Lib.hid k1
    clear k1 AW
    go_wp2_with fail
    refine (SP1.out w1).mono ?_
    rintro e w2 (⟨ho, pv, rfl, hR, hK⟩ | ⟨ho, rfl, hK⟩)
    · obtain ⟨pa, pc, rfl⟩ := own_slice hR.out
      obtain ⟨r, hr⟩ : ∃ r, r = rooted (dl s) := ⟨_, rfl⟩
      have HRr := Lib.hid hr
      rw [← hr]
      have HO := Lib.hid ho
      obtain ⟨w3, hw3⟩ : ∃ w3, w3 = w2.alloc (.cells #[.bool r, .slice pa (pt s).length pc] 28) := ⟨_, rfl⟩
      obtain ⟨Rp, hRp⟩ : ∃ R, R = w2.heap.size := ⟨_, rfl⟩
      have B3 : Hid (w3.heap[Rp]? = some (.cells #[.bool r, .slice pa (pt s).length pc] 28 (0, 0))) := by rw [hw3, hRp]; exact heap_alloc_new w2 _
      have K23 : Hid (Kept [] w2 w3) := by rw [hw3]; exact (Kept.refl _ _).alloc _
      have K3 : Hid (Kept [] w w3) := (K1.out.trans hK.out (fun i hi => by simp at hi)).trans K23.out (fun i hi => by simp at hi)
      have LP3 : Hid (Lst w3 (.slice pa (pt s).length pc) (pt s)) := Lst.kept hR.out.lst K23.out (fun _ _ _ _ hm => by simp at hm)
      have HW3 := Lib.hid (And.intro hw3 hRp)
      clear ho hr hw3 hRp K1 hK hR SP1 K23
      go_wp2_with fail
      rw [← HW3.out.1, ← HW3.out.2]
      refine (CL1.out w3).mono ?_
      rintro e w4 (⟨-, rfl, k4⟩ | ⟨ho, -⟩)
      rotate_left
      · rw [HO.out] at ho; cases ho
      have K34 := Lib.hid k4
      have K4 : Hid (Kept [] w w4) := K3.out.trans k4 (fun i hi => by simp at hi)
      have OKC : Hid (okl (dl c) = true) := by rw [HC.out]; exact clf_okl HO.out
      have RC : Hid (rooted (dl c) = r) := by rw [HC.out, HRr.out]; exact clf_rooted s
      have PC : Hid (pt c = sho r (pt s)) := by rw [HC.out, HRr.out]; exact clf_pt s
      clear k4 CL1 K3 HW3
      go_wp2_with fail
      refine (SP2.out w4).mono ?_
      rintro e w5 (⟨-, qv, rfl, hRq, hK5⟩ | ⟨ho, -, -⟩)
      rotate_left
      · rw [OKC.out] at ho; cases ho
      rw [RC.out]
      obtain ⟨qa, qc, rfl⟩ := own_slice hRq.out
      obtain ⟨w6, hw6⟩ : ∃ w6, w6 = w5.alloc (.cells #[.bool r, .slice qa (pt c).length qc] 28) := ⟨_, rfl⟩
      obtain ⟨Rq, hRq6⟩ : ∃ R, R = w5.heap.size := ⟨_, rfl⟩
      have B6q : Hid (w6.heap[Rq]? = some (.cells #[.bool r, .slice qa (pt c).length qc] 28 (0, 0))) := by rw [hw6, hRq6]; exact heap_alloc_new w5 _
      have K56 : Hid (Kept [] w5 w6) := by rw [hw6]; exact (Kept.refl _ _).alloc _
      have K36 : Hid (Kept [] w3 w6) := (K34.out.trans hK5.out (fun i hi => by simp at hi)).trans K56.out (fun i hi => by simp at hi)
      have K6 : Hid (Kept [] w w6) := (K4.out.trans hK5.out (fun i hi => by simp at hi)).trans K56.out (fun i hi => by simp at hi)
      have B6p := Lib.hid ((K36.out.block _ (block_lt B3.out) (by simp)).trans B3.out)
      have LP6 := Lib.hid (Lst.kept LP3.out K36.out (fun _ _ _ _ hm => by simp at hm))
      have LQ6 := Lib.hid (Lst.kept hRq.out.lst K56.out (fun _ _ _ _ hm => by simp at hm))
      have HW6 := Lib.hid (And.intro hw6 hRq6)
      clear hw6 hRq6 hRq hK5 K56 K36 K34 K4 SP2 B3 LP3
      go_wp2_with fail
      rw [← HW6.out.1, ← HW6.out.2]
      refine (TR.out w6 (LZ.out.kept K6.out (fun _ _ _ _ hm => by simp at hm))).mono ?_
      rintro e w7 ⟨v4, v5, us, ns, rfl, hT⟩
      obtain ⟨p4, c4, rfl⟩ := own_slice hT.out.r4
      obtain ⟨p5, c5, rfl⟩ := own_slice hT.out.r5
      have TM := Lib.hid hT.out.mem
      have TT := Lib.hid hT.out.tr
      have K67 := Lib.hid hT.out.kept
      have hpos := hT.out.tr.pos
      have hlow := hT.out.tr.low
      have K7 : Hid (Kept [] w w7) := K6.out.trans K67.out (fun i hi => by simp at hi)
      have B7p := Lib.hid ((K67.out.block _ (block_lt B6p.out) (by simp)).trans B6p.out)
      have B7q := Lib.hid ((K67.out.block _ (block_lt B6q.out) (by simp)).trans B6q.out)
      have LP7 := Lib.hid (Lst.kept LP6.out K67.out (fun _ _ _ _ hm => by simp at hm))
      have LQ7 := Lib.hid (Lst.kept LQ6.out K67.out (fun _ _ _ _ hm => by simp at hm))
      have LD := Lib.hid (fun a (ha : a < us.length) => leads_any w7 _ _ _ us ns (pt s) a TM.out LP7.out ha HPQ.out.1)
      have LE := Lib.hid (fun a (ha : a < us.length) => leads_any w7 _ _ _ us ns (pt c) a TM.out LQ7.out ha HPQ.out.2)
      obtain ⟨L, hL⟩ : ∃ L, L = us.length := ⟨_, rfl⟩
      obtain ⟨L5, hL5⟩ : ∃ L, L = ns.length := ⟨_, rfl⟩
      rw [← hL] at LD LE hpos hlow
      rw [← hL5] at LD LE
      rw [← hL, ← hL5]
      have p0 : w7.cell? ⟨Rp, 0, none⟩ = some (.bool r) := by rw [cell_of_row w7 Rp 0 _ _ (0, 0) B7p.out]; rfl
      have p1 : w7.cell? ⟨Rp, 1, none⟩ = some (.slice pa (pt s).length pc) := by rw [cell_of_row w7 Rp 1 _ _ (0, 0) B7p.out]; rfl
      have q0 : w7.cell? ⟨Rq, 0, none⟩ = some (.bool r) := by rw [cell_of_row w7 Rq 0 _ _ (0, 0) B7q.out]; rfl
      have q1 : w7.cell? ⟨Rq, 1, none⟩ = some (.slice qa (pt c).length qc) := by rw [cell_of_row w7 Rq 1 _ _ (0, 0) B7q.out]; rfl
      clear hT hL hL5 K67 K6 B6p B6q LP6 LQ6 TM HW6 B7p B7q LP7 LQ7
      go_upto_if 59 with fail
      go_cut [1, 16] from 59 to 68 (fun s1 s16 wx => ∃ a : Nat, s16 = .int .i64 a ∧ a < L ∧ (r = true → a = 0) ∧ w7 = wx)
      case first =>
        cases r with
        | true =>
          go_wp2_with fail
          go_meet
          exact ⟨0, rfl, by omega, fun _ => rfl, rfl⟩
        | false =>
          go_upto_if 61 with fail
          go_cut [1] from 61 to 64 (fun s1 wx => ∃ m : Nat, s1 = .int .i64 m ∧ m ≤ 9223372036854775807 ∧ w7 = wx)
          case first =>
            by_cases hneg : from' < 0
            · go_wp2_with fail
              go_meet
              exact ⟨(-(from' + 1)).toNat, by congr 1; omega, by omega, rfl⟩
            · go_wp2_with fail
              go_meet
              exact ⟨from'.toNat, by congr 1; omega, by omega, rfl⟩
          case rest =>
            obtain ⟨m, rfl, hm, rfl⟩ := hcut
            have e1 : (m : Int).tmod (L : Int) = ((m % L : Nat) : Int) := (Int.ofNat_tmod m L).symm
            have hml := Nat.mod_lt m (show L > 0 by omega)
            obtain ⟨a, ha⟩ : ∃ a, a = m % L := ⟨_, rfl⟩
            rw [← ha] at e1 hml
            clear ha
            go_wp2_with fail
            go_meet
            exact ⟨a, rfl, hml, (fun h => absurd h (by decide)), rfl⟩
      case rest =>
        obtain ⟨a, rfl, hal, har, rfl⟩ := hcut
        have LDa := Lib.hid (LD.out a hal)
        have LEa := Lib.hid (LE.out a hal)
        obtain ⟨X, hX⟩ : ∃ X, X = lds us ns a (pt s) := ⟨_, rfl⟩
        have HXX : Hid (∀ z, X = some z → lds us ns a (pt c) = some z) := fun z hz => by
          rw [PC.out]
          exact lds_sho TT.out har (by rw [← hX]; exact hz)
        rw [← hX] at LDa
        clear hX LD LE hal har
        cases X with
        | none =>
          go_wp2_with fail
          refine LDa.out.mono ?_
          rintro e w8 ⟨rfl, rfl⟩
          go_wp2_with fail
          go_ret
          exact ⟨rfl, K7.out⟩
        | some z =>
          rw [HXX.out z rfl] at LEa
          clear HXX
          go_wp2_with fail
          refine LDa.out.mono ?_
          rintro e w8 ⟨rfl, rfl⟩
          go_wp2_with fail
          refine LEa.out.mono ?_
          rintro e w9 ⟨rfl, rfl⟩
          cases r
          all_goals
            go_wp2_with fail
            go_ret
            exact ⟨rfl, K7.out⟩
    · have HO := Lib.hid ho
      have K2 : Hid (Kept [] w w2) := K1.out.trans hK.out (fun i hi => by simp at hi)
      have K3 : Hid (Kept [] w (w2.alloc (.cells #[.bool false, .slice none 0 0] 28))) := K2.out.alloc _
      clear ho K1 SP1 hK
      go_wp2_with fail
      refine (CL1.out _).mono ?_
      rintro e w3 (⟨ho, -⟩ | ⟨ho, rfl, hK⟩)
      · rw [HO.out] at ho; cases ho
      have K4 : Hid (Kept [] w w3) := K3.out.trans hK (fun i hi => by simp at hi)
      clear ho K2 CL1 hK
      go_wp2_with fail
      go_ret
      exact ⟨rfl, K4.out⟩
  · have hs2 : (268435456 : Int) < (s.size : Int) := by omega
    go_enter Tryd.func5, Tryd.ntmps5
    go_wp2_with fail
    refine (AW.out w).mono ?_
    rintro e w1 ⟨rfl, k1⟩
    go_wp2_with fail
    go_ret
    exact ⟨rfl, k1⟩
end Go.Proofs.YtjdhgeikbkjnoaaDoor.namesLead
