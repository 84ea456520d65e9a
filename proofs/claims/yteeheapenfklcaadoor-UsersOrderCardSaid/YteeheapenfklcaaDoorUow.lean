/- UsersOrder walked. -/
import Derived.Test.YteeheapenfklcaaDoorUob
namespace Go.Proofs.YteeheapenfklcaaDoor
set_option linter.unusedVariables false
open Go.RowKit Go.Shelf
attribute [local go_sem] Oper.semAt_some
namespace Us
open Go.Proofs.YteeheapenfklcaaDoor.Utf Go.Proofs.YteeheapenfklcaaDoor.Txt Go.PlainAid Go.Proofs.YteeheapenfklcaaDoor.Mpf
theorem drop_rev {l : List ByteArray} {m : Nat} (h : m < l.length) : (l.drop m).reverse = (l.drop (m + 1)).reverse ++ [l[m]] := by
  rw [List.drop_eq_getElem_cons h, List.reverse_cons]
set_option maxHeartbeats 16000000 in
set_option maxRecDepth 100000 in
theorem order_law (w : World) (hm : Ml w) (a0 : Option Addr) (c0 : Nat) (ws : List (WhoD × Value)) (hW : Whs w (.slice a0 ws.length c0) ws) (tu : Int) (htu : -9223372036854775808 ≤ tu ∧ tu ≤ 9223372036854775807) :
    Calls Tryd.prog 5 #[.slice a0 ws.length c0, .int .i64 tu] w fun e w' => e = .returned (.bool true) ∧ Kept [] w w' := by
  have KN := Lib.hid (known06 w hm)
  have MD := Lib.hid (fun (w' : World) (k : Kept [] w w') => made_any w' a0 c0 ws (hW.kept k))
  have TA : Hid (∀ (w' : World) (a : Option Addr) (c : Nat) (L : List (Acc × Value)), Kept [] w w' → RowsA w' (.slice a L.length c) L → Good (accs L) → Calls Tryd.prog 16 #[.slice a L.length c] w' fun e w'' => ∃ B p, e = .returned (.pointer (some ⟨p, 0, none⟩)) ∧ Tb w'' B p (accs L) ∧ Kept [] w' w'') := fun w' a c L k hR g => table_ok (hm.kept0 k) hR g
  have HTU := Lib.hid htu
  clear hm hW htu
  go_enter Tryd.func5, Tryd.ntmps5
  go_wp2_with (first | (go_at_call 8; refine KN.out.mono ?_; rintro e w1 ⟨rfl, k1⟩; have K1 := Lib.hid k1; clear k1 KN) | (go_at_call 15; refine (MD.out _ K1.out).mono ?_; rintro e w2 ⟨v, L, rfl, hT, hR, k2⟩; have K2 : Hid (Kept [] w w2) := K1.out.trans k2 (fun i hi => by cases hi); obtain ⟨a, c, hv⟩ := own_slg hR.row; subst hv; have HT := Lib.hid hT; have HR := Lib.hid hR; clear hT hR k2 MD))
  have GD : Hid (Good (accs L)) := good_of HT.out
  have SO : Hid (Sole (accs L)) := by show Sole _; rw [HT.out]; exact made_sole _
  have FI := Lib.hid (good_fit GD.out)
  have LN : Hid (∀ a ∈ accs L, (lineL a).length ≤ 200) := by
    show ∀ a ∈ accs L, _
    rw [HT.out]
    exact made_lines _
  have hLL : L.length ≤ 30 := by
    have h1 := congrArg List.length HT.out
    rw [accs_length, madeT_length] at h1
    omega
  obtain ⟨n, hn⟩ : ∃ n, n = L.length := ⟨_, rfl⟩
  obtain ⟨pk, hpk⟩ : ∃ k, k = pickN tu n := ⟨_, rfl⟩
  have PLT : Hid (0 < n → pk < n) := fun h => by rw [hpk]; exact pick_lt tu h
  have PKC : Hid (0 < n → ∀ w', Calls Tryd.prog 23 #[.int .i64 tu, .int .i64 L.length] w' fun e w'' => e = .returned (.int .i64 pk) ∧ w' = w'') := fun h w' => by
    have := pick_any w' tu n h HTU.out.1 HTU.out.2 (by omega)
    rw [← hpk, hn] at this
    exact this
  obtain ⟨T2, hT2⟩ : ∃ T2, T2 = turnT pk (accs L) := ⟨_, rfl⟩
  have HT2 := Lib.hid hT2
  have HN : Hid (n = L.length) := hn
  have G2 : Hid (Good T2) := by show Good _; rw [hT2]; exact good_turn GD.out SO.out LN.out (by rw [accs_length]; exact hLL)
  have ML2 : Hid (T2.length = L.length) := by show _ = _; rw [hT2, turn_len, accs_length]
  have M0 : Hid (MkO w2 w2 (.slice none 0 0) T2 0) := ⟨⟨[], by simp [accs], World.ownsRow_nil _ _ _ _, fun x hx => by cases hx⟩, Kept.refl _ _⟩
  clear hn hpk hT2 HT K1 LN
  go_loopw [7, 8] (fun mv iv wr => ∃ i : Nat, iv = .int .i64 i ∧ i ≤ L.length ∧ Hid (MkO w2 wr mv T2 i)) (fun _ iv _ => L.length - (intOf iv).toNat)
  case atStart => exact ⟨0, rfl, by omega, M0⟩
  case round =>
    obtain ⟨i, rfl, hi, IO⟩ := hrel
    by_cases hlt : i < L.length
    · have j1 : (i : Int) < (L.length : Int) := by omega
      have hn0 : 0 < n := by rw [HN.out]; omega
      have plt := PLT.out hn0
      have PK := Lib.hid (PKC.out hn0)
      obtain ⟨q, hq⟩ : ∃ q, q = (i + pk) % L.length := ⟨_, rfl⟩
      have hql : q < L.length := by rw [hq]; exact Nat.mod_lt _ (by omega)
      have hrm : ((i : Int) + (pk : Int)).tmod (L.length : Int) = (q : Int) := by
        rw [hq]
        have := (Int.ofNat_tmod (i + pk) L.length).symm
        rw [← this]
        congr 1
      have hnz : (L.length : Int) ≠ 0 := by omega
      have pk30 : (pk : Int) ≤ 30 := by have := HN.out; omega
      have j30 : (L.length : Int) ≤ 30 := by omega
      have rw_ := HR.out.kept0 IO.out.kept
      obtain ⟨g1, rfl, -⟩ := rw_.at' hql
      have hat := rw_.atA hql
      have hmem := rw_.mem _ (List.getElem_mem hql)
      obtain ⟨⟨⟨yn, yl, ym, yk⟩, yv⟩, hy⟩ : ∃ x, x = L[q] := ⟨_, rfl⟩
      rw [← hy] at hat hmem
      simp only at hat hmem
      obtain ⟨ya, yc, rfl⟩ := hmem.slice
      have hqT : q < (accs L).length := by rw [accs_length]; exact hql
      have hyT : (accs L)[q]'hqT = ⟨yn, yl, ym, yk⟩ := by rw [accs_at hql, ← hy]
      have TI : Hid (∃ hh : i < T2.length, T2[i] = ⟨yn, yl, ym.reverse, yk⟩) := by
        have e2 := HT2.out
        refine ⟨by rw [ML2.out]; exact hlt, ?_⟩
        subst e2
        rw [turn_get (by rw [accs_length, ← HN.out]; exact plt)]
        have e : (i + pk) % (accs L).length = q := by rw [accs_length, hq]
        simp only [e, hyT]
        rfl
      have hym : ym.length ≤ 65537 := by
        have := (FI.out _ (List.getElem_mem hqT)).2.2.2.2
        rw [hyT] at this
        exact this
      obtain ⟨m0, m1, m2, m3⟩ := hat
      have HMEM := Lib.hid hmem
      have HY := Lib.hid hy
      clear hq hy hqT hyT rw_ hmem plt
      go_upto_region 8 with (go_at_call 23; refine (PK.out _).mono ?_; rintro e u ⟨rfl, rfl⟩)
      obtain ⟨wB, hwB⟩ : ∃ x, x = wr.alloc (.cells #[.string yn, .string yl, .slice ya ym.length yc, .string yk] 45) := ⟨_, rfl⟩
      obtain ⟨b, hb⟩ : ∃ x, x = wr.heap.size := ⟨_, rfl⟩
      have IB : Hid (MkB w2 wB u7 T2 i b yn yl yk (.slice ya ym.length yc) (.slice none 0 0) []) := by rw [hwB, hb]; exact IO.out.startB yn yl yk _
      have MB : Hid (Mem wB (.slice ya ym.length yc) ym) := by rw [hwB]; exact HMEM.out.kept0 ((Kept.refl [] wr).alloc _)
      rw [← hwB]
      try rw [← hb]
      have MK : Hid (∀ wx, Kept [] w2 wx → Mem wx (.slice ya ym.length yc) ym) := fun wx k => by
        have := (HR.out.kept0 k).mem _ (List.getElem_mem hql)
        rw [← HY.out] at this
        exact this
      obtain ⟨f0, f1, f2, f3, f4⟩ := four IB.out.blk
      clear hwB hb IO HMEM m0 m1 m2 m3
      have IZ : Hid (MkB w2 wB u7 T2 i b yn yl yk (.slice ya ym.length yc) (.slice none 0 0) ((ym.drop ym.length).reverse)) := by show MkB _ _ _ _ _ _ _ _ _ _ _ _; rw [List.drop_length]; exact IB.out
      go_wp2_with fail
      clear IB MB f0 f1 f2 f3 f4
      go_loopw [10, 11] (fun bv kv wx => ∃ (m : Nat) (z : Int), kv = .int .i64 z ∧ z = (m : Int) - 1 ∧ m ≤ ym.length ∧ Hid (MkB w2 wx u7 T2 i b yn yl yk (.slice ya ym.length yc) bv ((ym.drop m).reverse))) (fun _ kv _ => (intOf kv + 1).toNat)
      case atStart => exact ⟨ym.length, _, rfl, rfl, Nat.le_refl _, IZ⟩
      case round =>
        obtain ⟨m, z, rfl, hz, hmy, IM⟩ := hrel
        by_cases h0 : 0 < m
        · obtain ⟨m', rfl⟩ : ∃ k, m = k + 1 := ⟨m - 1, by omega⟩
          obtain rfl : z = (m' : Int) := by omega
          have j2 : (m' : Int) ≥ 0 := by omega
          have hm' : m' < ym.length := by omega
          obtain ⟨gm, rfl, x1, -⟩ := (MK.out wr IM.out.kept).at' hm'
          obtain ⟨x, hx⟩ : ∃ x, x = ym[m'] := ⟨_, rfl⟩
          rw [← hx] at x1
          have DR := drop_rev hm'
          rw [← hx] at DR
          have HDR := Lib.hid DR
          obtain ⟨f0, f1, f2, f3, f4⟩ := four IM.out.blk
          obtain ⟨sa, sc, hbv⟩ := own_slg IM.out.own
          subst hbv
          have bl : ((ym.drop (m' + 1)).reverse).length ≤ 65537 := by rw [List.length_reverse, List.length_drop]; omega
          obtain ⟨bs, hbs⟩ : ∃ x, x = (ym.drop (m' + 1)).reverse := ⟨_, rfl⟩
          rw [← hbs] at IM HDR bl ⊢
          obtain ⟨i0, hi0⟩ : ∃ i, Tryd.prog.info? 9 = some i := by
            have := info_strg
            cases hx : Tryd.prog.info? 9 with
            | none => rw [hx] at this; cases this
            | some i => exact ⟨i, rfl⟩
          have hz' := info_strg
          rw [hi0] at hz'
          simp only [Option.map_some, Option.some.injEq, Prod.mk.injEq] at hz'
          obtain ⟨hz0, hz1, hz2⟩ := hz'
          have HI0 : Hid (Tryd.prog.info? 9 = some i0 ∧ i0.zero = some (.string ⟨#[]⟩) ∧ i0.size = 1 ∧ i0.bytes = 16) := ⟨hi0, hz0, hz1, hz2⟩
          have HB0 := Lib.hid IM.out.kept.size
          clear hi0 hz0 hz1 hz2 hz hx hbs DR
          go_wp2_with (at_builtin; refine wpList_append_src (wr.alloc (.cells #[.string x] 9)) rfl (.tmp 48) (.tmp 54) 33 rfl w2.heap.size 9 i0 (.string ⟨#[]⟩) 1 16 Tryd.underlying33 HI0.out.1 HI0.out.2.1 HI0.out.2.2.1 HI0.out.2.2.2 rfl (by decide) (.slice sa bs.length sc) bs.length (bs.map sv) (by simp [Act.eval]) (own_kept IM.out.own ((Kept.refl [] wr).alloc _) (fun _ _ h => by cases h)) (.slice (some ⟨wr.heap.size, 0, none⟩) 1 1) 1 [.string x] (by simp [Act.eval]) (Or.inr ⟨_, _, rfl, World.news_of_block (cs := #[.string x]) (by exact (MapKept.heap_alloc wr _).1)⟩) rfl (by intro u hu; simp at hu; subst hu; rfl) (by unfold maxLen; omega) (by omega) (by have := HB0.out; simp; omega) ?_; intro v7 w7 hown7 hgrow7 hat7; have IP := Lib.hid (IM.out.push hgrow7 hown7 hat7); clear hown7 hgrow7 hat7)
          have IP2 : Hid (MkB w2 w7 u7 T2 i b yn yl yk (.slice (some ⟨gm, 0, none⟩) ym.length yc) v7 ((ym.drop m').reverse)) := by
            show MkB _ _ _ _ _ _ _ _ _ _ _ _
            rw [HDR.out]
            exact IP.out
          go_roundw
          case rel => exact ⟨m', (m' : Int) - 1, by go_num, rfl, by omega, IP2⟩
          case measure => simp [intOf] <;> omega
        · obtain rfl : m = 0 := by omega
          have j2 : ¬ z ≥ 0 := by omega
          have IE : Hid (MkB w2 wr u7 T2 i b yn yl yk (.slice ya ym.length yc) u10 ym.reverse) := IM.out
          clear IM hz
          obtain ⟨f0, f1, f2, f3, f4⟩ := four IE.out.blk
          have IS := Lib.hid IE.out.done
          obtain ⟨ba, bc, hbv⟩ := own_slg IE.out.own
          rw [List.length_reverse] at hbv
          subst hbv
          obtain ⟨wS, hwS⟩ : ∃ x, x = wr.setCell ⟨b, 2, none⟩ (.slice ba ym.length bc) := ⟨_, rfl⟩
          have HWS := Lib.hid hwS
          rw [← hwS] at IS
          clear hwS
          go_upto_region 14 with (fail)
          rw [← HWS.out]
          obtain ⟨s0, s1, s2, s3, s4⟩ := four IS.out.blk
          obtain ⟨L2, l1, l2, l3, -⟩ := IS.out.rows
          have hL30 : L2.length ≤ 30 := by
            have h9 := congrArg List.length l1
            rw [accs_length, List.length_take] at h9
            omega
          have HL := Lib.hid (And.intro l1 (And.intro l2 l3))
          obtain ⟨ta, tc, hu7⟩ := own_slg l2
          subst hu7
          clear l1 l2 l3 f0 f1 f2 f3 f4
          obtain ⟨i0, hi0, hz00, hz01, hz02⟩ := info_parts info_acc
          have HI0 := Lib.hid (And.intro hi0 (And.intro hz00 (And.intro hz01 hz02)))
          have HB0 := Lib.hid IS.out.kept.size
          clear hi0 hz00 hz01 hz02
          go_wp2_with (at_builtin; refine wpList_append_src (wS.alloc (.cells #[.string yn, .string yl, .slice ba ym.length bc, .string yk] 45)) rfl (.tmp 58) (.tmp 60) 22 rfl w2.heap.size 45 i0 (.agg #[.string ⟨#[]⟩, .string ⟨#[]⟩, .slice none 0 0, .string ⟨#[]⟩]) 4 72 Tryd.underlying22 HI0.out.1 HI0.out.2.1 HI0.out.2.2.1 HI0.out.2.2.2 rfl (by decide) (.slice ta L2.length tc) L2.length (L2.flatMap accC) (by simp [Act.eval]) (own_kept HL.out.2.1 ((Kept.refl [] wS).alloc _) (fun _ _ h => by cases h)) (.slice (some ⟨wS.heap.size, 0, none⟩) 1 1) 1 [.string yn, .string yl, .slice ba ym.length bc, .string yk] (by simp [Act.eval]) (Or.inr ⟨_, _, rfl, World.news_of_block (cs := #[.string yn, .string yl, .slice ba ym.length bc, .string yk]) (by exact (MapKept.heap_alloc wS _).1)⟩) rfl (by intro u hu; simp at hu; rcases hu with rfl | rfl | rfl | rfl <;> rfl) (by unfold maxLen; omega) (by omega) (by have := HB0.out; simp; omega) ?_; intro v7 w7 hown7 hgrow7 hat7; have FINR : Hid (MkO w2 w7 v7 T2 (i + 1)) := IS.out.close HL.out.1 HL.out.2.1 HL.out.2.2 hgrow7 hown7 TI.out.1 TI.out.2; clear hown7 hgrow7 hat7)
          go_roundw
          case rel => exact ⟨i + 1, by go_num, by omega, FINR⟩
          case measure => simp [intOf]; omega
    · have j1 : ¬ (i : Int) < (L.length : Int) := by omega
      have hiL : i = T2.length := by rw [ML2.out]; omega
      have FINO : Hid (∃ L2 : List (Acc × Value), accs L2 = T2 ∧ RowsA wr u7 L2 ∧ Kept [] w2 wr) := by
        have h := IO.out
        rw [hiL] at h
        exact h.all
      obtain ⟨L2, lA, lR, lK⟩ := FINO.out
      obtain ⟨a2, c2, hv2⟩ := own_slg lR.row
      subst hv2
      have K3 : Hid (Kept [] w wr) := K2.out.trans lK (fun i hi => by cases hi)
      have R1 : Hid (RowsA wr (.slice a L.length c) L) := HR.out.kept0 lK
      have R2 : Hid (RowsA wr (.slice a2 L2.length c2) L2) := lR
      have GD2 : Hid (Good (accs L2)) := by show Good _; rw [lA]; exact G2.out
      have HLA := Lib.hid lA
      clear lA lR lK FINO IO hiL
      go_upto_region 19 with (first | (go_at_call 16; refine (TA.out _ a c L K3.out R1.out GD.out).mono ?_; rintro e w3 ⟨B, p, rfl, tb3, k3⟩; have T3 := Lib.hid tb3; have K4 : Hid (Kept [] w w3) := K3.out.trans k3 (fun i hi => by cases hi); have R3 := Lib.hid (R1.out.kept0 k3); have R4 := Lib.hid (R2.out.kept0 k3); clear tb3 k3 R1 R2) | (go_at_call 16; refine (TA.out _ a2 c2 L2 K4.out R4.out GD2.out).mono ?_; rintro e w4 ⟨B2, p2, rfl, tb4, k4⟩; have I4 : Hid (GwO w w4 B p B2 p2 (accs L) T2 a c L) := ⟨T3.out.kept k4, HLA.out ▸ tb4, R3.out.kept0 k4, K4.out.trans k4 (fun i hi => by cases hi)⟩; clear tb4 k4 R4))
      have S2 : Hid (Sole T2) := by show Sole _; rw [HT2.out]; exact sole_turn SO.out
      have FI2 := Lib.hid (good_fit G2.out)
      clear T3 K3 K4 R3 GD GD2 HLA TA K2 HR PLT PKC M0 G2
      go_wp2_with fail
      go_loopw [14] (fun iv wx => ∃ i : Nat, iv = .int .i64 i ∧ i ≤ L.length ∧ Hid (GwO w wx B p B2 p2 (accs L) T2 a c L)) (fun iv _ => L.length - (intOf iv).toNat)
      case atStart => exact ⟨0, rfl, by omega, I4⟩
      case round =>
        obtain ⟨i, rfl, hi, IF⟩ := hrel
        by_cases hlt : i < L.length
        · have j1 : (i : Int) < (L.length : Int) := by omega
          obtain ⟨g1, rfl, -⟩ := IF.out.rows.at' hlt
          have hat := IF.out.rows.atA hlt
          obtain ⟨⟨⟨xn, xl, xm, xk⟩, xv⟩, hx⟩ : ∃ x, x = L[i] := ⟨_, rfl⟩
          have hil : i < (accs L).length := by rw [accs_length]; exact hlt
          have hxT : (accs L)[i]'hil = ⟨xn, xl, xm, xk⟩ := by rw [accs_at hlt, ← hx]
          rw [← hx] at hat
          simp only at hat
          have hxm : xn.size ≤ maxLen := by
            have := (FI.out _ (List.getElem_mem hil)).1
            rw [hxT] at this
            simp only at this
            unfold maxLen
            omega
          have hTl : (accs L).length ≤ 65537 := by rw [accs_length]; omega
          have hTl2 : T2.length ≤ 65537 := by rw [ML2.out]; omega
          have HAT := Lib.hid (fun (w' : World) (kk : Kept [] wr w') => hat.kept kk)
          have GR1 := Lib.hid (groups_t IF.out.tb hTl FI.out xn hxm)
          have GR2 := Lib.hid (fun (w' : World) (kk : Kept [] wr w') => groups_t (IF.out.tb2.kept kk) hTl2 FI2.out xn hxm)
          have eG : sortB (gsel T2 xn T2) = sortB (gsel (accs L) xn (accs L)) := by rw [HT2.out]; exact groups_turn pk _ _
          rw [eG] at GR2
          obtain ⟨gs, hgs⟩ : ∃ gs, gs = sortB (gsel (accs L) xn (accs L)) := ⟨_, rfl⟩
          rw [← hgs] at GR1 GR2
          have HGL : Hid (gs.length ≤ 140737488355328) := by
            show _ ≤ _
            rw [hgs, sortB_length]
            have := gsel_len (accs L) xn (accs L)
            omega
          have KEY1 := Lib.hid (fun (w' : World) (kk : Kept [] wr w') => key_t (IF.out.tb.kept kk) (by omega) xn hxm)
          have KEY2 := Lib.hid (fun (w' : World) (kk : Kept [] wr w') => key_t (IF.out.tb2.kept kk) (by omega) xn hxm)
          have eK : (accT T2 xn).key = (accT (accs L) xn).key := by
            have h1 := key_turn (p := pk) SO.out hil
            have h2 := SO.out.key hil
            rw [hxT] at h1 h2
            rw [HT2.out, h2]
            exact h1
          rw [eK] at KEY2
          obtain ⟨ky, hky⟩ : ∃ x, x = (accT (accs L) xn).key := ⟨_, rfl⟩
          rw [← hky] at KEY1 KEY2
          obtain ⟨n0, n1, n2, n3⟩ := hat
          have HXM := Lib.hid hxm
          clear hx hil hxT hgs hky eG eK hTl hTl2 hxm
          go_upto_region 25 with (first | (go_at_call 17; refine GR1.out.mono ?_; rintro e u1 ⟨ga, gc, rfl, mg, k1⟩; have U1 := Lib.hid k1; have MG := Lib.hid mg; obtain ⟨m0, m1, m2, m3⟩ := HAT.out _ k1; clear mg k1 GR1) | (go_at_call 17; refine (GR2.out _ U1.out).mono ?_; rintro e u2 ⟨gb, gd, rfl, mg, k2⟩; have U2 : Hid (Kept [] wr u2) := U1.out.trans k2 (fun i hi => by cases hi); have MG1 := Lib.hid (MG.out.kept0 k2); have MG2 := Lib.hid mg; clear mg k2 GR2 MG) | (go_at_call 24; refine (same_any u2 gs ga gb gc gd MG1.out MG2.out HGL.out).mono ?_; rintro e u3 ⟨rfl, k3⟩; have U3 : Hid (Kept [] wr u3) := U2.out.trans k3 (fun i hi => by cases hi); clear k3 MG1 MG2))
          have KD : Hid (Kept [] wr u3.drew) := U3.out.drew
          have S3 := Lib.hid (HAT.out _ U3.out).1
          clear n0 n1 n2 n3 m0 m1 m2 m3
          go_wp2_with fail
          go_region_held3 (fun w' => w'.cell? ⟨g1, i * 4, none⟩ = some (.string xn)) (first | exact S3.out | exact S4.out | exact S5.out) (first | (go_at_call 21; refine (KEY1.out _ KD.out).mono ?_; rintro e u4 ⟨rfl, k4⟩; have U4 : Hid (Kept [] wr u4) := KD.out.trans k4 (fun i hi => by cases hi); have S4 := Lib.hid (HAT.out _ U4.out).1; clear k4 KEY1) | (go_at_call 21; refine (KEY2.out _ U4.out).mono ?_; rintro e u5 ⟨rfl, k5⟩; have U5 : Hid (Kept [] wr u5) := U4.out.trans k5 (fun i hi => by cases hi); have S5 := Lib.hid (HAT.out _ U5.out).1; clear k5 KEY2))
          rename_i hh
          clear hh
          have I5 : Hid (GwO w u5 B p B2 p2 (accs L) T2 (some ⟨g1, 0, none⟩) c L) := IF.out.step U5.out
          have A5 : Hid (AtA u5 g1 i xn xl xv xk) := HAT.out _ U5.out
          clear KD S3 S4 S5 U1 U2 U3 U4 U5 HAT IF
          go_wp2_with fail
          go_loopw [18] (fun kv wx => ∃ k : Nat, kv = .int .i64 k ∧ k ≤ L.length ∧ Hid (GwO w wx B p B2 p2 (accs L) T2 (some ⟨g1, 0, none⟩) c L) ∧ Hid (AtA wx g1 i xn xl xv xk)) (fun kv _ => L.length - (intOf kv).toNat)
          case atStart => exact ⟨0, rfl, by omega, I5, A5⟩
          case round =>
            obtain ⟨k, rfl, hk, IK, AK⟩ := hrel
            by_cases hkl : k < L.length
            · have j2 : (k : Int) < (L.length : Int) := by omega
              have hak := IK.out.rows.atA hkl
              obtain ⟨⟨⟨yn, yl, ym, yk⟩, yv⟩, hy⟩ : ∃ x, x = L[k] := ⟨_, rfl⟩
              have hkT : k < (accs L).length := by rw [accs_length]; exact hkl
              have hyT : (accs L)[k]'hkT = ⟨yn, yl, ym, yk⟩ := by rw [accs_at hkl, ← hy]
              rw [← hy] at hak
              simp only at hak
              have hym : yn.size ≤ maxLen := by
                have := (FI.out _ (List.getElem_mem hkT)).1
                rw [hyT] at this
                simp only at this
                unfold maxLen
                omega
              have hxm := HXM.out
              have hTl : (accs L).length ≤ 1048576 := by rw [accs_length]; omega
              have hTl2 : T2.length ≤ 1048576 := by rw [ML2.out]; omega
              have MEM1 := Lib.hid (fun (w' : World) (kk : Kept [] wr w') => Ukt.member_t (IK.out.tb.kept kk) xn yn hxm hym)
              have MEM2 := Lib.hid (fun (w' : World) (kk : Kept [] wr w') => Ukt.member_t (IK.out.tb2.kept kk) xn yn hxm hym)
              have LEA1 := Lib.hid (fun (w' : World) (kk : Kept [] wr w') => Ukt.leads_t (IK.out.tb.kept kk) hTl xn yn hxm hym)
              have LEA2 := Lib.hid (fun (w' : World) (kk : Kept [] wr w') => Ukt.leads_t (IK.out.tb2.kept kk) hTl2 xn yn hxm hym)
              have eM : member T2 xn yn = member (accs L) xn yn := by rw [HT2.out]; exact member_turn pk _ _ _
              have eL : Us.leads T2 xn yn = Us.leads (accs L) xn yn := by
                have := leads_turn (p := pk) SO.out hkT xn
                rw [hyT] at this
                rw [HT2.out]
                exact this
              rw [eM] at MEM2
              rw [eL] at LEA2
              obtain ⟨mb, hmb⟩ : ∃ b, b = member (accs L) xn yn := ⟨_, rfl⟩
              obtain ⟨lb, hlb⟩ : ∃ b, b = Us.leads (accs L) xn yn := ⟨_, rfl⟩
              rw [← hmb] at MEM1 MEM2
              rw [← hlb] at LEA1 LEA2
              have CEL : Hid (∀ w', Kept [] wr w' → w'.cell? ⟨g1, i * 4, none⟩ = some (.string xn) ∧ w'.cell? ⟨g1, k * 4, none⟩ = some (.string yn)) := fun w' kk => ⟨(AK.out.kept kk).1, (hak.kept kk).1⟩
              have S0 := Lib.hid (CEL.out _ (Kept.refl [] wr))
              have KD : Hid (Kept [] wr wr.drew) := (Kept.refl [] wr).drew
              clear hmb hlb eM eL hy hyT hkT hym hxm hTl hTl2 hak
              go_wp2_with fail
              go_region_held3 (fun w' => w'.cell? ⟨g1, i * 4, none⟩ = some (.string xn) ∧ w'.cell? ⟨g1, k * 4, none⟩ = some (.string yn)) (first | exact S0.out | exact S1.out | exact S2.out | exact S3.out | exact S4.out) (first | (go_at_call 19; refine (MEM1.out _ KD.out).mono ?_; rintro e v1 ⟨rfl, k1⟩; have V1 : Hid (Kept [] wr v1) := KD.out.trans k1 (fun i hi => by cases hi); have S1 := Lib.hid (CEL.out _ V1.out); clear k1 MEM1) | (go_at_call 19; refine (MEM2.out _ V1.out).mono ?_; rintro e v2 ⟨rfl, k2⟩; have V2 : Hid (Kept [] wr v2) := V1.out.trans k2 (fun i hi => by cases hi); have S2 := Lib.hid (CEL.out _ V2.out); clear k2 MEM2) | (go_at_call 20; refine (LEA1.out _ V2.out).mono ?_; rintro e v3 ⟨rfl, k3⟩; have V3 : Hid (Kept [] wr v3) := V2.out.trans k3 (fun i hi => by cases hi); have S3 := Lib.hid (CEL.out _ V3.out); clear k3 LEA1) | (go_at_call 20; refine (LEA2.out _ V3.out).mono ?_; rintro e v4 ⟨rfl, k4⟩; have V4 : Hid (Kept [] wr v4) := V3.out.trans k4 (fun i hi => by cases hi); have S4 := Lib.hid (CEL.out _ V4.out); clear k4 LEA2))
              rename_i hh
              clear hh
              have IV : Hid (GwO w v4 B p B2 p2 (accs L) T2 (some ⟨g1, 0, none⟩) c L) := IK.out.step V4.out
              have AV : Hid (AtA v4 g1 i xn xl xv xk) := AK.out.kept V4.out
              clear S0 S1 S2 S3 S4 V1 V2 V3 V4 KD CEL IK AK
              go_wp2_with fail
              go_roundw
              case rel => exact ⟨k + 1, by go_num, by omega, IV, AV⟩
              case measure => simp [intOf]; omega
            · have j2 : ¬ (k : Int) < (L.length : Int) := by omega
              go_wp2_with fail
              go_roundw
              case rel => exact ⟨i + 1, by go_num, by omega, IK⟩
              case measure => simp [intOf]; omega
        · have j1 : ¬ (i : Int) < (L.length : Int) := by omega
          go_wp2_with fail
          go_ret
          exact ⟨rfl, IF.out.kept⟩
end Us
end Go.Proofs.YteeheapenfklcaaDoor
