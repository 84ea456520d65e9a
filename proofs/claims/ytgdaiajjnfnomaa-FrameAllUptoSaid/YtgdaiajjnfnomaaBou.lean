/- A book's turn, walked. -/
import Derived.Test.YtgdaiajjnfnomaaBo2
import Derived.Test.YtgdaiajjnfnomaaBo3
namespace Go.Proofs.Ytgdaiajjnfnomaa
set_option linter.unusedVariables false
open Go.RowKit
namespace Law
open Cut
set_option maxHeartbeats 64000000 in
set_option maxRecDepth 100000 in
theorem turn_any (w : World) (k : Nat) (lv mv hv tv fv wv : Value) (vs : List Value) (fs : List (List UInt8)) (ms : List UInt8) (hs : List Value) (hb : List (List UInt8)) (ts xs ys : List Value) (xb : List (List UInt8)) (col : Nat → Nat)
    (hl : fs.length + 5 * hb.length ≤ 1000000000) (hfb : Hid (∀ x ∈ fs, x.length ≤ 1200000000)) (hbb : Hid (∀ x ∈ hb, x.length ≤ 1100000000))
    (h : Hid (BS w k lv mv hv tv fv wv vs fs ms hs hb ts xs ys xb col)) :
    Calls Try.prog 7 #[.pointer (some ⟨k, 0, none⟩)] w fun e w' => e = .returned (.bool true) ∧ ∃ (lv' mv' : Value) (L : List Value) (F : List (List UInt8)) (M : List UInt8) (col' : Nat → Nat),
      Hid (BS w' k lv' mv' fv wv (.slice none 0 0) (.slice none 0 0) L F M xs xb ys [] [] [] (fun b => recol (col' b))) ∧ Hid (F.length ≤ fs.length + 5 * hb.length) ∧ Hid (∀ x ∈ F, x.length ≤ 1200000000) ∧ Hid (Far w col w' col') := by
  obtain ⟨la, lc, rfl⟩ := h.out.l.val
  obtain ⟨ha, hc, rfl⟩ := h.out.h.val
  obtain ⟨ta, tc, rfl⟩ := h.out.t.val
  obtain ⟨ma, mc, rfl⟩ := own_slice h.out.m
  obtain ⟨c0, c1, c2, c3, c4, c5, fz⟩ := sixB h.out.box
  go_enter Try.func7, Try.ntmps7
  go_upto_block 0 with (fail)
  go_cut [3] from 16 (fun s3 wx => s3 = .bool true ∧ Hid (Kept [] w wx))
  case first =>
    --S1
    as_aux_lemma =>
      clear c0 c1 c2 c3 c4 c5 fz
      go_wp2_with fail
      go_loopw [3, 5] (fun s3 s5 wr => ∃ i : Nat, s3 = .bool true ∧ s5 = .int .i64 i ∧ i ≤ hb.length ∧ Hid (Kept [] w wr)) (fun _ s5 _ => hb.length - (intOf s5).toNat)
      case atStart => exact ⟨0, rfl, rfl, Nat.zero_le _, Kept.refl _ _⟩
      case round =>
        obtain ⟨i, rfl, rfl, hi, hK⟩ := hrel
        have B := h.out.kept hK.out (fun b hb => by simp at hb)
        obtain ⟨c0, c1, c2, c3, c4, c5, fz⟩ := sixB B.box
        by_cases hlt : i < hb.length
        · have j1 : (i : Int) < (hb.length : Int) := by omega
          obtain ⟨b1, d1, y1, e1, g1, f1, -, o1, -⟩ := B.h.at rfl i hlt (Nat.zero_le _)
          obtain ⟨b2, d2, y2, e2, g2, f2, -, o2, -⟩ := B.t.at rfl i hlt (Nat.zero_le _)
          cases e1
          cases e2
          obtain ⟨x1, z1, rfl⟩ := own_slice o1
          obtain ⟨x2, z2, rfl⟩ := own_slice o2
          have hfk : hb[i].length ≤ 1100000000 := hbb.out _ (List.getElem_mem hlt)
          obtain ⟨bs, hbs⟩ : ∃ bs, bs = hb[i] := ⟨_, rfl⟩
          rw [← hbs] at o1 o2 hfk f1 f2
          have s1 : Hid (Seg wr.drew (.slice x1 bs.length z1) bs (Value.slice x1 bs.length z1).ownBlock.toList) := Seg.of_own o1
          have s2 : Hid (Seg wr.drew (.slice x2 bs.length z2) bs (Value.slice x2 bs.length z2).ownBlock.toList) := Seg.of_own o2
          have SAME := Lib.hid (Lst.same_any wr.drew _ _ bs bs _ _ (by omega) s1 s2)
          rw [decide_eq_true (rfl : bs = bs)] at SAME
          clear B hbs o1 o2 s1 s2 c0 c1 c4 c5
          go_wp2_with fail
          go_still_tail 14, (by kernel_rfl)
          change wpList _ _ _ _ _ wr.drew
          go_wp2_with fail
          refine SAME.out.mono ?_
          rintro e w2 ⟨rfl, k2⟩
          have K2 : Hid (Kept [] w w2) := (hK.out.drew).trans k2 (fun i hi => by simp at hi)
          clear k2 SAME hK
          go_wp2_with fail
          go_roundw
          case rel => exact ⟨i + 1, rfl, by go_num, by omega, K2⟩
          case measure => simp [intOf]; omega
        · have j1 : ¬ (i : Int) < (hb.length : Int) := by omega
          clear B
          go_wp2_with fail
          go_meet
          case rel => exact ⟨rfl, hK⟩
    --E1
  case rest =>
    obtain ⟨rfl, hK⟩ := hcut
    have B0 := Lib.hid (h.out.kept hK.out (fun b hb => by simp at hb))
    have HB0 := h
    clear c0 c1 c2 c3 c4 c5 fz
    go_upto_block 2 with (fail)
    have hlm := h.out.lm
    have huni := h.out.uni
    obtain ⟨i0, hi0, hz00, hz01, hz02⟩ := info_parts info_u8
    obtain ⟨i1, hi1, hz10, hz11, hz12⟩ := info_parts info_sl
    have hhl : Hid (hs.length = hb.length) := B0.out.h.len
    have X0 := Lib.hid B0.out.start
    have FAR0 : Hid (Far w col wc col) := (Far.refl w col).pure hK.out
    clear B0 hK
    go_cut [3] from 16 (fun s3 wx => s3 = .bool true ∧ ∃ (lv mv : Value) (F : List (List UInt8)) (M : List UInt8) (col' : Nat → Nat), Hid (BX wx k lv mv (.slice ha hb.length hc) (.slice ta hb.length tc) fv wv (vs ++ hs) F M hs hb xs ys xb col' hs.length hs.length) ∧ Hid (Uni F M) ∧ Hid (M.length = F.length) ∧ Hid (F.length = fs.length + hb.length) ∧ Hid (Bnd F fs.length) ∧ Hid (Far w col wx col'))
    case first =>
      exact turn2 w wc k _ _ fv wv vs fs ms hs hb xs ys xb col ha ta hc tc hl hfb hbb hlm huni hhl X0 FAR0 ‹_› ‹_›
    case rest =>
      obtain ⟨rfl, lv, mv, F, M, col2, X, U, LM, LF, FB, FAR⟩ := hcut
      obtain ⟨la', lc', rfl⟩ := X.out.l.val
      obtain ⟨ma', mc', rfl⟩ := own_slice X.out.m
      obtain ⟨c0, c1, c2, c3, c4, c5, fz⟩ := sixB X.out.box
      have hF1 : fs.length ≤ F.length := by have := LF.out; omega
      have hF2 : F.length ≤ fs.length + hb.length := by have := LF.out; omega
      have hF3 : fs.length + hb.length ≤ F.length := by have := LF.out; omega
      clear X0 FAR0 huni hlm h hbb hfb
      go_upto_block 6 with (fail)
      have hvs : Hid (∀ e ∈ vs, ∀ b, e.ownBlock = some b → col b = 0 ∧ b < w.heap.size) := fun e he b hb => by
        obtain ⟨q, hq, rfl⟩ := List.mem_iff_getElem.1 he
        obtain ⟨a1, a2⟩ := HB0.out.l.el q hq (by rw [← HB0.out.l.len]; exact hq) (Nat.zero_le _)
        exact ⟨a2 b hb, (a1.lt b hb).2⟩
      have hvl : Hid (vs.length = fs.length) := HB0.out.l.len
      obtain ⟨N0, hN0⟩ : ∃ N, N = F.length := ⟨_, rfl⟩
      rw [← hN0]
      have HN0 := Lib.hid hN0
      clear hN0
      go_cut [3] from 16 (fun s3 wx => s3 = .bool true ∧ ∃ (lv mv : Value) (ex : List Value) (F : List (List UInt8)) (M : List UInt8) (col' : Nat → Nat), Hid (BX wx k lv mv (.slice ha hb.length hc) (.slice ta hb.length tc) fv wv (vs ++ hs ++ ex) F M hs hb xs ys xb col' hs.length hs.length) ∧ Hid (Uni F M) ∧ Hid (M.length = F.length) ∧ Hid (F.length ≤ fs.length + 5 * hb.length) ∧ Hid (∀ x ∈ F, x.length ≤ 1200000000) ∧ Hid (Far w col wx col'))
      case first =>
        exact turn3 w wc k fv wv vs fs hs hb xs ys xb col col2 la' ma' ha ta lc' mc' hc tc N0 F M hl hhl X U LM FB FAR hvs hvl HN0 hF1 hF2 hF3 ‹_› ‹_›
      case rest =>
        --S4
        as_aux_lemma =>
          obtain ⟨rfl, lv, mv, ex, F, M, col3, X, U, LM, LL, FB, FAR⟩ := hcut
          obtain ⟨fa, fc, rfl⟩ := X.out.f.val
          obtain ⟨sa, sc, rfl⟩ := X.out.s.val
          obtain ⟨la', lc', rfl⟩ := X.out.l.val
          obtain ⟨ma', mc', rfl⟩ := own_slice X.out.m
          obtain ⟨c0, c1, c2, c3, c4, c5, fz⟩ := sixB X.out.box
          clear hF1 hF2 hF3
          obtain ⟨B9, K9⟩ := X.out.fin LM.out U.out
          have B9h := Lib.hid B9
          have K9h := Lib.hid K9
          have hkc := X.out.ck
          have FAR9 : Hid (Far w col ((((wc.setCell ⟨k, 2, none⟩ (.slice fa xb.length fc)).setCell ⟨k, 3, none⟩ (.slice sa xb.length sc)).setCell ⟨k, 4, none⟩ (.slice none 0 0)).setCell ⟨k, 5, none⟩ (.slice none 0 0)) col3) := FAR.out.step K9 (fun b hb _ => by simp at hb; subst hb; omega) (fun _ _ => rfl)
          have hfl9 : F.length ≤ 1000000000 := by have := LL.out; omega
          clear B9 K9 hkc
          go_upto_block 10 with (fail)
          obtain ⟨w9, hw9⟩ : ∃ w9, w9 = ((((wc.setCell ⟨k, 2, none⟩ (.slice fa xb.length fc)).setCell ⟨k, 3, none⟩ (.slice sa xb.length sc)).setCell ⟨k, 4, none⟩ (.slice none 0 0)).setCell ⟨k, 5, none⟩ (.slice none 0 0)) := ⟨_, rfl⟩
          rw [← hw9] at B9h K9h FAR9 ⊢
          clear hw9 c0 c1 c2 c3 c4 c5 fz
          go_wp2_with fail
          go_loopw [2, 14] (fun s2 s14 wr => ∃ i : Nat, s2 = .bool false ∧ s14 = .int .i64 i ∧ i ≤ F.length ∧ Hid (Kept [] w9 wr)) (fun _ s14 _ => F.length - (intOf s14).toNat)
          case atStart => exact ⟨0, rfl, rfl, Nat.zero_le _, Kept.refl _ _⟩
          case round =>
            obtain ⟨i, rfl, rfl, hi, hK⟩ := hrel
            have B := B9h.out.kept hK.out (fun b hb => by simp at hb)
            obtain ⟨c0, c1, c2, c3, c4, c5, fz⟩ := sixB B.box
            by_cases hlt : i < F.length
            · have j1 : (i : Int) < (F.length : Int) := by omega
              have hiM : i < M.length := by have := LM.out; omega
              obtain ⟨b1, d1, y1, e1, g1, f1, gy1, o1, -⟩ := B.l.at rfl i hlt (Nat.zero_le _)
              obtain ⟨hla, -, hlc⟩ : la' = some ⟨b1, 0, none⟩ ∧ F.length = F.length ∧ lc' = d1 := by simpa using e1
              obtain ⟨n1, hn1⟩ : ∃ n, n = F[i].length := ⟨_, rfl⟩
              have hrep : F[i] = List.replicate n1 M[i] := by rw [hn1]; exact U.out i hlt hiM
              have hnb : n1 ≤ 1200000000 := by rw [hn1]; exact FB.out _ (List.getElem_mem hlt)
              obtain ⟨x1, z1, hy⟩ := own_slice o1
              rw [← hn1] at hy
              subst hy
              have HREP := Lib.hid hrep
              have GY1 := Lib.hid gy1
              have HLA := Lib.hid hla
              rw [hla] at c0
              clear B c1 c2 c3 c4 c5 e1 o1 hn1 hrep gy1 hla hlc
              go_wp2_with fail
              go_loopw [2, 15] (fun s2 s15 wx => ∃ j : Nat, s2 = .bool false ∧ s15 = .int .i64 j ∧ j ≤ n1 ∧ Hid (Kept [] w9 wx)) (fun _ s15 _ => n1 - (intOf s15).toNat)
              case atStart => exact ⟨0, rfl, rfl, Nat.zero_le _, hK⟩
              case round =>
                clear c0 fz f1
                obtain ⟨j, rfl, rfl, hj, hK2⟩ := hrel
                have B := B9h.out.kept hK2.out (fun b hb => by simp at hb)
                obtain ⟨c0, c1, c2, c3, c4, c5, fz⟩ := sixB B.box
                obtain ⟨b2, d2, y2, e2, g2, f2, gy2, o2, -⟩ := B.l.at rfl i hlt (Nat.zero_le _)
                obtain ⟨hlb, -, -⟩ : la' = some ⟨b2, 0, none⟩ ∧ F.length = F.length ∧ lc' = d2 := by simpa using e2
                rw [GY1.out] at gy2
                cases gy2
                rw [hlb] at c0
                rw [HREP.out] at o2
                by_cases hlj : j < n1
                · have j2 : (j : Int) < (n1 : Int) := by omega
                  obtain ⟨gx, rfl⟩ : ∃ gx, x1 = some ⟨gx, 0, none⟩ := by
                    rcases o2.2 with ⟨e, _⟩ | ⟨g', cap, cur, e, _⟩
                    · have := (Value.slice.inj e).2.1; omega
                    · exact ⟨g', (Value.slice.inj e).1⟩
                  have hxcell : wr.cell? ⟨gx, j, none⟩ = some (.int .u8 M[i].toNat) := by
                    have := o2.cells (g := gx) rfl j (bv M[i]) (by rw [List.getElem?_map, List.getElem?_replicate, if_pos hlj]; rfl)
                    rw [Addr.add_lit, Nat.zero_add] at this
                    exact this
                  obtain ⟨mb, rfl⟩ : ∃ mb, ma' = some ⟨mb, 0, none⟩ := by
                    rcases B.m.2 with ⟨_, h0⟩ | ⟨g, cap, cur, e, _⟩
                    · omega
                    · exact ⟨g, (Value.slice.inj e).1⟩
                  have hmcell : wr.cell? ⟨mb, i, none⟩ = some (.int .u8 M[i].toNat) := by
                    have := B.m.cells (g := mb) rfl i (bv M[i]) (by rw [List.getElem?_map, List.getElem?_eq_getElem hiM]; rfl)
                    rw [Addr.add_lit, Nat.zero_add] at this
                    exact this
                  have j3 : (i : Int) < (M.length : Int) := by omega
                  have hmn : M.length ≤ 1000000000 := by have := LM.out; omega
                  clear B e2 o2 hlb c2 c3 c4 c5
                  go_upto_region 40 with fail
                  go_quiet (fail)
                  go_wp2_with fail
                  go_roundw
                  case rel => exact ⟨j + 1, rfl, by go_num, by omega, hK2.out.drewN _⟩
                  case measure => simp [intOf]; omega
                · have j2 : ¬ (j : Int) < (n1 : Int) := by omega
                  clear B e2 o2 hlb c1 c2 c3 c4 c5
                  go_wp2_with fail
                  go_roundw
                  case rel => exact ⟨i + 1, rfl, by go_num, by omega, hK2⟩
                  case measure => simp [intOf]; omega
            · have j1 : ¬ (i : Int) < (F.length : Int) := by omega
              clear B c1 c2 c3 c4 c5
              have B' := Lib.hid (B9h.out.kept hK.out (fun b hb => by simp at hb))
              have F' := Lib.hid (FAR9.out.pure hK.out)
              go_wp2_with fail
              first
                | (go_ret; exact ⟨rfl, _, _, _, F, M, col3, B', LL, FB, F'⟩)
                | exact bodyPost_ret (v := .bool true) (by simp [results, Try.f7, go_sem]) rfl ⟨rfl, _, _, _, F, M, col3, B', LL, FB, F'⟩
        --E4
end Law
end Go.Proofs.Ytgdaiajjnfnomaa
