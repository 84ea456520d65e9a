/- WireBack walked: what a writer has written is read again by the same row of calls. -/
import Derived.Test.YtdbhdajedgkpbaaWbm
import Derived.Test.YtdbhdajedgkpbaaAga
import Derived.Deep.Cut
import Derived.Deep.CutBlock
import Derived.Outline
namespace Go.Proofs.Ytdbhdajedgkpbaa
set_option linter.unusedVariables false
open Go.RowKit
namespace Bkw
open Go.Proofs.Ytdbhdajedgkpbaa.Txt

theorem info_op : (Try.prog.info? 43).map (fun i => (i.zero, i.size, i.bytes)) = some (some (.agg #[.int .i64 0, .int .i64 0, .int .u64 0, .int .i64 0, .slice none 0 0, .string ⟨#[]⟩]), 6, 72) := by kernel_rfl
theorem info_int : (Try.prog.info? 3).map (fun i => (i.zero, i.size, i.bytes)) = some (some (.int .i64 0), 1, 8) := by kernel_rfl
def lenOfV : Value → Nat
  | .slice _ n _ => n
  | _ => 0
theorem six {w : World} {p : Nat} {x0 x1 x2 x3 x4 x5 : Value} {t : TypeId} (h : w.heap[p]? = some (.cells #[x0, x1, x2, x3, x4, x5] t (0, 0))) :
    w.cell? ⟨p, 0, none⟩ = some x0 ∧ w.cell? ⟨p, 1, none⟩ = some x1 ∧ w.cell? ⟨p, 2, none⟩ = some x2 ∧ w.cell? ⟨p, 3, none⟩ = some x3 ∧ w.cell? ⟨p, 4, none⟩ = some x4 ∧ w.cell? ⟨p, 5, none⟩ = some x5 := by
  refine ⟨?_, ?_, ?_, ?_, ?_, ?_⟩
  all_goals
    rw [cell_of_row w p _ _ t (0, 0) h]
    rfl
set_option maxHeartbeats 16000000 in
set_option maxRecDepth 100000 in
theorem back_walk (w : World) (a : Option Addr) (cap b1 o1 : Nat) (xs : List (Stp × List UInt8)) (T : List Nat) (hx : xs.length ≤ 1048576) (hxc : xs.length ≤ cap) (hcap : cap ≤ 9223372036854775807) (h1 : Hid (Inc w a cap b1 o1 xs T)) :
    Calls Try.prog 5 #[.slice a xs.length cap] w fun e w' => e = .returned (.bool true) ∧ Kept [] w w' := by
  go_enter Try.func5, Try.ntmps5
  go_upto_if 15 with (fail)
  go_cut [0] from 13 (fun s0 wx => ∃ ys : List (Stp × List UInt8), s0 = .slice a ys.length cap ∧ ys.length ≤ 60000 ∧ ys.length ≤ cap ∧ Hid (Inc w a cap b1 o1 ys T) ∧ w = wx)
  case first =>
    by_cases hc : 60000 < xs.length
    · have j1 : (60000 : Int) < (xs.length : Int) := by omega
      have hl : (xs.take 60000).length = 60000 := by rw [List.length_take]; omega
      have hc2 : 60000 ≤ cap := by omega
      have HL := Lib.hid hl
      clear hl
      go_wp2_with fail
      go_meet
      case rel => exact ⟨xs.take 60000, by rw [HL.out], by rw [HL.out]; omega, by rw [HL.out]; omega, h1.out.take 60000, rfl⟩
    · have j1 : ¬ (60000 : Int) < (xs.length : Int) := by omega
      go_wp2_with fail
      go_meet
      case rel => exact ⟨xs, rfl, by omega, hxc, h1, rfl⟩
  case rest =>
    clear h1 hx hxc
    obtain ⟨xs, rfl, hx, hxc, h1, rfl⟩ := hcut
    go_wp2_with fail
    refine (Wrt.new_good w _ 60000 rfl (by decide)).mono ?_
    rintro e w1 ⟨rfl, hw, k1⟩
    obtain ⟨p, hp⟩ : ∃ p, p = w.heap.size := ⟨_, rfl⟩
    rw [← hp] at hw ⊢
    have hs1 := k1.size
    have I0 : Hid (BkL w w1 p ⟨60000, [], [], 0⟩ [p] (.slice none 0 0) (.slice none 0 0) [] w1) :=
      ⟨hw.out, World.ownsRow_nil _ _ _ _, World.ownsRow_nil _ _ _ _, (fun k hk => by cases hk), (fun k hk => by cases hk), fun k hk => by simp at hk; rw [hk, hp]; exact Nat.le_refl _, k1, Nat.le_refl _, hs1⟩
    have h1t : Hid (∀ k ∈ T, k < w.heap.size) := h1.out.t
    obtain ⟨i1, hi1, hz10, hz11, hz12⟩ := info_parts info_op
    obtain ⟨i0, hi0, hz00, hz01, hz02⟩ := info_parts info_int
    clear hp hw k1
    go_upto_block 0 with (fail)
    go_cut [5, 6, 7] from 13 (fun s5 s6 s7 wx => ∃ (st : WS) (S : List Nat) (pv lv : Value) (L : List (Stp × List UInt8)), lv = s5 ∧ pv = s6 ∧ s7 = .int .i64 st.bs.length ∧ L.length ≤ 60000 ∧ Hid (Wb L st) ∧ Hid (BkL w w1 p st S pv lv L wx) ∧ Hid (∀ x ∈ L, StpOk w x.1 x.2 T))
    case first =>
      go_wp2_with fail
      go_loopw [5, 6, 7, 8] (fun s5 s6 s7 iv wr => ∃ (i : Nat) (st : WS) (S : List Nat) (pv lv : Value) (L : List (Stp × List UInt8)), lv = s5 ∧ pv = s6 ∧ s7 = .int .i64 st.bs.length ∧ iv = .int .i64 i ∧ i ≤ xs.length ∧ L.length ≤ i ∧ Hid (Wb L st) ∧ Hid (BkL w w1 p st S pv lv L wr) ∧ Hid (∀ x ∈ L, StpOk w x.1 x.2 T)) (fun _ _ _ iv _ => xs.length - (intOf iv).toNat)
      case atStart => exact ⟨0, ⟨60000, [], [], 0⟩, [p], _, _, [], rfl, rfl, rfl, rfl, by omega, Nat.le_refl _, Wb.start, I0, fun x hx => by simp at hx⟩
      case round =>
        clear I0
        obtain ⟨i, st, S, pv, lv, L, rfl, rfl, rfl, rfl, hi, hLi, HB, I, HOK⟩ := hrel
        obtain ⟨la, lc, rfl, -, -, -⟩ := ownRow_slice I.out.li
        obtain ⟨pa, pc, rfl, hpc1, hpc2, -⟩ := ownRow_slice I.out.pl
        have hlen := HB.out.len
        have hos2 := HB.out.os2
        by_cases hlt : i < xs.length
        · have j1 : (i : Int) < (xs.length : Int) := by omega
          have hin := h1.out.kept I.out.kept (fun _ _ hm => by simp at hm)
          obtain ⟨rfl, -⟩ := hin.a (by omega)
          obtain ⟨-, hce, hst⟩ := hin.at' i hlt
          have hstw := (h1.out.at' i hlt).2.2
          obtain ⟨⟨o, bo⟩, hx2⟩ : ∃ x, x = xs[i] := ⟨_, rfl⟩
          rw [← hx2] at hce hst hstw
          obtain ⟨who, kind, n, k, b', s⟩ := o
          simp only at hce hst hstw
          obtain ⟨ba', bc', rfl⟩ : ∃ a c, b' = .slice a bo.length c := by obtain ⟨a, c, h1, -⟩ := hst.b; exact ⟨a, c, h1⟩
          have hsn : n ≤ 18446744073709551615 := hst.n
          have hss : s.size ≤ 1048576 := hst.s
          have hbl : bo.length ≤ 1048576 := hst.bl
          have hce2 : Hid (∀ (wz : World), Kept [] wr wz → ∀ j, j < 6 → wz.cell? ⟨b1, o1 + i * 6 + j, none⟩ = (Stp.cells ⟨who, kind, n, k, .slice ba' bo.length bc', s⟩)[j]?) := fun wz hz j hj => by
            rw [← hce j hj]
            exact World.cell?_of_block (hz.block b1 (hin.t b1 (hin.at' i hlt).1) (by simp))
          have HST := Lib.hid hst
          have HSTW := Lib.hid hstw
          have SIZE := Lib.hid (fun (wz : World) => size_any wz who kind k n bo.length bc' ba' s (by omega))
          obtain ⟨z, hz⟩ : ∃ z, z = szof kind bo.length s := ⟨_, rfl⟩
          have hz72 : kind = 7 → z = 2 := fun h => by rw [hz, h]; rfl
          have hz80 : kind = 8 → z = 0 := fun h => by rw [hz, h]; rfl
          have hzb : z ≤ 1050000 := by
            rw [hz]
            unfold szof
            have := lett_length s
            repeat' split
            all_goals omega
          rw [← hz] at SIZE
          have HZ := Lib.hid hz
          have d0 : wr.cell? ⟨b1, o1 + i * 6, none⟩ = some (.int .i64 who) := hce 0 (by decide)
          have d1 : wr.cell? ⟨b1, o1 + i * 6 + 1, none⟩ = some (.int .i64 kind) := hce 1 (by decide)
          have d2 : wr.cell? ⟨b1, o1 + i * 6 + 2, none⟩ = some (.int .u64 n) := hce 2 (by decide)
          have d3 : wr.cell? ⟨b1, o1 + i * 6 + 3, none⟩ = some (.int .i64 k) := hce 3 (by decide)
          have d4 : wr.cell? ⟨b1, o1 + i * 6 + 4, none⟩ = some (.slice ba' bo.length bc') := hce 4 (by decide)
          have d5 : wr.cell? ⟨b1, o1 + i * 6 + 5, none⟩ = some (.string s) := hce 5 (by decide)
          clear hin hce hst hstw hz hx2
          go_wp2_with fail
          refine (SIZE.out wr).mono ?_
          rintro e w2 ⟨rfl, k2⟩
          have I2 := Lib.hid (I.out.pure k2)
          have g := hce2.out w2 k2
          have e0 : w2.cell? ⟨b1, o1 + i * 6, none⟩ = some (.int .i64 who) := g 0 (by decide)
          have e1 : w2.cell? ⟨b1, o1 + i * 6 + 1, none⟩ = some (.int .i64 kind) := g 1 (by decide)
          have e2 : w2.cell? ⟨b1, o1 + i * 6 + 2, none⟩ = some (.int .u64 n) := g 2 (by decide)
          have e3 : w2.cell? ⟨b1, o1 + i * 6 + 3, none⟩ = some (.int .i64 k) := g 3 (by decide)
          have e4 : w2.cell? ⟨b1, o1 + i * 6 + 4, none⟩ = some (.slice ba' bo.length bc') := g 4 (by decide)
          have e5 : w2.cell? ⟨b1, o1 + i * 6 + 5, none⟩ = some (.string s) := g 5 (by decide)
          clear g I k2 hce2 d0 d1 d2 d3 d4 d5
          by_cases hsz : st.bs.length + z ≤ 60000
          · have j2 : (st.bs.length : Int) + (z : Int) ≤ 60000 := by omega
            go_wp2_with fail
            refine (SIZE.out _).mono ?_
            rintro e w4 ⟨rfl, k4⟩
            obtain ⟨ob, hob⟩ : ∃ ob, ob = w2.heap.size := ⟨_, rfl⟩
            have BX4 : Hid (w4.heap[ob]? = some (.cells #[.int .i64 who, .int .i64 kind, .int .u64 n, .int .i64 k, .slice ba' bo.length bc', .string s] 43 (0, 0))) := by rw [hob]; exact (k4.block _ (by simp) (by simp)).trans (heap_alloc_new w2 _)
            have I4 := Lib.hid (I2.out.pure (((Kept.refl [] w2).alloc _).trans k4 (fun i hi => by simp at hi)))
            have hoS : Hid (∀ k ∈ S, k < ob) := fun k hk => by rw [hob]; exact I2.out.wrt.lt k hk
            rw [← hob]
            clear hob k4 I2 e0 e1 e2 e3 e4 e5 SIZE
            obtain ⟨c0, c1, c2, c3, c4, c5⟩ := six BX4.out
            have hb4 : Hid (Src w4 (.slice ba' bo.length bc') bo T) := (HSTW.out.kept I4.out.kept (fun _ _ hm => by simp at hm)).b
            have hd4 : Hid (∀ k ∈ T, k ∉ S) := fun k hk hm => by have a := h1t.out k hk; have b := I4.out.far k hm; omega
            have LAYS := Lib.hid (lays_any w4 p S T st who k n (.slice ba' bo.length bc') bo s hsn (by omega) (by omega) hb4 hd4 HB.out.ok I4.out.wrt kind)
            have hLx : Hid (∀ x ∈ L ++ [((⟨who, kind, n, k, .slice ba' bo.length bc', s⟩ : Stp), bo)], StpOk w x.1 x.2 T) := fun x hx => by
              rcases List.mem_append.1 hx with q | q
              · exact HOK.out x q
              · simp at q; rw [q]; exact HSTW.out
            clear hb4 hd4
            by_cases h7 : kind = 7
            · subst h7
              have hz2 := hz72 rfl
              obtain ⟨l1, l2, l3⟩ := HB.out.opens ⟨who, 7, n, k, .slice ba' bo.length bc', s⟩ bo rfl (by omega)
              have el : st.lays 7 n bo s = st := by unfold WS.lays; rw [if_neg (by decide), if_neg (by decide), if_neg (by decide), if_neg (by decide), if_neg (by decide), if_neg (by decide)]
              have LAYS2 := LAYS.out
              rw [el] at LAYS2
              have LAYS3 := Lib.hid LAYS2
              have q1 : ((st.bs.length : Int) != (st.bs.length : Int) + (z : Int) - 2) = false := by rw [bne_eq_false_iff_eq]; omega
              have l4 : (((st.bs ++ [0, 0]).length : Nat) : Int) = (st.bs.length : Int) + (z : Int) := by simp; omega
              have L1 := Lib.hid l1
              have L2 := Lib.hid l2
              have L3 := Lib.hid l3
              have L4 := Lib.hid l4
              have hosl : st.os.length + 1 ≤ 30001 := by omega
              clear l1 l2 l3 l4 el LAYS2 LAYS hz2
              go_wp2_with fail
              refine LAYS3.out.mono ?_
              rintro e w5 ⟨rfl, o5⟩
              obtain ⟨S5, I5, k5, s5⟩ := I4.out.turn o5 rfl
              have BX5 := (k5.block _ (block_lt BX4.out) (fun hm => by have := hoS.out _ hm; omega)).trans BX4.out
              have hn5 : Hid (ob ∉ S5) := fun hm => by
                rcases s5 _ hm with q | q
                · have := hoS.out _ q; omega
                · have := block_lt BX4.out; omega
              have I5h := Lib.hid I5
              have OPEN := Wrt.open_any w5 p S5 st HB.out.ok I5.wrt
              rw [L1.out, L2.out] at OPEN
              have OPENh := Lib.hid OPEN
              clear I4 o5 k5 s5 I5 LAYS3 c0 c1 c2 c3 c4 c5 OPEN
              obtain ⟨c0, c1, c2, c3, c4, c5⟩ := six BX5
              have BX5h := Lib.hid BX5
              clear BX5
              go_wp2_with fail
              refine OPENh.out.mono ?_
              rintro e w6 ⟨rfl, o6⟩
              obtain ⟨S6, M6', k6, s6⟩ := I5h.out.away o6
              have BX6 : Hid _ := (k6.block _ (block_lt BX5h.out) hn5.out).trans BX5h.out
              have M6 := Lib.hid M6'
              have hw16 := M6'.big
              clear I5h o6 k6 s6 OPENh c0 c1 c2 c3 c4 c5 BX5h M6'
              go_wp2_with (first | (at_builtin; refine wpList_append_own_at (w6.alloc (.cells #[.int .i64 st.bs.length] 3)) rfl (.tmp 64) (.tmp 66) 22 rfl w1.heap.size 3 i0 (.int .i64 0) 1 8 Try.underlying22 hi0 hz00 hz01 hz02 rfl (by decide) (.slice pa st.os.length pc) st.os.length (st.os.map iv) rfl (M6.out.pl.alloc _) ⟨w6.heap.size, 0, none⟩ 1 1 [.int .i64 st.bs.length] rfl rfl (World.news_of_block (cs := #[.int .i64 st.bs.length]) (by exact heap_alloc_new w6 _)) (by intro u hu; simp at hu; subst hu; rfl) (by unfold maxLen; omega) (by omega) (by simp; omega) ?_; intro v7 w7 hown7 hgrow7 hnil7 hat7; have P7 := M6.out.push (q := st.bs.length) rfl ((Kept.refl [] w6).alloc _) rfl hown7 hgrow7 hat7; have BX7 := (P7.2.block _ (block_lt BX6.out) (fun hm => ownRow_neB M6.out.pl BX6.out (by decide) _ (by simpa using hm) rfl)).trans BX6.out; obtain ⟨c0, c1, c2, c3, c4, c5⟩ := six BX7; have I7h := Lib.hid P7.1; have hw17 := P7.1.big; obtain ⟨qa, qc, rfl, -, -, -⟩ := ownRow_slice hown7; clear hown7 hgrow7 hnil7 hat7 P7 BX7) | (at_builtin; refine wpList_append_own_at (w7.alloc (.cells #[.int .i64 who, .int .i64 7, .int .u64 n, .int .i64 k, .slice ba' bo.length bc', .string s] 43)) rfl (.tmp 87) (.tmp 89) 23 rfl w1.heap.size 43 i1 _ 6 72 Try.underlying23 hi1 hz10 hz11 hz12 rfl (by decide) (.slice la L.length lc) L.length (cellsOf L) rfl (I7h.out.li.alloc _) ⟨w7.heap.size, 0, none⟩ 1 1 (Stp.cells ⟨who, 7, n, k, .slice ba' bo.length bc', s⟩) rfl rfl (World.news_of_block (cs := #[.int .i64 who, .int .i64 7, .int .u64 n, .int .i64 k, .slice ba' bo.length bc', .string s]) (by exact heap_alloc_new w7 _)) (by intro u hu; simp [Stp.cells] at hu; rcases hu with rfl | rfl | rfl | rfl | rfl | rfl <;> rfl) (by unfold maxLen; omega) (by omega) (by simp; omega) ?_; intro v9 w9 hown9 hgrow9 hnil9 hat9; have I9 := Lib.hid (I7h.out.step (⟨who, 7, n, k, .slice ba' bo.length bc', s⟩, bo) ((Kept.refl [] w7).alloc _) rfl hown9 hgrow9 hat9); obtain ⟨ya, yc, rfl, -, -, -⟩ := ownRow_slice hown9; clear hown9 hgrow9 hnil9 hat9))
              go_roundw
              case rel => exact ⟨i + 1, _, S6, _, _, _, rfl, rfl, by simp, by go_num, by omega, by simp; omega, L3, I9, hLx⟩
              case measure => simp [intOf]; omega
            · by_cases h8 : kind = 8
              · subst h8
                have hz0 := hz80 rfl
                have el : st.lays 8 n bo s = st := by unfold WS.lays; rw [if_neg (by decide), if_neg (by decide), if_neg (by decide), if_neg (by decide), if_neg (by decide), if_neg (by decide)]
                have LAYS2 := LAYS.out
                rw [el] at LAYS2
                have LAYS3 := Lib.hid LAYS2
                have l4 : (st.bs.length : Int) + (z : Int) = (st.bs.length : Int) := by omega
                have L4 := Lib.hid l4
                clear l4 el LAYS2 LAYS hz0
                rcases List.eq_nil_or_concat st.os with ho | ⟨os', q, ho⟩
                · have q1 : ((st.os.length : Int) == 0) = true := by rw [ho]; rfl
                  have HO := Lib.hid ho
                  clear ho
                  go_wp2_with fail
                  refine LAYS3.out.mono ?_
                  rintro e w5 ⟨rfl, o5⟩
                  obtain ⟨S5, I5, k5, s5⟩ := I4.out.turn o5 rfl
                  have BX5 := (k5.block _ (block_lt BX4.out) (fun hm => by have := hoS.out _ hm; omega)).trans BX4.out
                  have I5h := Lib.hid I5
                  clear I4 o5 k5 s5 I5 LAYS3 c0 c1 c2 c3 c4 c5
                  obtain ⟨c0, c1, c2, c3, c4, c5⟩ := six BX5
                  clear BX5
                  go_wp2_with fail
                  go_roundw
                  case rel => exact ⟨i + 1, st, S5, _, _, L, rfl, rfl, rfl, by go_num, by omega, by omega, HB, I5h, HOK⟩
                  case measure => simp [intOf]; omega
                · rw [List.concat_eq_append] at ho
                  obtain ⟨m, hm⟩ : ∃ m, m = os'.length := ⟨_, rfl⟩
                  have hml : st.os.length = m + 1 := by rw [ho, hm]; simp
                  obtain ⟨bs', l1, l2, l3⟩ := HB.out.shuts ⟨who, 8, n, k, .slice ba' bo.length bc', s⟩ bo rfl os' q (q : Int) rfl ho
                  rw [hml] at I4 hpc1 ⊢
                  have HO := Lib.hid ho
                  have HM := Lib.hid hm
                  have L1 := Lib.hid l1
                  have L2 := Lib.hid l2
                  have L3 := Lib.hid l3
                  have hmb : m ≤ 30000 := by omega
                  have hmc : m ≤ pc := by omega
                  clear ho hm hml l1 l2 l3 hos2
                  go_wp2_with fail
                  refine LAYS3.out.mono ?_
                  rintro e w5 ⟨rfl, o5⟩
                  obtain ⟨S5, I5, k5, s5⟩ := I4.out.turn o5 rfl
                  have BX5 := (k5.block _ (block_lt BX4.out) (fun hm => by have := hoS.out _ hm; omega)).trans BX4.out
                  have hn5 : Hid (ob ∉ S5) := fun hm => by
                    rcases s5 _ hm with q | q
                    · have := hoS.out _ q; omega
                    · have := block_lt BX4.out; omega
                  have hpl : w5.ownsRow w1.heap.size 3 1 (.slice pa (m + 1) pc) (m + 1) ((os' ++ [q]).map iv) := by
                    have h := I5.pl
                    rw [HO.out, List.length_append, List.length_singleton, ← HM.out] at h
                    exact h
                  obtain ⟨gq, rfl, hq⟩ := place_last (by rw [HM.out]) hpl
                  rw [← HM.out] at hq
                  have I5h := Lib.hid I5
                  have SHUT := Wrt.shut_any w5 p S5 st (q : Int) HB.out.ok HB.out.fit I5.wrt
                  rw [L1.out] at SHUT
                  have SHUTh := Lib.hid SHUT
                  clear I4 o5 k5 s5 I5 LAYS3 c0 c1 c2 c3 c4 c5 SHUT hpl
                  obtain ⟨c0, c1, c2, c3, c4, c5⟩ := six BX5
                  have BX5h := Lib.hid BX5
                  clear BX5
                  go_wp2_with fail
                  refine SHUTh.out.mono ?_
                  rintro e w6 ⟨rfl, o6⟩
                  obtain ⟨S6, M6, k6, s6⟩ := I5h.out.away o6
                  rw [HO.out] at M6
                  have I6h := Lib.hid (BkM.pop (by rw [HM.out]) HM.out M6 rfl)
                  have hw16 := M6.big
                  have BX6 := (k6.block _ (block_lt BX5h.out) hn5.out).trans BX5h.out
                  clear I5h o6 k6 s6 SHUTh c0 c1 c2 c3 c4 c5 BX5h M6 hq
                  obtain ⟨c0, c1, c2, c3, c4, c5⟩ := six BX6
                  clear BX6
                  go_wp2_with (at_builtin; refine wpList_append_own_at (w6.alloc (.cells #[.int .i64 who, .int .i64 8, .int .u64 n, .int .i64 k, .slice ba' bo.length bc', .string s] 43)) rfl (.tmp 87) (.tmp 89) 23 rfl w1.heap.size 43 i1 _ 6 72 Try.underlying23 hi1 hz10 hz11 hz12 rfl (by decide) (.slice la L.length lc) L.length (cellsOf L) rfl (I6h.out.li.alloc _) ⟨w6.heap.size, 0, none⟩ 1 1 (Stp.cells ⟨who, 8, n, k, .slice ba' bo.length bc', s⟩) rfl rfl (World.news_of_block (cs := #[.int .i64 who, .int .i64 8, .int .u64 n, .int .i64 k, .slice ba' bo.length bc', .string s]) (by exact heap_alloc_new w6 _)) (by intro u hu; simp [Stp.cells] at hu; rcases hu with rfl | rfl | rfl | rfl | rfl | rfl <;> rfl) (by unfold maxLen; omega) (by omega) (by simp; omega) ?_; intro v9 w9 hown9 hgrow9 hnil9 hat9; have I9 := Lib.hid (I6h.out.step (⟨who, 8, n, k, .slice ba' bo.length bc', s⟩, bo) ((Kept.refl [] w6).alloc _) rfl hown9 hgrow9 hat9); obtain ⟨ya, yc, rfl, -, -, -⟩ := ownRow_slice hown9; clear hown9 hgrow9 hnil9 hat9)
                  go_roundw
                  case rel => exact ⟨i + 1, _, S6, _, _, _, rfl, rfl, (by show _ = Value.int _ ((bs'.length : Nat) : Int); rw [L2.out]), by go_num, by omega, by simp; omega, L3, I9, hLx⟩
                  case measure => simp [intOf]; omega
              · have q7 : (kind == 7) = false := by rw [beq_eq_false_iff_ne]; exact h7
                have q8 : (kind == 8) = false := by rw [beq_eq_false_iff_ne]; exact h8
                obtain ⟨l1, l2, l3⟩ := HB.out.lay ⟨who, kind, n, k, .slice ba' bo.length bc', s⟩ bo h7 h8 (by rw [← HZ.out]; exact hsz)
                have LAYS2 := LAYS.out
                rw [show st.lays kind n bo s = _ from l1] at LAYS2
                have LAYS3 := Lib.hid LAYS2
                have l3' : (((st.bs ++ stb kind n bo s).length : Nat) : Int) = (st.bs.length : Int) + (z : Int) := by rw [HZ.out]; have h := l3; simp only at h; omega
                have L2 := Lib.hid l2
                have L3 := Lib.hid l3'
                clear l1 l2 l3 l3' LAYS2 LAYS
                go_wp2_with fail
                refine LAYS3.out.mono ?_
                rintro e w5 ⟨rfl, o5⟩
                obtain ⟨S5, I5, k5, s5⟩ := I4.out.turn o5 rfl
                have BX5 := (k5.block _ (block_lt BX4.out) (fun hm => by have := hoS.out _ hm; omega)).trans BX4.out
                have I5h := Lib.hid I5
                have hw15 := I5.big
                clear I4 o5 k5 s5 I5 LAYS3 c0 c1 c2 c3 c4 c5
                obtain ⟨c0, c1, c2, c3, c4, c5⟩ := six BX5
                clear BX5
                go_wp2_with (at_builtin; refine wpList_append_own_at (w5.alloc (.cells #[.int .i64 who, .int .i64 kind, .int .u64 n, .int .i64 k, .slice ba' bo.length bc', .string s] 43)) rfl (.tmp 87) (.tmp 89) 23 rfl w1.heap.size 43 i1 _ 6 72 Try.underlying23 hi1 hz10 hz11 hz12 rfl (by decide) (.slice la L.length lc) L.length (cellsOf L) rfl (I5h.out.li.alloc _) ⟨w5.heap.size, 0, none⟩ 1 1 (Stp.cells ⟨who, kind, n, k, .slice ba' bo.length bc', s⟩) rfl rfl (World.news_of_block (cs := #[.int .i64 who, .int .i64 kind, .int .u64 n, .int .i64 k, .slice ba' bo.length bc', .string s]) (by exact heap_alloc_new w5 _)) (by intro u hu; simp [Stp.cells] at hu; rcases hu with rfl | rfl | rfl | rfl | rfl | rfl <;> rfl) (by unfold maxLen; omega) (by omega) (by simp; omega) ?_; intro v9 w9 hown9 hgrow9 hnil9 hat9; have I9 := Lib.hid (I5h.out.step (⟨who, kind, n, k, .slice ba' bo.length bc', s⟩, bo) ((Kept.refl [] w5).alloc _) rfl hown9 hgrow9 hat9); obtain ⟨ya, yc, rfl, -, -, -⟩ := ownRow_slice hown9; clear hown9 hgrow9 hnil9 hat9)
                rw [← L3.out]
                go_roundw
                case rel => exact ⟨i + 1, _, S5, _, _, _, rfl, rfl, rfl, by go_num, by omega, by simp; omega, L2, I9, hLx⟩
                case measure => simp [intOf]; omega
          · have j2 : ¬ (st.bs.length : Int) + (z : Int) ≤ 60000 := by omega
            go_wp2_with fail
            go_meet
            case rel => exact ⟨st, S, _, _, L, rfl, rfl, rfl, by omega, HB, I2, HOK⟩
        · have j1 : ¬ (i : Int) < (xs.length : Int) := by omega
          go_wp2_with fail
          go_meet
          case rel => exact ⟨st, S, _, _, L, rfl, rfl, rfl, by omega, HB, I, HOK⟩
    case rest =>
      clear I0
      obtain ⟨st, S, pv, lv, L, rfl, rfl, rfl, hL, HB, I, HOK⟩ := hcut
      obtain ⟨N, hN⟩ : ∃ N, N = st.bs.length := ⟨_, rfl⟩
      have HN : Hid (st.bs.length = N) := hN.symm
      rw [← hN]
      clear hN
      go_wp2_with fail
      go_loopw [5, 6] (fun s5 s6 wr => ∃ (st : WS) (S : List Nat) (pv lv : Value) (L : List (Stp × List UInt8)), lv = s5 ∧ pv = s6 ∧ L.length + st.os.length ≤ 100000 ∧ Hid (st.bs.length = N) ∧ Hid (Wb L st) ∧ Hid (BkL w w1 p st S pv lv L wr) ∧ Hid (∀ x ∈ L, StpOk w x.1 x.2 T)) (fun _ s6 _ => lenOfV s6)
      case atStart => exact ⟨st, S, _, _, L, rfl, rfl, by have := HB.out.os2; have := HB.out.len; omega, HN, HB, I, HOK⟩
      case round =>
        clear I HB HOK HN hL
        obtain ⟨st, S, pv, lv, L, rfl, rfl, hL, HN, HB, I, HOK⟩ := hrel
        obtain ⟨la, lc, rfl, -, -, -⟩ := ownRow_slice I.out.li
        obtain ⟨pa, pc, rfl, hpc1, hpc2, -⟩ := ownRow_slice I.out.pl
        have hw1r := I.out.big
        rcases List.eq_nil_or_concat st.os with ho | ⟨os', q, ho⟩
        · have q1 : st.os.length = 0 := by rw [ho]; rfl
          have hbl := HB.out.len
          have hdone := HB.out.done ho
          have hB : st.toldB = st.bs := by unfold WS.toldB; rw [if_pos ⟨HB.out.err, ho⟩]
          have hE : ((st.toldE : Nat) : Int) = 0 := by unfold WS.toldE; rw [if_neg (by rw [HB.out.err]; simp), if_pos ho]; rfl
          have DONE := Wrt.done_any wr p S st HB.out.ok I.out.wrt
          rw [hB] at DONE
          have HD := Lib.hid hdone
          have HE := Lib.hid hE
          have DONEh := Lib.hid DONE
          have hNb : N ≤ 60000 := by have := HN.out; omega
          rw [q1]
          clear hdone hB hE DONE ho q1 hpc1
          go_wp2_with fail
          refine DONEh.out.mono ?_
          rintro e w2 ⟨vb, rfl, hob, k2⟩
          rw [HE.out]
          have I2 := Lib.hid (I.out.pure k2.out)
          obtain ⟨ba, bc, rfl, -, -, -⟩ := ownRow_slice hob.out
          have hbs : st.bs.length = N := HN.out
          have LEN := Wrt.len_any w2 p S st I2.out.wrt
          rw [hbs] at LEN
          have LENh := Lib.hid LEN
          have hsr : Hid (Src w2 (.slice ba st.bs.length bc) st.bs (Value.slice ba st.bs.length bc).ownBlock.toList) := Src.of_own hob.out
          rw [hbs] at hsr ⊢
          clear I DONEh hob k2 hbs LEN
          go_wp2_with fail
          refine LENh.out.mono ?_
          rintro e w3 ⟨rfl, rfl⟩
          have hss : Hid (Src w2 (.slice ba N bc) st.bs (Value.slice ba N bc).ownBlock.toList) := hsr
          have AG := again_any w2 (.slice ba N bc) st.bs _ T L la w1.heap.size lc I2.out.li (by rw [HN.out]; exact hNb) (by omega) HD.out.1 HD.out.2 (fun i h => (HOK.out _ (List.getElem_mem h)).kept I2.out.kept (fun _ _ hm => by simp at hm)) (fun k hk => Nat.lt_of_lt_of_le (h1t.out k hk) I2.out.kept.size) hss
          have AGh := Lib.hid AG
          clear AG hsr hss
          go_wp2_with fail
          refine AGh.out.mono ?_
          rintro e w4 ⟨rfl, k4⟩
          go_wp2_with fail
          go_ret
          exact ⟨rfl, I2.out.kept.trans k4 (fun i hi => by simp at hi)⟩
        · rw [List.concat_eq_append] at ho
          obtain ⟨m, hm⟩ : ∃ m, m = os'.length := ⟨_, rfl⟩
          have hml : st.os.length = m + 1 := by rw [ho, hm]; simp
          obtain ⟨bs', l1, l2, l3⟩ := HB.out.shuts ⟨0, 8, 0, 0, .slice none 0 0, ⟨#[]⟩⟩ [] rfl os' q (q : Int) rfl ho
          have hpl : wr.ownsRow w1.heap.size 3 1 (.slice pa (m + 1) pc) (m + 1) ((os' ++ [q]).map iv) := by
            have h := I.out.pl
            rw [ho, List.length_append, List.length_singleton, ← hm] at h
            exact h
          obtain ⟨gq, rfl, hq⟩ := place_last (by rw [hm]) hpl
          rw [← hm] at hq
          rw [hml] at I hpc1 hL ⊢
          have SHUT := Wrt.shut_any wr p S st (q : Int) HB.out.ok HB.out.fit I.out.wrt
          rw [l1] at SHUT
          have SHUTh := Lib.hid SHUT
          have HO := Lib.hid ho
          have HM := Lib.hid hm
          have L2 := Lib.hid l2
          have L3 := Lib.hid l3
          have hmc : m ≤ pc := by omega
          have hLx : Hid (∀ x ∈ L ++ [((⟨0, 8, 0, 0, .slice none 0 0, ⟨#[]⟩⟩ : Stp), ([] : List UInt8))], StpOk w x.1 x.2 T) := fun x hx => by
            rcases List.mem_append.1 hx with q | q
            · exact HOK.out x q
            · simp at q
              rw [q]
              exact ⟨Nat.zero_le _, Nat.zero_le _, ⟨none, 0, rfl, fun _ => ⟨rfl, rfl⟩, fun ad e => by cases e⟩, Nat.zero_le _⟩
          clear ho hm hml l1 l2 l3 SHUT hpl
          go_wp2_with fail
          refine SHUTh.out.mono ?_
          rintro e w6 ⟨rfl, o6⟩
          obtain ⟨S6, M6, k6, s6⟩ := I.out.away o6
          rw [HO.out] at M6
          have I6h := Lib.hid (BkM.pop (by rw [HM.out]) HM.out M6 rfl)
          have hw16 := M6.big
          clear I o6 k6 s6 SHUTh M6 hq
          go_wp2_with (at_builtin; refine wpList_append_own_at (w6.alloc (.cells #[.int .i64 0, .int .i64 8, .int .u64 0, .int .i64 0, .slice none 0 0, .string ⟨#[]⟩] 43)) rfl (.tmp 107) (.tmp 109) 23 rfl w1.heap.size 43 i1 _ 6 72 Try.underlying23 hi1 hz10 hz11 hz12 rfl (by decide) (.slice la L.length lc) L.length (cellsOf L) rfl (I6h.out.li.alloc _) ⟨w6.heap.size, 0, none⟩ 1 1 (Stp.cells ⟨0, 8, 0, 0, .slice none 0 0, ⟨#[]⟩⟩) rfl rfl (World.news_of_block (cs := #[.int .i64 0, .int .i64 8, .int .u64 0, .int .i64 0, .slice none 0 0, .string ⟨#[]⟩]) (by exact heap_alloc_new w6 _)) (by intro u hu; simp [Stp.cells] at hu; rcases hu with rfl | rfl | rfl | rfl | rfl | rfl <;> rfl) (by unfold maxLen; omega) (by omega) (by simp; omega) ?_; intro v9 w9 hown9 hgrow9 hnil9 hat9; have I9 := Lib.hid (I6h.out.step (⟨0, 8, 0, 0, .slice none 0 0, ⟨#[]⟩⟩, []) ((Kept.refl [] w6).alloc _) rfl hown9 hgrow9 hat9); obtain ⟨ya, yc, rfl, -, -, -⟩ := ownRow_slice hown9; clear hown9 hgrow9 hnil9 hat9)
          go_roundw
          case rel => exact ⟨{ st with bs := bs', os := os' }, S6, _, _, _, rfl, rfl, by have := HM.out; simp; omega, (show Hid (List.length bs' = N) from L2.out.trans HN.out), L3, I9, hLx⟩
          case measure => simp [lenOfV]
end Bkw
end Go.Proofs.Ytdbhdajedgkpbaa
