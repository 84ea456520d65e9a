/- NamesWords walked. -/
import Derived.Test.YtjdhgeikbkjnoaaDoorAlk
import Derived.Test.YtjdhgeikbkjnoaaDoorAwn
import Derived.Test.YtjdhgeikbkjnoaaDoorLdn
import Derived.Test.YtjdhgeikbkjnoaaDoorRck
import Derived.Deep.Cut
import Derived.Deep.CutBlock
import Derived.Deep.CutRange
namespace Go.Proofs.YtjdhgeikbkjnoaaDoor.namesWords
open Go.ChangeShapes Go.WideShapes Go.ChangeAt Go.RowKit Go.Shelf
attribute [local go_sem] Oper.semAt_some
open Go.Proofs.YtjdhgeikbkjnoaaDoor.Nm Go.Proofs.YtjdhgeikbkjnoaaDoor.Utf Go.Proofs.YtjdhgeikbkjnoaaDoor.Txt Go.PlainAid
set_option linter.unusedVariables false

/-- The line as far as it is made. -/
structure LnI (w : World) (xs : List ByteArray) (k : Nat) (line : ByteArray) (ps : List (List UInt8 × List UInt8)) (W : World) : Prop where
  eq : dl line = lineOf ps
  ws : ps.map Prod.snd = (xs.take k).map dl
  bl : ∀ p ∈ ps, p.1.all Nm.blank = true
  ne : ∀ p ∈ ps.drop 1, p.1 ≠ []
  sz : line.size + 3 * k ≤ 4 * wsum (xs.take k)
  kept : Kept [] w W

def gaps : List Value := [.string ⟨#[32]⟩, .string ⟨#[9]⟩, .string ⟨#[32, 32]⟩, .string ⟨#[32, 9, 32]⟩]

theorem wsum_take (xs : List ByteArray) (k : Nat) : wsum (xs.take k) ≤ wsum xs := by
  conv => rhs; rw [← List.take_append_drop k xs]
  generalize xs.take k = a; generalize xs.drop k = b
  induction a with
  | nil => simp [wsum]
  | cons y a ih => simp only [List.cons_append, wsum]; omega
theorem wsum_mem {xs : List ByteArray} {y : ByteArray} (h : y ∈ xs) : 2 + y.size ≤ wsum xs := by
  induction xs with
  | nil => cases h
  | cons x xs ih =>
    rcases List.mem_cons.1 h with rfl | h
    · simp only [wsum]; omega
    · have := ih h; simp only [wsum]; omega

set_option maxHeartbeats 16000000 in
set_option maxRecDepth 100000 in
theorem walk (w : World) (la : Option Addr) (lc : Nat) (xs : List ByteArray) (hL : Lst w (.slice la xs.length lc) xs) (hS : ∀ x ∈ xs, x.size ≤ 140737488355328) (hN : xs.length ≤ 140737488355328)
    (ra : Option Addr) (rc : Nat) (zs : List Int) (hz : LsZ w (.slice ra zs.length rc) zs) (hb : ∀ x ∈ zs, -9223372036854775808 ≤ x ∧ x ≤ 9223372036854775807) (hl : zs.length ≤ 140737488355328) :
    Calls Tryd.prog 9 #[.slice la xs.length lc, .slice ra zs.length rc] w fun e w' => e = .returned (.bool true) ∧ Kept [] w w' := by
  have AW := Lib.hid (fun w => awake_any w)
  have WG := Lib.hid (fun w h => weight_any w (.slice la xs.length lc) xs h hS hN)
  have LS := Lib.hid hL
  have LZ := Lib.hid hz
  have HB := Lib.hid hb
  clear hL hz hb hS
  go_enter Tryd.func9, Tryd.ntmps9
  go_wp2_with fail
  refine (AW.out w).mono ?_
  rintro e w1 ⟨rfl, k1⟩
  have K1 := Lib.hid k1
  have LS1 := Lib.hid (Lst.kept LS.out k1 (fun _ _ _ _ hm => by simp at hm))
  clear k1 AW
  go_wp2_with fail
  refine (WG.out w1 LS1.out).mono ?_
  rintro e w2 ⟨⟨n, rfl, hn⟩, rfl⟩
  have HN := Lib.hid hn
  clear hn WG LS1
  by_cases hw : (67108864 : Int) < n
  · go_wp2_with fail
    go_ret
    exact ⟨rfl, K1.out⟩
  have HW : Hid (wsum xs ≤ 268435456) := HN.out (by omega)
  have hxl : xs.length ≤ 134217728 := by have := wsum_len xs; have := HW.out; omega
  have I0 : Hid (LnI w xs 0 ⟨#[]⟩ [] w2) := ⟨rfl, rfl, (fun _ h => by cases h), (fun _ h => by cases h), (by show 0 ≤ _; omega), K1.out⟩
  clear HN K1
  go_wp2_with fail
  clear hw
  go_loopw [6, 7] (fun lv iv wr => ∃ (k : Nat) (line : ByteArray) (ps : List (List UInt8 × List UInt8)), lv = .string line ∧ iv = .int .i64 k ∧ k ≤ xs.length ∧ Hid (LnI w xs k line ps wr)) (fun _ iv _ => xs.length + 1 - (intOf iv).toNat)
  case atStart => exact ⟨0, ⟨#[]⟩, [], rfl, rfl, by omega, I0⟩
  case round =>
    obtain ⟨k, line, ps, rfl, rfl, hk, hI⟩ := hrel
    clear I0
    have j0 : (k : Int) ≤ (xs.length : Int) := by omega
    have hsz : line.size ≤ 1073741824 := by
      have h1 := hI.out.sz
      have h2 := wsum_take xs k
      have := HW.out
      omega
    go_upto_if 30 with fail
    go_cut [8] from 30 to 37 (fun s8 wx => ∃ x : Int, s8 = .int .i64 x ∧ -9223372036854775808 ≤ x ∧ x ≤ 9223372036854775807 ∧ wr = wx)
    case first =>
      by_cases hz0 : 0 < zs.length
      · have i0 : (0 : Int) < (zs.length : Int) := by omega
        have e1 : (k : Int).tmod (zs.length : Int) = ((k % zs.length : Nat) : Int) := (Int.ofNat_tmod k zs.length).symm
        have hml := Nat.mod_lt k hz0
        obtain ⟨za, zc, ez, -, hh⟩ := LsZ.kept LZ.out hI.out.kept (fun _ _ _ _ hm => by simp at hm)
        cases ez
        rcases hh with e | ⟨bz, oz, rfl, -, gz⟩
        · rw [e] at hz0; simp at hz0
        have cz := gz (k % zs.length) _ (List.getElem?_eq_getElem hml)
        have hbz := HB.out _ (List.getElem_mem hml)
        obtain ⟨x, hx⟩ : ∃ x, x = zs[k % zs.length] := ⟨_, rfl⟩
        rw [← hx] at cz hbz
        obtain ⟨j, hj⟩ : ∃ j, j = k % zs.length := ⟨_, rfl⟩
        rw [← hj] at e1 hml cz
        clear gz hx hj
        go_wp2_with fail
        go_meet
        exact ⟨x, rfl, hbz.1, hbz.2, rfl⟩
      · have i0 : ¬ (0 : Int) < (zs.length : Int) := by omega
        go_wp2_with fail
        go_meet
        exact ⟨0, rfl, by omega, by omega, rfl⟩
    case rest =>
      obtain ⟨x, rfl, hx1, hx2, rfl⟩ := hcut
      go_upto_if 39 with fail
      go_cut [8] from 39 to 42 (fun s8 wx => ∃ m : Nat, s8 = .int .i64 m ∧ m ≤ 9223372036854775807 ∧ wr = wx)
      case first =>
        by_cases hneg : x < 0
        · go_wp2_with fail
          go_meet
          exact ⟨(-(x + 1)).toNat, by congr 1; omega, by omega, rfl⟩
        · go_wp2_with fail
          go_meet
          exact ⟨x.toNat, by congr 1; omega, by omega, rfl⟩
      case rest =>
        obtain ⟨m, rfl, hm, rfl⟩ := hcut
        clear hx1 hx2
        have e3 : (m : Int).tmod 4 = ((m % 4 : Nat) : Int) := by
          have := Int.ofNat_tmod m 4
          exact this.symm
        obtain ⟨j, hj⟩ : ∃ j, j = m % 4 := ⟨_, rfl⟩
        have hj4 : j < 4 := by omega
        rw [← hj] at e3
        obtain ⟨W1, hW1⟩ : ∃ W1, W1 = wr.alloc (.cells #[.string ⟨#[32]⟩, .string ⟨#[9]⟩, .string ⟨#[32, 32]⟩, .string ⟨#[32, 9, 32]⟩] 9) := ⟨_, rfl⟩
        have KW1 : Hid (Kept [] w W1) := by rw [hW1]; exact hI.out.kept.alloc _
        have HW1 := Lib.hid hW1
        clear hW1 hj
        go_upto_region 16 with fail
        obtain ⟨gp, hgp, hgb⟩ : ∃ gp : ByteArray, ([Value.string ⟨#[32]⟩, .string ⟨#[9]⟩, .string ⟨#[32, 32]⟩, .string ⟨#[32, 9, 32]⟩] : List Value)[j]'(by simpa using hj4) = .string gp ∧ ((dl gp).all Nm.blank = true ∧ dl gp ≠ [] ∧ gp.size ≤ 3) := by
          obtain rfl | rfl | rfl | rfl : j = 0 ∨ j = 1 ∨ j = 2 ∨ j = 3 := by omega
          all_goals exact ⟨_, rfl, by decide, by decide, by decide⟩
        rw [hgp, ← HW1.out]
        have HG := Lib.hid hgb
        clear hgb hgp e3 HW1
        go_cut [60] from 48 to 60 (fun s60 wx => ∃ b : Bool, s60 = .bool b ∧ (0 < k → k < xs.length → b = false) ∧ W1 = wx)
        case first =>
          have e3 : (m : Int).tmod 3 = ((m % 3 : Nat) : Int) := by
            have := Int.ofNat_tmod m 3
            exact this.symm
          obtain ⟨r, hr⟩ : ∃ r, r = m % 3 := ⟨_, rfl⟩
          rw [← hr] at e3
          clear hr
          obtain ⟨q3, hq3⟩ : ∃ q : Bool, ((r : Int) == 0) = q := ⟨_, rfl⟩
          by_cases h0 : k = 0
          · have b0 : ((k : Int) == 0) = true := by rw [h0]; rfl
            have H0 := Lib.hid h0
            clear h0
            cases q3
            · go_wp2_with fail
              go_meet
              exact ⟨_, rfl, fun h1 _ => absurd h1 (by rw [H0.out]; omega), rfl⟩
            · go_wp2_with fail
              go_meet
              exact ⟨_, rfl, fun h1 _ => absurd h1 (by rw [H0.out]; omega), rfl⟩
          · have b0 : ((k : Int) == 0) = false := by rw [beq_eq_false_iff_ne]; omega
            by_cases h1 : k = xs.length
            · have b1 : ((k : Int) == (xs.length : Int)) = true := by rw [h1]; simp
              have H1 := Lib.hid h1
              clear h1 h0
              cases q3
              · go_wp2_with fail
                go_meet
                exact ⟨_, rfl, fun _ h2 => absurd h2 (by rw [H1.out]; omega), rfl⟩
              · go_wp2_with fail
                go_meet
                exact ⟨_, rfl, fun _ h2 => absurd h2 (by rw [H1.out]; omega), rfl⟩
            · have b1 : ((k : Int) == (xs.length : Int)) = false := by rw [beq_eq_false_iff_ne]; omega
              clear h1 h0
              go_wp2_with fail
              go_meet
              exact ⟨_, rfl, fun _ _ => rfl, rfl⟩
        case rest =>
          obtain ⟨b, rfl, hb, rfl⟩ := hcut
          go_upto_if 60 with fail
          go_cut [9] from 60 to 60 (fun s9 wx => ∃ g : ByteArray, s9 = .string g ∧ g.size ≤ 3 ∧ Hid ((dl g).all Nm.blank = true ∧ (0 < k → k < xs.length → dl g ≠ [])) ∧ W1 = wx)
          case first =>
            cases b with
            | true =>
              go_wp2_with fail
              go_meet
              exact ⟨⟨#[]⟩, rfl, by decide, ⟨rfl, fun h1 h2 => absurd (hb h1 h2) (by decide)⟩, rfl⟩
            | false =>
              go_wp2_with fail
              go_meet
              exact ⟨gp, rfl, HG.out.2.2, ⟨HG.out.1, fun _ _ => HG.out.2.1⟩, rfl⟩
          case rest =>
            obtain ⟨g, rfl, hg3, hG, rfl⟩ := hcut
            clear hb HG
            have hlg : line.size + g.size ≤ 1073741824 := by
              have h1 := hI.out.sz
              have h2 := wsum_take xs k
              have := HW.out
              by_cases h0 : k = 0
              · subst h0; have h3 : wsum (xs.take 0) = 0 := rfl; omega
              · omega
            have hD : Hid (dl (line ++ g) = lineOf ps ++ dl g) := by show _ = _; rw [← hI.out.eq]; exact dl_app _ _
            by_cases hkl : k = xs.length
            · have i1 : ((k : Int) == (xs.length : Int)) = true := by rw [hkl]; simp
              have EW : Hid (ps.map Prod.snd = xs.map dl) := by
                show _ = _
                rw [hI.out.ws, hkl, List.take_length]
              have EX : Hid ((xs.map dl).map toB = xs) := by
                show _ = _
                rw [List.map_map]
                have : toB ∘ dl = id := by funext l; exact toB_dl l
                rw [this, List.map_id]
              have WO := words_ok W1 (line ++ g) (xs.map dl) (by rw [hD.out, ← EW.out]; exact wds_line ps (dl g) hI.out.bl hI.out.ne hG.out.1) (by rw [ByteArray.size_append]; exact hlg)
              have HWO := Lib.hid WO
              have HKL := Lib.hid hkl
              clear WO hkl hD
              go_wp2_with fail
              refine HWO.out.mono ?_
              rintro e w5 ⟨v, rfl, hR, hK⟩
              have hR2 := hR.out
              rw [EX.out] at hR2
              obtain ⟨pa, pc, rfl⟩ := own_slice hR2
              have K5 : Hid (Kept [] w w5) := KW1.out.trans hK.out (fun i hi => by simp at hi)
              have AL := Lib.hid (alike_any w5 xs pa la pc lc hR2.lst (Lst.kept LS.out K5.out (fun _ _ _ _ hm => by simp at hm)) hN)
              clear hR hR2 hK HWO
              go_wp2_with fail
              refine AL.out.mono ?_
              rintro e w6 ⟨rfl, k6⟩
              have K6 : Hid (Kept [] w w6) := K5.out.trans k6 (fun i hi => by simp at hi)
              clear k6 AL
              go_wp2_with fail
              go_ret
              exact ⟨rfl, K6.out⟩
            · have i1 : ((k : Int) == (xs.length : Int)) = false := by rw [beq_eq_false_iff_ne]; omega
              have hlt : k < xs.length := by omega
              clear hkl
              obtain ⟨za, zc, ez, -, hh⟩ := Lst.kept LS.out KW1.out (fun _ _ _ _ hm => by simp at hm)
              cases ez
              rcases hh with e | ⟨bl, ol, rfl, -, gl⟩
              · rw [e] at hlt; simp at hlt
              have CELL : Hid (∀ W' j y, Kept [] w W' → xs[j]? = some y → W'.cell? ⟨bl, ol + j, none⟩ = some (.string y)) := fun W' j y kk hy => by
                obtain ⟨a1, c1, e1, -, h1⟩ := Lst.kept LS.out kk (fun _ _ _ _ hm => by simp at hm)
                cases e1
                rcases h1 with e | ⟨b1, o1, e1, -, g1⟩
                · rw [e] at hlt; simp at hlt
                · cases e1
                  exact g1 j y hy
              obtain ⟨y, hy⟩ : ∃ y, y = xs[k] := ⟨_, rfl⟩
              have HY : Hid (xs[k]? = some y) := by show _ = _; rw [hy]; exact List.getElem?_eq_getElem hlt
              have cx := CELL.out W1 k y KW1.out HY.out
              have HYM : Hid (y ∈ xs) := by show _ ∈ _; rw [hy]; exact List.getElem_mem hlt
              have hys : y.size ≤ 268435456 := by have h1 := wsum_mem HYM.out; have := HW.out; omega
              have QA := Lib.hid (fun w => quote_any w y (by omega))
              obtain ⟨q, hq⟩ : ∃ q, q = toB (quol (dl y)) := ⟨_, rfl⟩
              rw [← hq] at QA
              have HQ := Lib.hid hq
              have hqs : q.size ≤ 4 * y.size + 2 := by
                have h1 := quol_len (dl y)
                rw [dl_length] at h1
                rw [hq]
                exact h1
              clear gl hy hq
              go_wp2_with fail
              refine (QA.out W1).mono ?_
              rintro e w5 ⟨rfl, k5⟩
              have K5 : Hid (Kept [] w w5) := KW1.out.trans k5 (fun i hi => by simp at hi)
              clear k5 cx
              go_wp2_with fail
              go_loopw [11] (fun jv wx => ∃ j : Nat, jv = .int .i64 j ∧ j ≤ q.size ∧ w5 = wx) (fun jv _ => q.size - (intOf jv).toNat)
              case atStart => exact ⟨0, rfl, by omega, rfl⟩
              case round =>
                obtain ⟨i, rfl, hi, rfl⟩ := hrel
                by_cases hil : i < q.size
                · have p1 : (i : Int) < (q.size : Int) := by omega
                  obtain ⟨c1, c2⟩ := quol_facts (dl y) q[i] (by
                    have e : dl q = quol (dl y) := by rw [HQ.out]; rfl
                    rw [← e]
                    show (dl q)[i]'(by rw [dl_length]; exact hil) ∈ dl q
                    exact List.getElem_mem _)
                  have p2 : ¬ (q[i].toNat : Int) < 32 := by omega
                  have p3 : ¬ (126 : Int) < (q[i].toNat : Int) := by omega
                  clear c1 c2
                  go_wp2_with fail
                  go_roundw
                  case rel => exact ⟨i + 1, by go_num, by omega, trivial⟩
                  case measure => simp [intOf]; omega
                · have p1 : ¬ (i : Int) < (q.size : Int) := by omega
                  clear hil
                  go_upto_if 90 with fail
                  go_cut [12] from 90 to 110 (fun s12 wx => ∃ w6, w6 = wx ∧ Hid (Kept [] w w6))
                  case first =>
                    by_cases h0 : 0 < k
                    · have p2 : (0 : Int) < (k : Int) := by omega
                      obtain ⟨p, hp⟩ : ∃ p, p = k - 1 := ⟨_, rfl⟩
                      have e4 : (k : Int) - 1 = (p : Int) := by omega
                      have hpl : p < xs.length := by omega
                      have p4 : (p : Int) < (xs.length : Int) := by omega
                      obtain ⟨z, hz⟩ : ∃ z, z = xs[p] := ⟨_, rfl⟩
                      have HZ : Hid (xs[p]? = some z) := by show _ = _; rw [hz]; exact List.getElem?_eq_getElem hpl
                      have HZM : Hid (z ∈ xs) := by show _ ∈ _; rw [hz]; exact List.getElem_mem hpl
                      have hzs : z.size ≤ 268435456 := by have h1 := wsum_mem HZM.out; have := HW.out; omega
                      have cz := CELL.out w5 p z K5.out HZ.out
                      have QZ := Lib.hid (quote_any w5 z (by omega))
                      obtain ⟨t, ht⟩ : ∃ t, t = toB (quol (dl z)) := ⟨_, rfl⟩
                      rw [← ht] at QZ
                      have HT := Lib.hid ht
                      clear hp hz ht QA
                      go_wp2_with fail
                      refine QZ.out.mono ?_
                      rintro e w6 ⟨rfl, k6⟩
                      have K6 : Hid (Kept [] w w6) := K5.out.trans k6 (fun i hi => by simp at hi)
                      clear k6 cz QZ
                      have cz := CELL.out w6 p z K6.out HZ.out
                      have cy := CELL.out w6 k y K6.out HY.out
                      by_cases hyz : z = y
                      · subst hyz
                        have e5 : t = q := by rw [HT.out, HQ.out]
                        subst e5
                        go_wp2_with fail
                        go_region
                        go_wp2_with fail
                        go_meet
                        exact ⟨_, rfl, K6.out.drew⟩
                      · have e5 : t ≠ q := fun h => by
                          rw [HT.out, HQ.out] at h
                          have h2 := congrArg dl h
                          exact hyz (dl_inj (quol_inj h2))
                        have b3 : (t.toList == q.toList) = false := by rw [toList_dl, toList_dl, beq_eq_false_iff_ne]; exact fun h => e5 (dl_inj h)
                        have b4 : (z.toList == y.toList) = false := by rw [toList_dl, toList_dl, beq_eq_false_iff_ne]; exact fun h => hyz (dl_inj h)
                        clear e5 hyz
                        go_wp2_with fail
                        go_region
                        go_wp2_with fail
                        go_meet
                        exact ⟨_, rfl, K6.out.drew⟩
                    · have p2 : ¬ (0 : Int) < (k : Int) := by omega
                      go_wp2_with fail
                      go_meet
                      exact ⟨_, rfl, K5⟩
                  case rest =>
                    obtain ⟨w6, rfl, K6⟩ := hcut
                    have hwk : wsum (xs.take (k + 1)) = wsum (xs.take k) + (2 + y.size) := by
                      rw [List.take_add_one, HY.out]
                      exact wsum_snoc _ _
                    have hw2 := wsum_take xs (k + 1)
                    have I2 : Hid (LnI w xs (k + 1) (line ++ g ++ q) (ps ++ [(dl g, dl y)]) w6) := by
                      refine ⟨?_, ?_, ?_, ?_, ?_, K6.out⟩
                      · rw [dl_app, hD.out, HQ.out]
                        show lineOf ps ++ dl g ++ quol (dl y) = _
                        simp [lineOf]
                      · rw [List.map_append, hI.out.ws, List.take_add_one, HY.out]
                        simp
                      · intro p hp
                        rcases List.mem_append.1 hp with h | h
                        · exact hI.out.bl p h
                        · rw [List.mem_singleton.1 h]; exact hG.out.1
                      · intro p hp
                        by_cases h0 : k = 0
                        · have hps : ps = [] := by
                            have := congrArg List.length hI.out.ws
                            rw [h0] at this
                            simpa using this
                          rw [hps] at hp
                          simp at hp
                        · have hpl : 1 ≤ ps.length := by
                            have := congrArg List.length hI.out.ws
                            simp at this
                            omega
                          rw [List.drop_append_of_le_length hpl] at hp
                          rcases List.mem_append.1 hp with h | h
                          · exact hI.out.ne p h
                          · rw [List.mem_singleton.1 h]; exact hG.out.2 (by omega) hlt
                      · have h1 := hI.out.sz
                        rw [ByteArray.size_append, ByteArray.size_append, hwk]
                        omega
                    have hq3 : line.size + g.size + q.size ≤ 4294967296 := by omega
                    clear hwk hw2 QA hD hG hI
                    go_wp2_with fail
                    go_roundw
                    case rel => exact ⟨k + 1, _, _, rfl, by go_num, by omega, I2⟩
                    case measure => simp [intOf]; omega
end Go.Proofs.YtjdhgeikbkjnoaaDoor.namesWords
