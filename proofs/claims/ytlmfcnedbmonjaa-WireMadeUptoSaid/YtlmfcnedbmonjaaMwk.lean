/- The walk of WireMade: whatever numbers come in, the text of their characters is good, is cut where they end, and is spoilt by what is none. -/
import Derived.Test.YtlmfcnedbmonjaaChw
import Derived.Deep.RegionWith
namespace Go.Proofs.Ytlmfcnedbmonjaa.Mad
set_option linter.unusedVariables false
open Go.RowKit Go.PlainAid Go.Proofs.Ytlmfcnedbmonjaa.Utf Go.Proofs.Ytlmfcnedbmonjaa.Txt

/-- The number of the character that a raw number speaks of. -/
def nm (x : Int) : Nat := if 55296 ≤ pk x 1114111 + 1 ∧ pk x 1114111 + 1 ≤ 57343 then pk x 1114111 + 1 - 2048 else pk x 1114111 + 1
theorem nm_num (x : Int) : Num (nm x) := by
  have := pk_lt x 1114111 (by decide)
  unfold nm
  split
  · exact ⟨by omega, by omega, by omega⟩
  · exact ⟨by omega, by omega, by omega⟩
theorem bds_append : ∀ (l : List Nat) (p n : Nat), bds p (l ++ [n]) = bds p l ++ [p + (flat l).length + (chb n).length]
  | [], p, n => by simp [bds, flat]
  | a :: l, p, n => by
    have := bds_append l (p + (chb a).length) n
    simp only [List.cons_append, bds, this, flat_cons, List.length_append]
    rw [show p + (chb a).length + (flat l).length + (chb n).length = p + ((chb a).length + (flat l).length) + (chb n).length from by omega]
theorem bds_length : ∀ (l : List Nat) (p : Nat), (bds p l).length = l.length
  | [], _ => rfl
  | _ :: l, p => by simp [bds, bds_length l]
theorem bds_get : ∀ (l : List Nat) (p j : Nat) (h : j < (bds p l).length), (bds p l)[j] = p + (flat (l.take (j + 1))).length
  | n :: l, p, 0, h => by simp [bds, flat]
  | n :: l, p, j + 1, h => by
    have := bds_get l (p + (chb n).length) j (by simpa [bds] using h)
    simp only [bds, List.getElem_cons_succ, this, List.take_succ_cons, flat_cons, List.length_append]
    omega
/-- All the ends, the beginning among them. -/
def ends (l : List Nat) : List Nat := 0 :: bds 0 l
theorem ends_length (l : List Nat) : (ends l).length = l.length + 1 := by simp [ends, bds_length]
theorem ends_get (l : List Nat) (j : Nat) (h : j < (ends l).length) : (ends l)[j] = (flat (l.take j)).length := by
  cases j with
  | zero => simp [ends, flat]
  | succ j =>
    have h2 : j < (bds 0 l).length := by simpa [ends] using h
    have := bds_get l 0 j h2
    simp only [ends, List.getElem_cons_succ, this]
    omega
theorem ends_snoc (l : List Nat) (n : Nat) : ends (l ++ [n]) = ends l ++ [(flat (l ++ [n])).length] := by
  unfold ends
  rw [bds_append, flat_append, List.length_append]
  simp [flat]
theorem flat_le (l : List Nat) : (flat l).length ≤ 4 * l.length := by
  induction l with
  | nil => simp [flat]
  | cons n l ih =>
    have := chb_length n
    rw [flat_cons]
    simp
    omega
theorem lastLe_snoc (most : Int) (e x : Nat) (l : List Nat) : lastLe most e (l ++ [x]) = if (x : Int) ≤ most then x else lastLe most e l := by
  simp [lastLe]

theorem take_map_snoc (xs : List Int) (k : Nat) (h : k < xs.length) : (xs.take (k + 1)).map nm = (xs.take k).map nm ++ [nm xs[k]] := by
  rw [List.take_succ_eq_append_getElem h, List.map_append]
  rfl

theorem info3 : (Try.prog.info? 3).map (fun i => (i.zero, i.size, i.bytes)) = some (some (.int .i64 0), 1, 8) := by kernel_rfl

/-- How the ends lie. -/
def Ends (w0 w : World) (v : Value) (l : List Nat) : Prop := w.ownsRow w0.heap.size 3 1 v (ends l).length ((ends l).map iv) ∧ Kept [] w0 w

theorem Ends.snoc {w0 w W w1 : World} {v v' : Value} {l : List Nat} {n q m : Nat} (h : Ends w0 w v l) (hW : Kept [] w W) (hown : w1.ownsRow w0.heap.size 3 1 v' m ((ends l).map iv ++ [iv q])) (hm : m = (ends l).length + 1) (hq : q = (flat (l ++ [n])).length) (hgrow : W.grownBy w1 v.ownBlock) :
    Ends w0 w1 v' (l ++ [n]) := by
  subst hq hm
  refine ⟨?_, (h.2.trans hW (fun i hi => by simp at hi)).grown hgrow (fun k hk => Or.inr (h.1.lt k hk).1)⟩
  rw [ends_snoc]
  simpa using hown

theorem size_list (a : ByteArray) : a.size = a.data.toList.length := (Array.length_toList).symm
theorem cut_left (a b : ByteArray) : (a ++ b).extract 0 a.size = a := by
  apply ByteArray.ext
  apply Array.toList_inj.1
  rw [ByteArray.data_extract, ByteArray.data_append, Array.toList_extract, Array.toList_append, List.extract_eq_take_drop, List.drop_zero, Nat.sub_zero, size_list, List.take_left]
theorem cut_right (a b : ByteArray) : (a ++ b).extract a.size (a ++ b).size = b := by
  apply ByteArray.ext
  apply Array.toList_inj.1
  rw [ByteArray.size_append, ByteArray.data_extract, ByteArray.data_append, Array.toList_extract, Array.toList_append, List.extract_eq_take_drop, size_list a, size_list b, List.drop_left, Nat.add_sub_cancel_left, List.take_length]
theorem kept_drew {w w' : World} (h : Below w.heap.size w.drew w') : Kept [] w w' := ⟨h.os, h.tape, h.output, h.size, fun k hk _ => h.block k hk⟩
theorem gdT (s : ByteArray) (x : Bool) (w : World) (hx : Hid (good s = x)) (hs : s.size ≤ 140737488355328) :
    Calls Try.prog 12 #[.string s] w fun e w' => e = .returned (.bool x) ∧ Below w.heap.size w w' :=
  (good_any s w hs).mono fun e w' h => ⟨h.1.trans (ret_bool hx.out), h.2⟩
theorem ctT (s c : ByteArray) (most : Int) (w : World) (hx : Hid (s.extract 0 (cut s most) = c)) (hs : s.size ≤ 140737488355328) (h1 : -9223372036854775808 ≤ most) (h2 : most ≤ 9223372036854775807) :
    Calls Try.prog 13 #[.string s, .int .i64 most] w fun e w' => e = .returned (.string c) ∧ Below w.heap.size w w' :=
  (cut_any s most w hs h1 h2).mono fun e w' h => ⟨h.1.trans (ret_str hx.out), h.2⟩
theorem spT (c : Int) (P : ByteArray) (w : World) (hx : Hid (tx (spl (pk c 12)) = P)) (h1 : -9223372036854775808 ≤ c) (h2 : c ≤ 9223372036854775807) :
    Calls Try.prog 18 #[.int .i64 c] w fun e w' => e = .returned (.string P) ∧ w = w' :=
  (spoil_any c w h1 h2).mono fun e w' h => ⟨h.1.trans (ret_str hx.out), h.2⟩
theorem rowK {w0 w w1 : World} {v : Value} {n : Nat} {xs : List Value} (h : w.ownsRow w0.heap.size 3 1 v n xs ∧ Kept [] w0 w) (hk : Kept [] w w1) : w1.ownsRow w0.heap.size 3 1 v n xs ∧ Kept [] w0 w1 := by
  refine ⟨⟨h.1.1, ?_⟩, h.2.trans hk (fun i hi => by simp at hi)⟩
  rcases h.1.2 with hn | ⟨g, cap, cur, rfl, hb, hgg, rest⟩
  · exact .inl hn
  · exact .inr ⟨g, cap, cur, rfl, hb, by rw [hk.block g (block_lt hgg) (by simp)]; exact hgg, rest⟩

theorem own_keep {w0 w w1 : World} {v : Value} {l : List Nat} (h : Ends w0 w v l) (hk : Kept [] w w1) : w1.ownsRow w0.heap.size 3 1 v (ends l).length ((ends l).map iv) := by
  refine ⟨h.1.1, ?_⟩
  rcases h.1.2 with hn | ⟨g, cap, cur, rfl, hb, hgg, rest⟩
  · exact .inl hn
  · exact .inr ⟨g, cap, cur, rfl, hb, by rw [hk.block g (block_lt hgg) (by simp)]; exact hgg, rest⟩

set_option maxHeartbeats 8000000 in
set_option maxRecDepth 100000 in
theorem walk_any (a : Option Addr) (len cap : Nat) (xs : List Int) (c d : Int) (w : World) (hlc : len ≤ cap) (hcm : cap ≤ 9223372036854775807)
    (hk : (2000 < len ∧ xs.length ≤ 2000 ∧ 2000 ≤ xs.length) ∨ (len ≤ 2000 ∧ xs.length ≤ len ∧ len ≤ xs.length))
    (hb : Hid (∀ j (hj : j < xs.length), -9223372036854775808 ≤ xs[j] ∧ xs[j] ≤ 9223372036854775807)) (hA : Hid (∀ j (hj : j < xs.length), ∃ b o, a = some ⟨b, o, none⟩ ∧ w.cell? ⟨b, o + j, none⟩ = some (.int .i64 xs[j])))
    (c1 : -9223372036854775808 ≤ c) (c2 : c ≤ 9223372036854775807) (d1 : -9223372036854775808 ≤ d) (d2 : d ≤ 9223372036854775807) :
    Calls Try.prog 6 #[.slice a len cap, .int .i64 c, .int .i64 d] w fun e w' => e = .returned (.bool true) ∧ Kept [] w w' := by
  obtain ⟨i0, hi, hz0, hz1, hz2⟩ := info_parts info3
  rcases hk with ⟨k1, k2, k3⟩ | ⟨k1, k2, k3⟩
  all_goals
    have k0 : xs.length ≤ 2000 := by omega
    go_enter Try.func6, Try.ntmps6
    go_wp2_with (at_builtin; refine wpList_append_own _ rfl (.tmp 20) (.tmp 21) 27 rfl w.heap.size 3 i0 (.int .i64 0) 1 8 Try.underlying27 hi hz0 hz1 hz2 rfl (by decide) (.slice none 0 0) 0 [] rfl (World.ownsRow_nil _ _ _ _) ⟨w.heap.size, 0, none⟩ 1 1 [iv 0] rfl rfl (World.news_of_block (cs := #[iv 0]) (by exact heap_alloc_new w _)) (by intro u hu; simp at hu; subst hu; rfl) (by decide) (by decide) (by simp) ?_; intro v' w1 hown hgrow _; have R1 : Hid (Ends w w1 v' []) := ⟨hown, ((Kept.refl [] w).alloc _).grown hgrow (fun k hk => by cases hk)⟩; clear hown hgrow)
    go_loopw [7, 8, 9] (fun sv e0 kv wr => ∃ (k : Nat) (S : ByteArray) (ev : Value), k ≤ xs.length ∧ kv = .int .i64 k ∧ sv = .string S ∧ ev = e0 ∧ Hid (S = tx (flat ((xs.take k).map nm))) ∧ Hid (Ends w wr ev ((xs.take k).map nm))) (fun _ _ kv _ => xs.length - (intOf kv).toNat)
    case atStart => exact ⟨0, _, _, by omega, rfl, rfl, rfl, rfl, R1⟩
    case round =>
      obtain ⟨k, S, ev, hk, rfl, rfl, rfl, hS, hE⟩ := hrel
      clear R1
      by_cases hlt : k < xs.length
      · obtain ⟨b, o, rfl, hcell⟩ := hA.out k hlt
        have hcell : wr.cell? ⟨b, o + k, none⟩ = some (.int .i64 xs[k]) := by
          rw [← hcell]
          exact World.cell?_of_block (hE.out.2.block _ (World.block_lt_of_cell? w _ hcell) (by simp))
        obtain ⟨x, hx⟩ : ∃ x, x = xs[k] := ⟨_, rfl⟩
        rw [← hx] at hcell
        have hxb := hb.out k hlt
        rw [← hx] at hxb
        have HX := Lib.hid hx
        obtain ⟨x1, x2⟩ := hxb
        clear hx
        obtain ⟨q, hq⟩ : ∃ q : Int, q = (pk x 1114111 : Int) := ⟨_, rfl⟩
        have q1 : 0 ≤ q := by rw [hq]; omega
        have q2 : q ≤ 1114110 := by have := pk_lt x 1114111 (by decide); rw [hq]; omega
        have HN : Hid (((nm x : Nat) : Int) = if 55296 ≤ q + 1 ∧ q + 1 ≤ 57343 then q + 1 - 2048 else q + 1) := by
          show ((nm x : Nat) : Int) = _
          unfold nm
          rw [hq]
          split <;> split <;> omega
        have HQ := Lib.hid hq
        clear hq
        have hSz : S.size ≤ 8000 := by
          rw [hS.out, tx_size]
          have := flat_le ((xs.take k).map nm)
          rw [List.length_map, List.length_take] at this
          omega
        obtain ⟨C, hC⟩ : ∃ C, C = tx (chb (nm x)) := ⟨_, rfl⟩
        have hCz : C.size ≤ 4 := by rw [hC, tx_size]; exact (chb_length _).2
        have HC := Lib.hid hC
        clear hC
        obtain ⟨T, hT⟩ : ∃ T, S ++ C = T := ⟨_, rfl⟩
        have hTz : T.size ≤ 8004 := by rw [← hT, ByteArray.size_append]; omega
        have HT : Hid (T = tx (flat ((xs.take (k + 1)).map nm))) := by
          rw [← hT, hS.out, HC.out, tx_append, take_map_snoc xs k hlt, flat_append, ← HX.out]
          show _ = tx (_ ++ flat [nm x])
          simp [flat]
        have hlen : (ends ((xs.take k).map nm)).length ≤ 2001 := by rw [ends_length, List.length_map, List.length_take]; omega
        obtain ⟨nE, hnE⟩ : ∃ nE, nE = (ends ((xs.take k).map nm)).length := ⟨_, rfl⟩
        rw [← hnE] at hlen
        have HnE := Lib.hid hnE
        clear hnE
        have HTe := Lib.hid hT
        clear hT
        have hthree : (55296 ≤ q + 1 ∧ q + 1 ≤ 57343) ∨ (55296 ≤ q + 1 ∧ 57343 < q + 1) ∨ q + 1 < 55296 := by omega
        have hvA : Hid (55296 ≤ q + 1 ∧ q + 1 ≤ 57343 → q + 1 - 2048 = ((nm x : Nat) : Int)) := fun h => by rw [HN.out, if_pos h]
        have hvB : Hid (¬ (55296 ≤ q + 1 ∧ q + 1 ≤ 57343) → q + 1 = ((nm x : Nat) : Int)) := fun h => by rw [HN.out, if_neg h]
        rcases hthree with ⟨g1, g2⟩ | ⟨g1, g2⟩ | g1
        all_goals
          go_wp2_with fail
          refine (pick_any x _ 1114111 _ (by omega) (by omega) (by omega) x1 x2).mono ?_
          rintro e w2 ⟨rfl, rfl⟩
          rw [← HQ.out]
          go_wp2_with fail
          refine (char_any _ (nm x) _ (by first | exact hvA.out (by omega) | exact hvB.out (by omega)) (nm_num x)).mono ?_
          rintro e w3 ⟨rfl, hk3⟩
          rw [← HC.out]
          have hown : Hid (w3.ownsRow w.heap.size 3 1 ev nE ((ends ((xs.take k).map nm)).map iv)) := by rw [HnE.out]; exact own_keep hE.out hk3
          have K3 : Hid (Kept [] wr w3) := hk3
          have hTq := HTe.out
          clear hk3
          go_wp2_with (at_builtin; refine wpList_append_own _ rfl (.tmp 47) (.tmp 50) 27 rfl w.heap.size 3 i0 (.int .i64 0) 1 8 Try.underlying27 hi hz0 hz1 hz2 rfl (by decide) ev nE _ rfl (hown.out.alloc _) ⟨w3.heap.size, 0, none⟩ 1 1 [iv T.size] rfl rfl (World.news_of_block (cs := #[iv T.size]) (by exact heap_alloc_new w3 _)) (by intro u hu; simp at hu; subst hu; rfl) (by unfold maxLen; omega) (by omega) (by have := hE.out.2.size; have := K3.out.size; simp; omega) ?_; intro v2 w4 hown2 hgrow2 _; have R2 : Hid (Ends w w4 v2 ((xs.take (k + 1)).map nm)) := (by rw [take_map_snoc xs k hlt]; exact Ends.snoc (n := nm xs[k]) (q := T.size) hE.out (K3.out.trans ((Kept.refl [] w3).alloc _) (fun i hi => Or.inl hi)) hown2 (by rw [HnE.out]) (by rw [HT.out, tx_size, take_map_snoc xs k hlt]) hgrow2); clear hown2 hgrow2)
          go_roundw
          case rel => exact ⟨k + 1, T, v2, by omega, by go_num, rfl, rfl, HT, R2⟩
          case measure => simp [intOf]; omega
      · have hkk : k = xs.length := by omega
        obtain ⟨ns, hns⟩ : ∃ ns, ns = xs.map nm := ⟨_, rfl⟩
        have htk : (xs.take k).map nm = ns := by rw [hns, hkk, List.take_length]
        rw [htk] at hS hE
        have hnum : Hid (∀ n ∈ ns, Num n) := fun n hn => by rw [hns] at hn; obtain ⟨x, _, rfl⟩ := List.mem_map.1 hn; exact nm_num x
        have hnl : ns.length ≤ 2000 := by rw [hns, List.length_map]; exact k0
        have hgood : Hid (good S = true) := by rw [hS.out]; exact good_flat ns hnum.out
        have hL : S.size ≤ 8000 := by
          have := flat_le ns
          rw [hS.out, tx_size]; omega
        obtain ⟨nE, hnE⟩ : ∃ nE, nE = (ends ns).length := ⟨_, rfl⟩
        have hn1 : 1 ≤ nE := by rw [hnE, ends_length]; omega
        have hn2 : nE ≤ 2001 := by rw [hnE, ends_length]; omega
        have hE2 : Hid (wr.ownsRow w.heap.size 3 1 ev nE ((ends ns).map iv) ∧ Kept [] w wr) := by rw [hnE]; exact hE.out
        obtain ⟨g, ce, rfl, -, -⟩ := hE2.out.1.form hn1
        have HnE := Lib.hid hnE
        have HK := Lib.hid hkk
        clear hns htk hnE hkk hE hb hA
        go_wp2_with fail
        refine (gdT S true _ hgood (by omega)).mono ?_
        rintro e w2 ⟨rfl, hb2⟩
        have hE3 : Hid (w2.ownsRow w.heap.size 3 1 (.slice (some ⟨g, 0, none⟩) nE ce) nE ((ends ns).map iv) ∧ Kept [] w w2) := rowK hE2.out (Kept.of_below hb2 [])
        clear hb2 hE2
        go_wp2_with fail
        go_loopw [11] (fun v wr => ∃ mo : Int, -1 ≤ mo ∧ mo ≤ S.size + 2 ∧ v = .int .i64 mo ∧ Hid (wr.ownsRow w.heap.size 3 1 (.slice (some ⟨g, 0, none⟩) nE ce) nE ((ends ns).map iv) ∧ Kept [] w wr)) (fun v _ => ((S.size : Int) + 2 - intOf v).toNat)
        case atStart => exact ⟨-1, by omega, by omega, rfl, hE3⟩
        case round =>
          obtain ⟨mo, m1, m2, rfl, hE4⟩ := hrel
          clear hE3
          obtain ⟨wo, hwo⟩ : ∃ wo : World, wo = wr := ⟨_, rfl⟩
          subst hwo
          by_cases hmo : mo ≤ (S.size : Int) + 1
          · have hcut : Hid (lastLe mo 0 (ends ns) = cut S mo) := by rw [hS.out]; exact (cut_flat ns hnum.out mo).symm
            obtain ⟨cz, hcz⟩ : ∃ cz, cz = cut S mo := ⟨_, rfl⟩
            have hczl : cz ≤ S.size := by rw [hcz]; exact cut_le S mo
            obtain ⟨X, hX⟩ : ∃ X, S.extract 0 cz = X := ⟨_, rfl⟩
            have HX : Hid (S.extract 0 (cut S mo) = X) := by rw [← hcz]; exact hX
            have HC := Lib.hid hcz
            clear hcz
            go_wp2_with fail
            go_loop [12, 13] (fun ez jv => ∃ j : Nat, j ≤ nE ∧ jv = .int .i64 j ∧ ez = .int .i64 (lastLe mo 0 ((ends ns).take j))) (fun _ jv => nE - (intOf jv).toNat)
            case atStart => exact ⟨0, by omega, rfl, rfl⟩
            case round =>
              obtain ⟨j, hj, rfl, rfl⟩ := hrel
              by_cases hjn : j < nE
              · obtain ⟨en, hen⟩ : ∃ en, en = (ends ns)[j]'(HnE.out ▸ hjn) := ⟨_, rfl⟩
                have hcell : wo.cell? ⟨g, j, none⟩ = some (.int .i64 en) := by
                  rw [hE4.out.1.cellAt j (by omega), List.getElem?_map, List.getElem?_eq_getElem (HnE.out ▸ hjn), ← hen]; rfl
                have htk : (ends ns).take (j + 1) = (ends ns).take j ++ [en] := by rw [List.take_succ_eq_append_getElem (HnE.out ▸ hjn), ← hen]
                have HT := Lib.hid htk
                clear htk hen
                by_cases hle : (en : Int) ≤ mo
                · have hv : lastLe mo 0 ((ends ns).take (j + 1)) = en := by rw [HT.out, lastLe_snoc, if_pos hle]
                  have HV := Lib.hid hv
                  clear hv
                  go_wp2_with fail
                  go_round
                  case rel => exact ⟨j + 1, by omega, by go_num, by rw [HV.out]⟩
                  case measure => simp [intOf]; omega
                · have hv : lastLe mo 0 ((ends ns).take (j + 1)) = lastLe mo 0 ((ends ns).take j) := by rw [HT.out, lastLe_snoc, if_neg hle]
                  have HV := Lib.hid hv
                  clear hv
                  go_wp2_with fail
                  go_round
                  case rel => exact ⟨j + 1, by omega, by go_num, by rw [HV.out]⟩
                  case measure => simp [intOf]; omega
              · have hv : lastLe mo 0 ((ends ns).take j) = cz := by rw [List.take_of_length_le (by have := HnE.out; omega), hcut.out, HC.out]
                rw [hv]
                clear hv
                go_wp2_with fail
                go_region_with (go_at_call 13; refine (ctT S X mo _ HX (by omega) (by omega) (by omega)).mono ?_; rintro e w5 ⟨rfl, hb5⟩; have hE5 : Hid (w5.ownsRow w.heap.size 3 1 (.slice (some ⟨g, 0, none⟩) nE ce) nE ((ends ns).map iv) ∧ Kept [] w w5) := rowK hE4.out (kept_drew hb5); clear hb5)
                all_goals
                  go_wp2_with fail
                  go_roundw
                  case rel => exact ⟨mo + 1, by omega, by omega, by go_num, hE5⟩
                  case measure => simp [intOf]; omega
          · obtain rfl : mo = (S.size : Int) + 2 := by omega
            go_wp2_with fail
            have hpl := pk_lt c nE hn1
            obtain ⟨j, hj⟩ : ∃ j, j = pk c nE := ⟨_, rfl⟩
            rw [← hj] at hpl
            have HJ := Lib.hid hj
            clear hj
            obtain ⟨p0, hp0⟩ : ∃ p0, p0 = (ends ns)[j]'(HnE.out ▸ hpl) := ⟨_, rfl⟩
            have hcell : wo.cell? ⟨g, j, none⟩ = some (.int .i64 p0) := by
              rw [hE4.out.1.cellAt j (by omega), List.getElem?_map, List.getElem?_eq_getElem (HnE.out ▸ hpl), ← hp0]; rfl
            rw [ends_get] at hp0
            have hSs : S = tx (flat (ns.take j)) ++ tx (flat (ns.drop j)) := by rw [hS.out, tx_append, ← flat_append, List.take_append_drop]
            have hp0' : p0 = (tx (flat (ns.take j))).size := by rw [tx_size]; exact hp0
            have hpS : p0 ≤ S.size := by rw [hSs, ByteArray.size_append, ← hp0']; omega
            obtain ⟨A, hA1⟩ : ∃ A, S.extract 0 p0 = A := ⟨_, rfl⟩
            obtain ⟨Z, hZ1⟩ : ∃ Z, S.extract p0 S.size = Z := ⟨_, rfl⟩
            have eA : A = tx (flat (ns.take j)) := by rw [← hA1, hp0', hSs]; exact cut_left _ _
            have eZ : Z = tx (flat (ns.drop j)) := by rw [← hZ1, hp0', hSs]; exact cut_right _ _
            obtain ⟨P, hP⟩ : ∃ P, tx (spl (pk d 12)) = P := ⟨_, rfl⟩
            have hPz : P.size ≤ 4 := by rw [← hP, tx_size]; unfold spl; split <;> simp
            obtain ⟨AP, hAP⟩ : ∃ AP, A ++ P = AP := ⟨_, rfl⟩
            obtain ⟨G, hG⟩ : ∃ G, AP ++ Z = G := ⟨_, rfl⟩
            have zA : A.size ≤ 8000 := by rw [eA, ← hp0']; omega
            have zZ : Z.size ≤ 8000 := by rw [← hZ1, ByteArray.size_extract]; omega
            have zAP : AP.size ≤ 8004 := by rw [← hAP, ByteArray.size_append]; omega
            have zG : G.size ≤ 16004 := by rw [← hG, ByteArray.size_append]; omega
            have hgA : good A = true := by rw [eA]; exact good_flat _ (fun n hn => hnum.out n (List.mem_of_mem_take hn))
            have hGb : Hid (good G = false) := by
              show good G = false
              rw [← hG, ← hAP, ByteArray.append_assoc, good_append _ hgA, eZ, ← hP, tx_append]
              exact spoilt _ _ (fun n hn => hnum.out n (List.mem_of_mem_drop hn))
            have HP := Lib.hid hP
            clear hSs hp0 hp0' eA eZ hgA hP
            refine (pick_any c _ nE _ rfl hn1 (by omega) c1 c2).mono ?_
            rintro e w5 ⟨rfl, rfl⟩
            rw [← HJ.out]
            go_wp2_with fail
            go_region_with (first | (go_at_call 18; refine (spT d P _ HP d1 d2).mono ?_; rintro e w6 ⟨rfl, rfl⟩) | (go_at_call 12; refine (gdT G false _ hGb (by omega)).mono ?_; rintro e w6 ⟨rfl, hb6⟩; have hE6 : Hid (Kept [] w w6) := hE4.out.2.trans (kept_drew hb6) (fun i hi => by simp at hi); clear hb6))
            all_goals
              go_wp2_with fail
              go_ret
              exact ⟨rfl, hE6.out⟩
end Go.Proofs.Ytlmfcnedbmonjaa.Mad
