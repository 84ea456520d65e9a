/- WireReads, walked. -/
import Derived.Test.YtfdbpbhihccgbaaRds
import Derived.Test.YtfdbpbhihccgbaaKpt
import Derived.Test.YtfdbpbhihccgbaaMch
import Derived.Test.YtfdbpbhihccgbaaKno
import Derived.Test.YtfdbpbhihccgbaaInl
import Derived.Deep.Cut
import Derived.Deep.CutBlock
import Derived.Deep.CutRange
import Derived.Deep.RegionWith
import Derived.Deep.RegionLaw
namespace Go.Proofs.Ytfdbpbhihccgbaa
set_option linter.unusedVariables false
open Go.RowKit

/-- A list of bytes that came in. -/
def Byt (w : World) (v : Value) (l : List UInt8) (T : List Nat) : Prop := ∃ a c, v = .slice a l.length c ∧ l.length ≤ c ∧ c ≤ 9223372036854775807 ∧ l.length ≤ 1048576 ∧ Src w v l T
theorem Byt.kept {w w' : World} {v : Value} {l : List UInt8} {T S : List Nat} (h : Byt w v l T) (hk : Kept S w w') (hd : ∀ k ∈ T, k ∉ S) : Byt w' v l T := by
  obtain ⟨a, c, h1, h2, h3, h4, h5⟩ := h
  exact ⟨a, c, h1, h2, h3, h4, h5.kept hk hd⟩
/-- A list of such lists. -/
structure Rws (w : World) (a : Option Addr) (cap b off : Nat) (ls : List (Value × List UInt8)) (T : List Nat) : Prop where
  n : ls.length ≤ 1048576
  a : 0 < ls.length → a = some ⟨b, off, none⟩ ∧ ls.length ≤ cap
  t : ∀ i ∈ T, i < w.heap.size
  at' : ∀ i (hi : i < ls.length), b ∈ T ∧ w.cell? ⟨b, off + i, none⟩ = some (ls[i]).1 ∧ Byt w (ls[i]).1 (ls[i]).2 T
theorem Rws.kept {w w' : World} {a : Option Addr} {cap b off : Nat} {ls : List (Value × List UInt8)} {T S : List Nat} (h : Rws w a cap b off ls T) (hk : Kept S w w') (hd : ∀ i ∈ T, i ∉ S) : Rws w' a cap b off ls T := by
  refine ⟨h.n, h.a, fun i hi => Nat.lt_of_lt_of_le (h.t i hi) hk.size, fun i hi => ?_⟩
  obtain ⟨h1, h2, h3⟩ := h.at' i hi
  refine ⟨h1, ?_, h3.kept hk hd⟩
  rw [← h2]
  exact World.cell?_of_block (hk.block b (h.t b h1) (hd b h1))

/-- A call of a Go function as a step of a region. -/
theorem step_call {P : Program} {ops : Array Oper} {o : Oper} {a : Act} {w : World} {K : Act → World → Prop} {Q : Exit → Act → World → Prop} {E : Prop} (hg : o.guard = none) (f : FuncId) (args : Array Value)
    (hrun : (execOp a.eval o).run P w = .ok (.enter f args) w) {R : Ending → World → Prop} (hc : Calls P f args w R) (hR : ∀ e w', R e w' → ∃ v, e = .returned v ∧ K (a.put o.dst v) w') :
    if Region.wanted o (yielded ops a.tmps) = true then Oper.wp P o a w K Q else E := by
  have hw : Region.wanted o (yielded ops a.tmps) = true := by simp [Region.wanted, hg]
  rw [if_pos hw]
  unfold Oper.wp
  rw [hrun, Oper.upon_enter]
  exact hc.mono fun e w' r => by obtain ⟨v, rfl, hk⟩ := hR e w' r; exact hk

namespace Lst
theorem many_any (w : World) (a : Option Addr) (cap b off : Nat) (ls : List (Value × List UInt8)) (T : List Nat) (h : Hid (Rws w a cap b off ls T)) :
    Calls Try.prog 16 #[.slice a ls.length cap] w fun e w' => (∃ m : Nat, e = .returned (.int .i64 m) ∧ m ≤ 3000000000000) ∧ w = w' := by
  have hn := h.out.n
  go_enter Try.func16, Try.ntmps16
  go_wp2_with fail
  go_loop [3, 4] (fun nv iv => ∃ m i : Nat, i ≤ ls.length ∧ nv = .int .i64 m ∧ iv = .int .i64 i ∧ m ≤ i * 1048600) (fun _ iv => ls.length - (intOf iv).toNat)
  case atStart => exact ⟨0, 0, by omega, rfl, rfl, by omega⟩
  case round =>
    obtain ⟨m, i, hi, rfl, rfl, hm⟩ := hrel
    have hmb : m ≤ 2000000000000 := by omega
    by_cases hlt : i < ls.length
    · by_cases hroom : m ≤ 33554432
      · obtain ⟨rfl, hcap⟩ := h.out.a (by omega)
        obtain ⟨h1, h2, ba, bc, hv, h3, h4, h5, h6⟩ := h.out.at' i hlt
        obtain ⟨l, hl⟩ : ∃ l, l = (ls[i]).2 := ⟨_, rfl⟩
        rw [hv, ← hl] at h2
        rw [← hl] at h5
        have j1 : (i : Int) < (ls.length : Int) := by omega
        have j2 : (m : Int) ≤ 33554432 := by omega
        obtain ⟨ln, hln⟩ : ∃ n, n = l.length := ⟨_, rfl⟩
        rw [← hln] at h2 h5
        clear hln hv hl h6
        go_wp2_with fail
        go_round
        case rel => exact ⟨m + 16 + ln, i + 1, by omega, by go_num, by go_num, by omega⟩
        case measure => simp [intOf]; omega
      · have j1 : (i : Int) < (ls.length : Int) := by omega
        have j2 : ¬ (m : Int) ≤ 33554432 := by omega
        go_wp2_with fail
        go_ret
        exact ⟨⟨m, rfl, by omega⟩, rfl⟩
    · have j1 : ¬ (i : Int) < (ls.length : Int) := by omega
      go_wp2_with fail
      go_ret
      exact ⟨⟨m, rfl, by omega⟩, rfl⟩
end Lst

theorem ptrs_put1 (p : Nat → Nat) (n b : Nat) : ptrs (put1 p n b) n = ptrs p n := by
  unfold ptrs
  apply List.map_congr_left
  intro i hi
  have := List.mem_range.1 hi
  rw [put1_ne p b (by omega)]

namespace Wrd
open Go.Proofs.Ytfdbpbhihccgbaa.Txt
--L1
set_option maxHeartbeats 8000000 in
set_option maxRecDepth 100000 in
theorem walk (w : World) (a1 a2 : Option Addr) (c1 c2 b1 o1 b2 o2 : Nat) (ls : List (Value × List UInt8)) (ops : List Stp) (bs : Nat → List UInt8) (T2 T1 : List Nat)
    (h1 : Hid (Rws w a1 c1 b1 o1 ls T1)) (h2 : Hid (Sta.In w a2 c2 b2 o2 ops bs T2)) :
    Calls Try.prog 4 #[.slice a1 ls.length c1, .slice a2 ops.length c2] w fun e w' => e = .returned (.bool true) ∧ Kept [] w w' := by
  have MANY := Lib.hid (Lst.many_any w a1 c1 b1 o1 ls T1 h1)
  have MUCH := Lib.hid (Lst.much_any w a2 c2 b2 o2 ops bs T2 h2.out.n h2.out.a h2.out.ops)
  have hln := h1.out.n
  have hon := h2.out.n
  go_enter Try.func4, Try.ntmps4
  go_wp2_with fail
  refine MANY.out.mono ?_
  rintro e wx ⟨⟨x1, rfl, hx1⟩, rfl⟩
  go_wp2_with fail
  refine MUCH.out.mono ?_
  rintro e wm ⟨x2, rfl, hx2, km'⟩
  have km := Lib.hid km'.out
  clear MANY MUCH km'
  by_cases hroom : 33554432 < x1 + x2
  · have j1 : (33554432 : Int) < (x1 : Int) + (x2 : Int) := by omega
    go_wp2_with fail
    go_ret
    exact ⟨rfl, km.out⟩
  have j1 : ¬ (33554432 : Int) < (x1 : Int) + (x2 : Int) := by omega
  clear hroom
  go_wp2_with fail
  refine (Kno.known_any _).mono ?_
  rintro e w1 ⟨rfl, k1⟩
  have K1 : Hid (Kept [] w w1) := km.out.trans k1 (fun _ hm => by cases hm)
  clear k1 km hx1 hx2 j1
  obtain ⟨k, hk⟩ : ∃ k, k = w1.heap.size := ⟨_, rfl⟩
  obtain ⟨wb, hwb⟩ : ∃ x, x = w1.alloc (.cells #[.slice none 0 0, .slice none 0 0, .slice none 0 0, .slice none 0 0, .slice none 0 0, .slice none 0 0] 39 (0, 0)) := ⟨_, rfl⟩
  have B0 : Hid (Bkl wb k [k] 0) := by rw [hwb, hk]; exact Bkl.new w1
  have KB : Hid (Kept [] w1 wb) := by rw [hwb]; exact (Kept.refl [] w1).alloc _
  have kl : k < wb.heap.size := by rw [hwb, hk]; simp
  obtain ⟨g, hg⟩ : ∃ g, g = wb.heap.size := ⟨_, rfl⟩
  obtain ⟨wg, hwg⟩ : ∃ x, x = wb.alloc (.cells #[.slice none 0 0, .slice none 0 0, .pointer (some ⟨k, 0, none⟩)] 53 (0, 0)) := ⟨_, rfl⟩
  have KG : Hid (Kept [] wb wg) := by rw [hwg]; exact (Kept.refl [] wb).alloc _
  have K2 : Hid (Kept [] w wg) := (K1.out.trans KB.out (fun _ hm => by cases hm)).trans KG.out (fun _ hm => by cases hm)
  have B2 : Hid (Bkl wg k [k] 0) := B0.out.kept KG.out (fun _ _ hm => by cases hm)
  have hz1 := K1.out.size
  have gl : g < wg.heap.size := by rw [hwg, hg]; simp
  have M2 : Hid (Rmn w wg wg.heap.size g k (.slice none 0 0) (.slice none 0 0) 0 0 0 (fun _ => 0) (fun _ => 0) (fun _ => []) (fun _ => []) (fun _ => ⟨[], 0, 0, 0⟩) (fun b => if b = g then 5 else if b = k then 6 else 7) [k]) := by
    have hgk : g ≠ k := by omega
    refine ⟨Nat.le_refl _, (fun i h => by omega), (fun i h => by omega), (fun i h => by omega), (fun i h => by omega), ?_, ⟨gl, if_pos rfl⟩, by omega, World.ownsRow_nil _ _ _ _, World.ownsRow_nil _ _ _ _, (fun b h => by cases h), (fun b h => by cases h), K2.out, fun b hb => ?_, fun b hb => ?_⟩
    · rw [hwg, hg]; exact heap_alloc_new wb _
    · refine ⟨by omega, ?_⟩
      rw [if_neg (by omega), if_neg (by omega)]
    · have hbk : b = k := by simpa using hb
      refine ⟨by omega, ?_⟩
      rw [if_neg (by omega), if_pos hbk]
  have HK := Lib.hid hk
  have HG : Hid (g = k + 1) := by show g = k + 1; rw [hg, hwb, hk]; simp
  have HWB := Lib.hid hwb
  have HWG := Lib.hid hwg
  clear hk hg hwb hwg B0 KB KG K1 kl gl hz1
  go_upto_region 7 with (fail)
  rw [← HK.out, ← HWB.out, ← HG.out, ← HWG.out]
  clear HK HG HWB HWG K2
  go_wp2_with fail
  go_loopw [7] (fun iv wr => ∃ (i z : Nat) (cv dv : Value) (p q : Nat → Nat) (T U : Nat → List Nat) (st : Nat → RS) (col : Nat → Nat) (B : List Nat), iv = .int .i64 i ∧ i ≤ ls.length ∧ Hid (Rmn w wr z g k cv dv i i i p q T U st col B) ∧ Hid (Bkl wr k B 0)) (fun iv _ => ls.length - (intOf iv).toNat)
  case atStart => exact ⟨0, _, _, _, _, _, _, _, _, _, _, rfl, Nat.zero_le _, M2, B2⟩
  case round =>
    clear M2 B2
    obtain ⟨i, z, cv, dv, p, q, T, U, st, col, B, rfl, hi, M, BK⟩ := hrel
    by_cases hlt : i < ls.length
--S1
    · obtain ⟨rfl, hcap⟩ := h1.out.a (by omega)
      obtain ⟨i0, hi0, hz00, hz01, hz02⟩ := info_parts info_rp
      obtain ⟨i1, hi1, hz10, hz11, hz12⟩ := info_parts info_qp
      have HR := Lib.hid (h1.out.kept M.out.kept (fun _ _ hm => by cases hm))
      obtain ⟨h4, h5, ba, bc, hv, h6, h7, h8, h9⟩ := HR.out.at' i hlt
      obtain ⟨l, hl⟩ : ∃ l, l = (ls[i]).2 := ⟨_, rfl⟩
      rw [hv, ← hl] at h5 h9
      rw [← hl] at h6 h8
      have SR := Lib.hid h9
      have TT : Hid (∀ b ∈ T1, b < wr.heap.size) := HR.out.t
      have B1 : Hid (b1 ∈ T1) := h4
      have CEL : Hid (∀ w2 S, Kept S wr w2 → b1 ∉ S → w2.cell? ⟨b1, o1 + i, none⟩ = some (.slice ba l.length bc)) := fun w2 S KK hb => by rw [← h5]; exact World.cell?_of_block (KK.block b1 (TT.out b1 h4) hb)
      have j3 : (i : Int) < (ls.length : Int) := by omega
      have LENT := Lib.hid (Lst.lent_any wr (.slice ba l.length bc) l T1 (by omega) SR)
      have hcc : (l.length : Int) ≤ (bc : Int) := by omega
      clear h4 hv hl h6 h9 hln
      go_wp2_with fail
      refine LENT.out.mono ?_
      rintro e w3 ⟨v1, rfl, hown, k3⟩
      obtain ⟨ga, c, rfl, hg1, hg2, hc, hm⟩ := own_marked hown.out
      have K3 := Lib.hid k3
      have HM := Lib.hid hm
      have cel3 := CEL.out w3 [] k3 (by simp)
      have S3 : Hid (Src w3 (.slice (some ⟨ga, 0, none⟩) l.length c) l [ga]) := (marked_seg hm).src
      have NEW := Lib.hid (Rdr.new_any w3 (.slice (some ⟨ga, 0, none⟩) l.length c) l [ga] (by omega) S3)
      clear hown k3 hm LENT h5
      go_wp2_with fail
      refine NEW.out.mono ?_
      rintro e w4 ⟨r, Tr, rfl, r4, k4, hr4, ht4⟩
      have K4 := Lib.hid k4
      have cel4 := CEL.out w4 [] (K3.out.trans k4 (fun _ hm => by cases hm)) (by simp)
      have HM4 : Hid (w4.ownsRow 0 5 1 (.slice (some ⟨ga, 0, none⟩) (l.length + 3) c) (l.length + 3) ((Lst.marked l).map bv)) := Zb.ownsRow_kept HM.out k4 (fun _ _ hm => by cases hm)
      have S4 : Hid (Src w4 (.slice ba l.length bc) l T1) := (SR.out.kept K3.out (fun _ _ hm => by cases hm)).kept k4 (fun _ _ hm => by cases hm)
      have KEPT := Lib.hid (Lst.kept_true w4 ga c (.slice ba l.length bc) l T1 (by omega) HM4 S4)
      clear k4 NEW cel3
      go_wp2_with fail
      refine KEPT.out.mono ?_
      rintro e w5 ⟨rfl, k5⟩
      have hz3 := K3.out.size
      have hz4 := K4.out.size
      have K5 : Hid (Kept [] wr w5) := (K3.out.trans K4.out (fun _ hm => by cases hm)).trans k5 (fun b hb => by simp at hb; right; omega)
      have r5 : Hid (Rd w5 r Tr ⟨l, 0, 0, 0⟩) := r4.out.kept k5 (by simp; omega) (fun b hb hm => by have := ht4.out b hb; simp at hm; omega)
      have zw := M.out.zle
      obtain ⟨col5, hcol5⟩ : ∃ f : Nat → Nat, f = fun b => if b < z then col b else if b = r then 8 + i else 7 := ⟨_, rfl⟩
      have M5 : Hid (Rmn w w5 w5.heap.size g k cv dv i i i p q T U st col5 B) := ((M.out.pure K5.out).recol (col' := col5) (fun b hb => by rw [hcol5]; exact if_pos hb)).up
      have R5 : Hid (r < w5.heap.size ∧ col5 r = 8 + i ∧ z ≤ r) := ⟨r5.out.lt, by rw [hcol5]; simp only; rw [if_neg (by omega)]; simp, by omega⟩
      have T5 : Hid (∀ b ∈ Tr, b < w5.heap.size ∧ col5 b = 7 ∧ z ≤ b) := fun b hb => by
        have := ht4.out b hb
        have := k5.size
        refine ⟨by omega, ?_, by omega⟩
        have hne : b ≠ r := fun e => by obtain ⟨_, _, _, x⟩ := r5.out; exact x (e ▸ hb)
        rw [hcol5]
        simp only
        rw [if_neg (by omega), if_neg hne]
      have BK5 : Hid (Bkl w5 k B 0) := BK.out.kept K5.out (fun _ _ hm => by cases hm)
      have cel5 := CEL.out w5 [] K5.out (by simp)
      obtain ⟨ca, cc, rfl⟩ := Zb.own_slice M5.out.crow
      obtain ⟨da, dd, rfl⟩ := Zb.own_slice M5.out.drow
      obtain ⟨e0, e1, e2, fz⟩ := three M5.out.hand
      have f0 := fz 0
      have hbase := M5.out.kept.size
      have hln2 : i ≤ 1048576 := by have := h1.out.n; omega
      clear fz k5 KEPT cel4 hcol5 HM HM4 S3 S4 r4 ht4 hg1 hg2 hr4 zw hz3 hz4 hc
      go_upto_region 15 with (fail)
      go_wp2_with (at_builtin; refine Zb.wpList_append_src (w5.alloc (.cells #[.pointer (some ⟨r, 0, none⟩)] 55)) rfl (.tmp 64) (.tmp 66) 50 rfl w.heap.size 55 i0 (.pointer none) 1 8 Try.underlying50 hi0 hz00 hz01 hz02 rfl (by decide) (.slice ca i cc) i (ptrs p i) rfl (M5.out.crow.alloc _) (.slice (some ⟨w5.heap.size, 0, none⟩) 1 1) 1 [.pointer (some ⟨r, 0, none⟩)] rfl (Or.inr ⟨_, _, rfl, World.news_of_block (cs := #[.pointer (some ⟨r, 0, none⟩)]) (by exact heap_alloc_new w5 _)⟩) rfl (by intro u hu; simp at hu; subst hu; rfl) (by unfold maxLen; omega) (by omega) (by simp; omega) ?_; intro v6 w6 hown6 hgrow6 hat6; have O6 := Lib.hid hown6; have G6 := Lib.hid hgrow6; have A6 := Lib.hid hat6; clear hown6 hgrow6 hat6; refine Hid.out ?_)
      have KA : Hid (Kept [] w5 (w5.alloc (.cells #[.pointer (some ⟨r, 0, none⟩)] 55))) := (Kept.refl [] w5).alloc _
      have HN6 := M5.out.handc KA.out G6.out
      obtain ⟨col6, S6, R6, C6, KK6, SS6⟩ := M5.out.growc (fun j hj => put1_ne p r (by omega)) KA.out O6.out G6.out A6.out
      obtain ⟨y0, y1, y2, yz⟩ := three HN6
      have yf := yz 0
      obtain ⟨va, vc, rfl⟩ := Zb.own_slice O6.out
      have R6h := Lib.hid R6
      have C6h := Lib.hid C6
      have KK6h := Lib.hid KK6
      have SS6h := Lib.hid SS6
      clear HN6 yz R6 C6 KK6 SS6
      refine Lib.hid ?_
      go_upto_region 16 with (fail)
      obtain ⟨w7, hw7⟩ : ∃ w7, w7 = w6.setCell ⟨g, 0, none⟩ (.slice va (i + 1) vc) := ⟨_, rfl⟩
      have HSZ : Hid (w7.heap.size = w6.heap.size) := by rw [hw7]; show _ = _; simp [World.setCell]
      rw [← hw7] at R6h KK6h ⊢
      clear hw7 y0 y1 y2 yf e0 e1 e2 f0
      have K7 : Hid (Kept S6 wr w7) := (K5.out.mono (fun _ hm => by cases hm)).trans KK6h.out (fun b hb => Or.inl hb)
      have O7 : Hid (∀ b ∈ T1, b ∉ S6) := fun b hb hm => by
        have h8 := M5.out.old b (h1.out.t b hb)
        have := SS6h.out b hm
        omega
      have cel7 := CEL.out w7 S6 K7.out (O7.out b1 B1.out)
      have SR7 : Hid (Src w7.drew (.slice ba l.length bc) l T1) := (SR.out.kept K7.out O7.out).kept (Kept.refl [] w7).drew (fun _ _ hm => by cases hm)
      have NEW := Lib.hid (Vrd.new_any w7.drew ba bc l T1 (by omega) SR7)
      obtain ⟨e0, e1, e2, fz⟩ := three R6h.out.hand
      have f1 := fz 1
      have hb7 := R6h.out.kept.size
      clear fz
      clear hln2
      have hln2 : i ≤ 1048576 := Nat.le_trans hi h1.out.n
      go_region_law (first | (refine step_call rfl 20 #[.slice ba l.length bc] (by simp [go_sem]) NEW.out ?_; rintro e w8 ⟨s, Us, rfl, d8, n8, k8⟩; refine ⟨_, rfl, ?_⟩; have KD8 : Hid (Kept [] w7 w8) := (Kept.refl [] w7).drew.trans k8 (fun _ hm => by cases hm); have R8 := Lib.hid (R6h.out.pure KD8.out); have N8 := Lib.hid n8; have A8 : Hid (Kept [] w8 (w8.alloc (.cells #[.pointer (some ⟨s, 0, none⟩)] 58))) := (Kept.refl [] w8).alloc _; obtain ⟨x0, x1', x2', -⟩ := three R8.out.hand; have x3 : (w8.alloc (.cells #[.pointer (some ⟨s, 0, none⟩)] 58)).cell? ⟨g, 1, none⟩ = some (.slice da i dd) := (three (R8.out.pure A8.out).hand).2.1; have hb8 := R8.out.kept.size; clear k8 n8 x0 x2') | (refine Zb.step_append_src (w8.alloc (.cells #[.pointer (some ⟨s, 0, none⟩)] 58)) rfl (.tmp 74) (.tmp 80) 51 rfl w.heap.size 58 i1 (.pointer none) 1 8 Try.underlying51 hi1 hz10 hz11 hz12 rfl (by decide) (.slice da i dd) i (ptrs q i) (by simp [Act.eval]) (R8.out.drow.alloc _) (.slice (some ⟨w8.heap.size, 0, none⟩) 1 1) 1 [.pointer (some ⟨s, 0, none⟩)] (by simp [Act.eval]) (Or.inr ⟨_, _, rfl, World.news_of_block (cs := #[.pointer (some ⟨s, 0, none⟩)]) (by exact heap_alloc_new w8 _)⟩) rfl (by intro u hu; simp at hu; subst hu; rfl) (by unfold maxLen; omega) (by omega) (by simp; omega) ?_; intro v9 w9 hown9 hgrow9 hat9; have O9 := Lib.hid hown9; have G9 := Lib.hid hgrow9; have A9 := Lib.hid hat9; have HN9 := R8.out.handd A8.out hgrow9; obtain ⟨y0, y1, y2, yz⟩ := three HN9; have yf := yz 1; obtain ⟨vb, vd, rfl⟩ := Zb.own_slice hown9; clear hown9 hgrow9 hat9 HN9 yz y0 y2))
      all_goals
        have z5 := KK6h.out.size
        have z7 := HSZ.out
        have zr := R5.out
        have a8 : Rd w8 r Tr ⟨l, 0, 0, 0⟩ := (r5.out.kept KK6h.out (fun hm => by have := SS6h.out r hm; omega) (fun b hb hm => by have := SS6h.out b hm; have := T5.out b hb; omega)).kept KD8.out (by simp) (fun _ _ hm => by cases hm)
        have n8 : ∀ b ∈ s :: Us, w7.heap.size ≤ b ∧ b < w8.heap.size := N8.out
        have z8 := KD8.out.size
        have P8 : Pr w8 r s Tr Us ⟨l, 0, 0, 0⟩ := ⟨a8, d8.out, by have := n8 s (by simp); omega, fun hm => by have := n8 r (List.mem_cons_of_mem _ hm); omega, fun hm => by have := n8 s (by simp); have := T5.out s hm; omega, fun b hb => by
          rcases List.mem_append.1 hb with x | x
          · have := T5.out b x; omega
          · exact (n8 b (List.mem_cons_of_mem _ x)).2⟩
        have fin : (⟨l, 0, 0, 0⟩ : RS).Fine := ⟨by show 0 + l.length ≤ _; omega, by show 0 ≤ 67108864; omega, by show (-9223372036854775808 : Int) ≤ 0; decide, by show (0 : Int) ≤ 9223372036854775807; decide⟩
        obtain ⟨col9, REG⟩ := R8.out.reg (r := r) (s := s) (T' := Tr) (U' := Us) (s' := ⟨l, 0, 0, 0⟩) (Or.inr ⟨rfl, put1_at _ _ _⟩) (Or.inl rfl) P8 fin (Or.inl ⟨by omega, by rw [C6h.out r zr.1]; exact zr.2.1⟩) (by have := n8 s (by simp); omega) (fun b hb => Or.inl ⟨by have := T5.out b hb; omega, by rw [C6h.out b (T5.out b hb).1]; exact (T5.out b hb).2.1⟩) (fun b hb => by have := n8 b (List.mem_cons_of_mem _ hb); omega)
        obtain ⟨col10, S10, R10, C10, K10, SS10⟩ := REG.growd (dv' := .slice vb (i + 1) vd) (fun j _ => by rw [put1_put1]) A8.out (by rw [ptrs_put1]; exact O9.out) G9.out A9.out
        have B10 : Bkl (w9.setCell ⟨g, 1, none⟩ (.slice vb (i + 1) vd)) k B 0 := ((BK5.out.kept KK6h.out (fun b hb hm => by have := SS6h.out b hm; have := M5.out.bc b hb; omega)).kept KD8.out (fun _ _ hm => by cases hm)).kept K10 (fun b hb hm => by have := SS10 b hm; have := REG.bc b hb; omega)
        have R10h := Lib.hid R10
        have B10h := Lib.hid B10
        clear z5 z7 zr a8 n8 z8 P8 fin REG R10 C10 K10 SS10 B10
        go_wp2_with fail
        go_roundw
        case rel => exact ⟨i + 1, _, _, _, _, _, _, _, _, _, B, by go_num, by omega, R10h, B10h⟩
        case measure => simp [intOf]; omega
--E1
    · obtain rfl : i = ls.length := by omega
      obtain ⟨N, hN⟩ : ∃ N, N = ls.length := ⟨_, rfl⟩
      have j3 : ¬ (ls.length : Int) < (ls.length : Int) := by omega
      obtain ⟨ca, cc, rfl⟩ := Zb.own_slice M.out.crow
      obtain ⟨da, dd, rfl⟩ := Zb.own_slice M.out.drow
      have hN2 : N ≤ 1048576 := by rw [hN]; exact hln
      go_upto_region 17 with (fail)
      have M1 : Hid (Rmn w wr z g k (.slice ca N cc) (.slice da N dd) N N N p q T U st col B) := by rw [hN]; exact M
      clear M hN hi hlt hln
      go_wp2_with fail
      go_loopw [11] (fun iv wx => ∃ (i n m z : Nat) (cv dv : Value) (p q : Nat → Nat) (T U : Nat → List Nat) (st : Nat → RS) (col : Nat → Nat) (B : List Nat), iv = .int .i64 i ∧ i ≤ ops.length ∧ n ≤ N + i ∧ m ≤ i ∧ Hid (Rmn w wx z g k cv dv n n n p q T U st col B) ∧ Hid (Bkl wx k B m)) (fun iv _ => ops.length - (intOf iv).toNat)
      case atStart => exact ⟨0, N, 0, _, _, _, _, _, _, _, _, _, _, rfl, Nat.zero_le _, Nat.le_refl _, Nat.le_refl _, M1, BK⟩
      case round =>
        clear M1 BK p q T U st col B z ca cc da dd
        obtain ⟨i, n, m, z, cv, dv, p, q, T, U, st, col, B, rfl, hi, hn, hm, M, BK⟩ := hrel
        obtain ⟨ca, cc, rfl⟩ := Zb.own_slice M.out.crow
        obtain ⟨da, dd, rfl⟩ := Zb.own_slice M.out.drow
        obtain ⟨e0, e1, e2, fz⟩ := three M.out.hand
        clear fz
        go_upto_region 18 with (fail)
        go_cut [95] from 84 to 94 (fun s95 wx => s95 = .bool (decide (i < ops.length ∧ 0 < n)) ∧ wr = wx)
        case first =>
          by_cases hlt : i < ops.length
          · have j3 : (i : Int) < (ops.length : Int) := by omega
            have e : decide (i < ops.length ∧ 0 < n) = decide (0 < n) := by simp [hlt]
            have E := Lib.hid e
            clear e
            go_wp2_with fail
            go_meet
            case rel => exact ⟨by rw [E.out], rfl⟩
          · have e : decide (i < ops.length ∧ 0 < n) = false := by simp [hlt]
            have E := Lib.hid e
            clear e
            have j3 : ¬ (i : Int) < (ops.length : Int) := by omega
            go_wp2_with fail
            go_meet
            case rel => exact ⟨by rw [E.out], rfl⟩
        case rest =>
          obtain ⟨rfl, rfl⟩ := hcut
          by_cases hlt : i < ops.length ∧ 0 < n
          · rw [decide_eq_true hlt]
            obtain ⟨hlt, hn0⟩ := hlt
            obtain ⟨rfl, hcap⟩ := h2.out.a (by omega)
            have HOPS := Lib.hid (h2.out.ops.kept M.out.kept (fun _ _ hm => by cases hm))
            obtain ⟨h4, h5, h6, -, -⟩ := HOPS.out.at' i hlt
            obtain ⟨o, ho⟩ : ∃ o, o = ops[i] := ⟨_, rfl⟩
            rw [← ho] at h5 h6
            have hwho := h2.out.who i hlt
            rw [← ho] at hwho
            clear ho
            obtain ⟨who, kind, on, ok, ob, os⟩ := o
            have d0 : wr.cell? ⟨b2, o2 + i * 6, none⟩ = some (.int .i64 who) := h5 0 (by omega)
            have d1 : wr.cell? ⟨b2, o2 + i * 6 + 1, none⟩ = some (.int .i64 kind) := h5 1 (by omega)
            have d2 : wr.cell? ⟨b2, o2 + i * 6 + 2, none⟩ = some (.int .u64 on) := h5 2 (by omega)
            have d3 : wr.cell? ⟨b2, o2 + i * 6 + 3, none⟩ = some (.int .i64 ok) := h5 3 (by omega)
            have d4 : wr.cell? ⟨b2, o2 + i * 6 + 4, none⟩ = some ob := h5 4 (by omega)
            have d5 : wr.cell? ⟨b2, o2 + i * 6 + 5, none⟩ = some (.string os) := h5 5 (by omega)
            have BEG : Hid (Beg w wr g k n m (.slice ca n cc) (.slice da n dd) p q T U st col B z) := ⟨M.out, BK.out, hn0, by omega, by omega⟩
            have RD := Lib.hid (Lst.reads_any w wr g k n m _ _ p q T U st col B z ⟨who, kind, on, ok, ob, os⟩ ⟨hwho.1, hwho.2, h6.k1, h6.k2⟩ BEG)
            have RD2 : Hid (Calls Try.prog 21 #[.pointer (some ⟨g, 0, none⟩), .agg #[.int .i64 who, .int .i64 kind, .int .u64 on, .int .i64 ok, ob, .string os]] wr (ReadsOut w g k n m)) := RD
            have j3 : (i : Int) < (ops.length : Int) := by omega
            clear h5 h6 h4 HOPS hwho RD BEG M BK
            go_wp2_with fail
            refine RD2.out.mono ?_
            rintro e w3 ⟨z', cv', dv', n', p', q', T', U', st', col', B', m', rfl, hn1, hn2, hm1, M3, B3⟩
            obtain ⟨y0, y1, y2, yz⟩ := three M3.out.hand
            have TURN := Lib.hid (Bkl.turn_any w3 k B' m' (by omega) B3)
            clear RD2 d0 d1 d2 d3 d4 d5 e0 e1 e2 yz
            go_wp2_with fail
            refine TURN.out.mono ?_
            rintro e w4 ⟨rfl, o4⟩
            obtain ⟨B4, col4, z4, M4, b4⟩ := M3.out.book (v := .bool true) (fun b hb => by cases hb) o4
            have M4h := Lib.hid M4
            have b4h := Lib.hid b4
            clear TURN o4 M4 b4
            go_wp2_with fail
            go_roundw
            case rel => exact ⟨i + 1, n', m', z4, cv', dv', p', q', T', U', st', col4, B4, by go_num, by omega, by omega, by omega, M4h, b4h⟩
            case measure => simp [intOf]; omega
          · rw [decide_eq_false hlt]
            have hnB : n ≤ 2097152 := by omega
            go_wp2_with fail
            go_loopw [14] (fun iv wx => ∃ (j z : Nat) (col : Nat → Nat), iv = .int .i64 j ∧ j ≤ n ∧ Hid (Rmn w wx z g k (.slice ca n cc) (.slice da n dd) n n n p q T U st col B) ∧ Hid (Bkl wx k B m)) (fun iv _ => n - (intOf iv).toNat)
            case atStart => exact ⟨0, z, col, rfl, Nat.zero_le _, M, BK⟩
            case round =>
              clear M BK col z e0 e1 e2
              obtain ⟨j, z, col, rfl, hj, M, BK⟩ := hrel
              obtain ⟨e0, e1, e2, fz⟩ := three M.out.hand
              clear fz
              by_cases hjn : j < n
              · obtain ⟨x1, x2, ec, hcc, hcell⟩ := ptrs_at M.out.crow hjn
                obtain ⟨x3, x4, ed, hdd, hdell⟩ := ptrs_at M.out.drow hjn
                cases ec
                cases ed
                have j5 : (j : Int) < (n : Int) := by omega
                have TL := Lib.hid (Lst.tells_any wr.drew (p j) (q j) (T j) (U j) (st j) (M.out.fine j hjn) ((M.out.pure (Kept.refl [] wr).drew).two j hjn))
                go_upto_region 27 with (fail)
                go_cut [15] from 124 to 138 (fun s15 wx => s15 = .bool true ∧ Hid (Kept [] wr wx))
                case first =>
                  go_region_with (go_at_call 22; refine TL.out.mono ?_; rintro e w2 ⟨rfl, k2⟩; have K2 : Hid (Kept [] wr w2) := (Kept.refl [] wr).drew.trans k2 (fun _ hm => by cases hm); clear k2)
                  all_goals
                    go_wp2_with fail
                    go_meet
                    case rel => exact ⟨rfl, K2⟩
                case rest =>
                  obtain ⟨rfl, K2⟩ := hcut
                  clear TL hcell hdell e0 e1 e2
                  go_wp2_with fail
                  go_roundw
                  case rel => exact ⟨j + 1, z, col, by go_num, by omega, M.out.pure K2.out, BK.out.kept K2.out (fun _ _ hm => by cases hm)⟩
                  case measure => simp [intOf]; omega
              · have ENDS := Lib.hid (Bkl.ends_any wr k B m (by omega) BK)
                have j5 : ¬ (j : Int) < (n : Int) := by omega
                go_wp2_with fail
                refine ENDS.out.mono ?_
                rintro e w5 ⟨rfl, o5⟩
                go_wp2_with fail
                go_ret
                obtain ⟨_, _, _, M5, _⟩ := M.out.book (v := .bool true) (fun b hb => by cases hb) o5
                exact ⟨rfl, M5.kept⟩
end Wrd
end Go.Proofs.Ytfdbpbhihccgbaa
