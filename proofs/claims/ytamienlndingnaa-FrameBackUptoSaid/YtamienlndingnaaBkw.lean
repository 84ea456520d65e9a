/- FrameBack walked: frames that were made are gone through again, and are cut out one by one. -/
import Derived.Test.YtamienlndingnaaBkm
import Derived.Test.YtamienlndingnaaAll
import Derived.Test.YtamienlndingnaaInp
import Derived.RangeFuncLeaves
import Derived.Shelf.RegionOpen
import Derived.Outline
namespace Go.Proofs.Ytamienlndingnaa
set_option linter.unusedVariables false
open Go.RowKit Go.Shelf
attribute [local go_sem] Oper.semAt_some
namespace Law
open Cut

set_option maxHeartbeats 16000000 in
set_option maxRecDepth 100000 in
theorem back_walk (w : World) (ms : Nat) (a1 a2 : Option Addr) (c1 c2 b1 o1 : Nat) (ls : List (Value × List UInt8)) (r : List UInt8) (T1 T2 : List Nat) (hms : ms ≤ 4294967295) (hr : r.length ≤ 1048576)
    (h1 : Hid (Rws w a1 c1 b1 o1 ls T1)) (h2 : Hid (Src w (.slice a2 r.length c2) r T2)) (hT2 : Hid (∀ k ∈ T2, k < w.heap.size)) :
    Calls Try.prog 5 #[.slice a1 ls.length c1, .int .u32 ms, .slice a2 r.length c2] w fun e w' => e = .returned (.bool true) ∧ Kept [] w w' := by
  obtain ⟨M, hM⟩ : ∃ M, M = ms % 65530 + 3 := ⟨_, rfl⟩
  obtain ⟨L, hL⟩ : ∃ L, L = M + 4 := ⟨_, rfl⟩
  have hLM : (7 : Int) + (ms : Int) % 65530 = (L : Int) := by omega
  have hM3 : 3 ≤ M := by omega
  have hM4 : M ≤ 65532 := by omega
  have HL := Lib.hid hL
  have hL7 : 7 ≤ L := by omega
  have hL6 : L ≤ 65536 := by omega
  clear hM hL
  have m1 : manyF 0 ls ≤ 35651584 := manyF_le ls 0 (fun x hx => by
    obtain ⟨i, hi, rfl⟩ := List.mem_iff_getElem.1 hx
    obtain ⟨-, -, _, _, _, _, _, h, _⟩ := h1.out.at' i hi
    exact h) (by omega)
  obtain ⟨w0, hw0⟩ : ∃ w0, w0 = w.alloc (.cells #[.bool false] 4 (0, 0)) := ⟨_, rfl⟩
  have K0 : Hid (Kept [] w w0) := by rw [hw0]; exact (Kept.refl _ _).alloc _
  have HR0 : Hid (w0.heap[w.heap.size]? = some (.cells #[.bool false] 4 (0, 0))) := by rw [hw0]; exact heap_alloc_new w _
  have MANY := Lib.hid (many_any w0 a1 c1 b1 o1 ls T1 (h1.out.kept K0.out (fun _ _ hm => by simp at hm)))
  obtain ⟨x1, hx1⟩ : ∃ x, x = manyF 0 ls := ⟨_, rfl⟩
  rw [← hx1] at MANY m1
  have HX1 := Lib.hid hx1
  clear hx1
  obtain ⟨R, hR⟩ : ∃ R, R = w.heap.size := ⟨_, rfl⟩
  refine (callsIn_wide (n := 4)).1 ?_
  refine callsIn_of_wp_marks Try.func5 rfl trivial ?_ rfl
  simp only [Try.ntmps5, List.size_toArray, List.length_cons, List.length_nil, Nat.reduceAdd, Nat.reduceSub, Array.replicate_succ, Array.replicate_zero, List.push_toArray, List.append_toArray, List.nil_append, List.cons_append]
  have HRh := Lib.hid hR
  have hw0h := Lib.hid hw0
  clear hR hw0
  gi_wp2_with fail
  rw [← hw0h.out, ← HRh.out]
  refine ⟨trivial, (callsIn_wide.2 MANY.out).mono ?_⟩
  rintro e w1 ⟨rfl, rfl⟩
  have HR1 : w1.heap[R]? = some (.cells #[.bool false] 4 (0, 0)) := by rw [HRh.out]; exact HR0.out
  have zR : w.heap.size ≤ R := by rw [HRh.out]; exact Nat.le_refl _
  have c0 : w1.cell? ⟨R, 0, none⟩ = some (.bool false) := by rw [cell_of_row w1 R 0 _ _ (0, 0) HR1]; rfl
  have f0 := frozen_blk HR1
  have HR2 := Lib.hid HR1
  clear HR1 HR0 hw0h HRh MANY
  by_cases hroom : 33554432 < x1 + r.length
  · have j1 : (33554432 : Int) < (x1 : Int) + (r.length : Int) := by omega
    have e0 : (w1.setCell ⟨R, 0, none⟩ (.bool true)).cell? ⟨R, 0, none⟩ = some (.bool true) := by
      rw [cell_of_row _ R 0 _ _ (0, 0) (heap_set (i := 0) (.bool true) HR2.out)]
      rfl
    gi_wp2_with fail
    refine ⟨.bool true, ?_, rfl, K0.out.setCell (Or.inr (by exact zR)) _⟩
    simp [results, Try.f5, go_sem, e0]
  have j1 : ¬ (33554432 : Int) < (x1 : Int) + (r.length : Int) := by omega
  gi_wp2_with fail
  refine ⟨trivial, (callsIn_wide.2 (known_any w1)).mono ?_⟩
  rintro e w2 ⟨rfl, k2⟩
  have K2 : Hid (Kept [] w w2) := K0.out.trans k2 (fun i hi => by simp at hi)
  have HR3 : Hid (w2.heap[R]? = some (.cells #[.bool false] 4 (0, 0))) := (k2.block _ (block_lt HR2.out) (by simp)).trans HR2.out
  clear k2 HR2 c0 f0 K0
  have hx1b : Hid (bulkL ls ≤ 33554432) := by
    have h := manyF_bulk ls 0 (by rw [← HX1.out]; omega)
    rw [← HX1.out] at h
    show bulkL ls ≤ _
    omega
  clear HX1
  obtain ⟨i0, hi, hz0, hz1, hz2⟩ := info_parts info_u8
  obtain ⟨i1, hi1, hz10, hz11, hz12⟩ := info_parts info_sl
  obtain ⟨w3, hw3⟩ : ∃ w3, w3 = w2.alloc (.cells #[.slice none 0 0] 26 (0, 0)) := ⟨_, rfl⟩
  obtain ⟨D, hD⟩ : ∃ D, D = w2.heap.size := ⟨_, rfl⟩
  have hD3 : w3.heap[D]? = some (.cells #[.slice none 0 0] 26 (0, 0)) := by rw [hw3, hD]; exact heap_alloc_new w2 _
  have k3 : Kept [] w2 w3 := by rw [hw3]; exact (Kept.refl _ _).alloc _
  have hRD : R < D := by have := block_lt HR3.out; omega
  have G0 : Hid (BkG w R D (.slice none 0 0) [] (.slice none 0 0) [] [] [] w3) :=
    ⟨⟨zR, hRD⟩, World.ownsRow_nil _ _ _ _, rfl, FrL.nil w3, (fun k hk => by cases hk), (fun k hk => by simp at hk), hD3, (k3.block _ (block_lt HR3.out) (by simp)).trans HR3.out, K2.out.trans k3 (fun i hi => by simp at hi)⟩
  have hw3h := Lib.hid hw3
  have hDh := Lib.hid hD
  clear hw3 hD hD3 k3 HR3 K2
  gi_wp2_with fail
  rw [← hw3h.out, ← hDh.out]
  clear hw3h hDh
  gi_loopw [9, 11] (fun bvv iv wr => ∃ (i : Nat) (v wv : Value) (b : List UInt8) (us : List Value) (T : List Nat), v = bvv ∧ iv = .int .i64 i ∧ i ≤ ls.length ∧ b.length ≤ bulkL (ls.take i) ∧ Hid (BkG w R D v b wv us ((ls.take i).map (fun x => frameOf x.2 L)) T wr)) (fun _ iv _ => ls.length - (intOf iv).toNat)
  case atStart => exact ⟨0, _, _, [], [], [], rfl, rfl, by omega, by simp, G0⟩
  case round =>
    clear G0
    obtain ⟨i, v, wv, b, us, T, rfl, rfl, hi', hb, I⟩ := hrel
    have hln := h1.out.n
    have htk := bulkL_take ls i
    obtain ⟨ba, bc, rfl⟩ := own_slice I.out.own
    obtain ⟨ga, gc, rfl⟩ := own_slice I.out.got.own
    have hbb : b.length ≤ 33554432 := by have := hx1b.out; omega
    by_cases hlt : i < ls.length
    · have hR := h1.out.kept I.out.kept (fun _ _ hm => by simp at hm)
      obtain ⟨rfl, hcap⟩ := hR.a (by omega)
      obtain ⟨h4, h5, h6⟩ := hR.at' i hlt
      obtain ⟨x, hx⟩ : ∃ x, x = ls[i] := ⟨_, rfl⟩
      have hsn : bulkL (ls.take (i + 1)) = bulkL (ls.take i) + (16 + x.2.length) := by rw [List.take_succ_eq_append_getElem hlt, ← hx, bulkL_snoc]
      have hfs : (ls.take (i + 1)).map (fun x => frameOf x.2 L) = (ls.take i).map (fun x => frameOf x.2 L) ++ [frameOf x.2 L] := by rw [List.take_succ_eq_append_getElem hlt, ← hx, List.map_append]; rfl
      rw [← hx] at h5 h6
      obtain ⟨xa, xc, hv, -, -, hbl, hsrc⟩ := h6
      rw [hv] at h5 hsrc
      have HSRC := Lib.hid hsrc
      have HSN := Lib.hid hsn
      have HFS := Lib.hid hfs
      have hfl := frameOf_len x.2 L
      have j2 : (i : Int) < (ls.length : Int) := by omega
      have hul : us.length + 1 ≤ 1048577 := by
        have e := I.out.got.len
        rw [List.length_map, List.length_take] at e
        omega
      clear hR hx hv hsrc h4 hsn hfs
      have MADE := Lib.hid (made_any wr _ x.2 T1 (L : Int) M (by have := HL.out; omega) hM3 hM4 (by omega) HSRC)
      have eL : M + 4 = L := HL.out.symm
      rw [eL] at MADE
      clear eL
      have hbase : D + 1 ≤ wr.heap.size := block_lt I.out.box
      gi_wp2_with fail
      refine ⟨trivial, (callsIn_wide.2 MADE.out).mono ?_⟩
      rintro e w3 ⟨v3, rfl, own3, k3⟩
      obtain ⟨f, hf⟩ : ∃ f, f = frameOf x.2 L := ⟨_, rfl⟩
      rw [← hf] at own3 HFS hfl
      clear hf MADE HSRC h5
      obtain ⟨fa, fc, rfl⟩ := own_slice own3.out
      have I3 := Lib.hid (I.out.pure k3)
      have hk3 := k3.size
      have hbase3 : D + 1 ≤ w3.heap.size := by omega
      have K3 := Lib.hid k3
      clear k3 hk3
      gi_wp2_with (first
        | (gi_at_builtin; refine wpListIn_append_src w3 rfl (.tmp 48) (.tmp 49) 22 rfl (D + 1) 5 i0 (.int .u8 0) 1 1 Try.underlying22 hi hz0 hz1 hz2 rfl (by decide) (.slice ba b.length bc) b.length (b.map bv) rfl I3.out.own (.slice fa f.length fc) f.length (f.map bv) rfl (Src.of_own own3.out).rowsrc (by simp) (by intro u hu; obtain ⟨x, _, rfl⟩ := List.mem_map.1 hu; rfl) (by unfold maxLen; omega) (by omega) hbase3 ?_; intro v4 w4 hown4 hgrow4 hat4; have RR := Lib.hid (BkG.row I.out own3.out K3.out rfl hown4 hgrow4 hat4); have hcD : w4.cell? ⟨D, 0, none⟩ = some (.slice ga us.length gc) := by { rw [cell_of_row w4 D 0 _ _ (0, 0) RR.out.box]; rfl }; obtain ⟨ya, yc, rfl⟩ := own_slice hown4; clear hown4 hgrow4 hat4)
        | (gi_at_builtin; refine wpListIn_append_src (w4.alloc (.cells #[.slice fa f.length fc] 22)) rfl (.tmp 51) (.tmp 53) 26 rfl 0 22 i1 (.slice none 0 0) 1 24 Try.underlying26 hi1 hz10 hz11 hz12 rfl (by decide) (.slice ga us.length gc) us.length us rfl (RR.out.got.own.alloc _) (.slice (some ⟨w4.heap.size, 0, none⟩) 1 1) 1 [.slice fa f.length fc] rfl (Or.inr ⟨_, _, rfl, World.news_of_block (cs := #[.slice fa f.length fc]) (by exact heap_alloc_new w4 _)⟩) rfl (by intro u hu; simp at hu; subst hu; rfl) (by unfold maxLen; omega) (by omega) (Nat.zero_le _) ?_; intro v5 w5 hown5 hgrow5 hat5; have PU := Lib.hid (BkR.push RR.out ((Kept.refl [] w4).alloc _) rfl hown5 hgrow5 hat5); have hc5 : w5.cell? ⟨D, 0, none⟩ = some (.slice ga us.length gc) := by { rw [cell_of_row w5 D 0 _ _ (0, 0) PU.out.2]; rfl }; have hf5 := frozen_blk PU.out.2; obtain ⟨za, zc, rfl⟩ := own_slice hown5; clear hown5 hgrow5 hat5))
      go_roundw
      case rel => exact ⟨i + 1, _, _, b ++ f, _, _, rfl, by go_num, by omega, by have := HSN.out; simp; omega, by rw [HFS.out]; exact PU.out.1⟩
      case measure => simp [intOf]; omega
    · have hie : i = ls.length := by omega
      have j2 : ¬ (i : Int) < (ls.length : Int) := by omega
      have hbase : D + 1 ≤ wr.heap.size := block_lt I.out.box
      have hsr : Hid (Src wr (.slice a2 r.length c2) r T2) := h2.out.kept I.out.kept (fun _ _ hm => by simp at hm)
      obtain ⟨fs, hfs⟩ : ∃ fs, fs = ls.map (fun x => frameOf x.2 L) := ⟨_, rfl⟩
      have hFS : Hid (∀ f ∈ fs, Frm L f) := fun f hf => by
        rw [hfs] at hf
        obtain ⟨x, -, rfl⟩ := List.mem_map.1 hf
        exact frameOf_frm x.2 L hL7 hL6
      have hfl : fs.length = ls.length := by rw [hfs, List.length_map]
      have hI : (ls.take i).map (fun x => frameOf x.2 L) = fs := by rw [hfs, List.take_of_length_le (by omega)]
      rw [hI] at I
      clear hfs hI htk
      have hfl2 : fs.length ≤ 1048576 := by omega
      clear hfl
      gi_wp2_with (gi_at_builtin; refine wpListIn_append_keep wr rfl (.tmp 57) (.tmp 58) 22 rfl (D + 1) 5 i0 (.int .u8 0) 1 1 Try.underlying22 hi hz0 hz1 hz2 rfl (by decide) (.slice ba b.length bc) b.length (b.map bv) rfl I.out.own (.slice a2 r.length c2) r.length (r.map bv) rfl hsr.out.rowsrc (by simp) (by intro u hu; obtain ⟨x, _, rfl⟩ := List.mem_map.1 hu; rfl) (by unfold maxLen; omega) (by omega) hbase ?_; intro v4 w4 hown4 hgrow4 hat4; have TL := Lib.hid (BkG.tail I.out rfl hown4 hgrow4 hat4); obtain ⟨ya, yc, rfl⟩ := own_slice hown4; clear hown4 hgrow4 hat4)
      have hbeq := Lib.hid I.out.eq
      have hbc := Lib.hid (own_cap I.out.own)
      refine ⟨trivial, (callsIn_wide.2 (all_good w4 _ (b ++ r) _ L L rfl hL7 hL6 (by simp; omega) (Src.of_own TL.out.1))).mono ?_⟩
      rintro e w5 ⟨B1, B2, pf, va, rfl, hca, k5, far5⟩
      have J5 := Lib.hid (TL.out.2.kept' k5 (fun i hi => by simp at hi))
      have hs5 := k5.size
      clear I TL k5 hsr hbase
      have hq : ∀ w', (binOp BinOp.eql 52 (.func (.func 44) #[] #[.pointer (some ⟨B1, 0, none⟩), .pointer (some ⟨B2, 0, none⟩)]) .nilFunc).run Try.prog w' = .ok (.bool false) w' := fun _ => by kernel_rfl
      gi_wp2_with fail
      refine ⟨trivial, (callsIn_wide.2 (new_good w5 _ L rfl hL7 hL6)).mono ?_⟩
      rintro e w6 ⟨rfl, h6, k6⟩
      obtain ⟨p, hp⟩ : ∃ p, p = w5.heap.size := ⟨_, rfl⟩
      rw [← hp] at h6 ⊢
      have J6 := Lib.hid (J5.out.kept' k6 (fun i hi => by simp at hi))
      have hca6 : Hid (Caught w6 B1 B2 L true (b ++ r) pf va) := hca.out.kept k6 (by simp) (by simp) (by simp) (fun _ _ hm => by simp at hm)
      have hpD : Hid (D < p ∧ p < w6.heap.size) := ⟨by rw [hp]; exact block_lt J5.out.box, h6.out.lt p (by simp)⟩
      have hpT : Hid (∀ k ∈ (Value.slice ba b.length bc).ownBlock.toList ++ T, k < p) := fun k hk => by rw [hp]; exact (J5.out.far k hk).2
      clear hp J5 hca far5 hs5 k6
      gi_wp2_with fail
      obtain ⟨w8, hw8⟩ : ∃ W, W = w6.alloc (.cells #[.int .i64 0] 3 (0, 0)) := ⟨_, rfl⟩
      have hB8 : Hid (w8.heap[w6.heap.size]? = some (.cells #[.int .i64 0] 3 (0, 0))) := by rw [hw8]; exact heap_alloc_new w6 _
      have hz8 : w8.heap.size = w6.heap.size + 1 := by rw [hw8]; simp
      have hk8 : Hid (Kept [] w6 w8) := by rw [hw8]; exact (Kept.refl [] _).alloc _
      rw [← hw8]
      clear hw8
      obtain ⟨B, hB⟩ : ∃ B, B = w6.heap.size := ⟨_, rfl⟩
      rw [← hB] at hB8 hz8 ⊢
      have hBlt : B < w8.heap.size := by omega
      have HB := Lib.hid hB
      have J8 := Lib.hid (J6.out.kept' hk8.out (fun i hi => by simp at hi))
      have hca8 : Hid (Caught w8 B1 B2 L true (b ++ r) pf va) := hca6.out.kept hk8.out (by simp) (by simp) (by simp) (fun _ _ hm => by simp at hm)
      have h8 : Hid (Ct w8 p [p] ⟨L, [], 0, 0, false⟩) := h6.out.kept hk8.out (fun _ _ hm => by simp at hm)
      have hK0 : Hid (∀ i ∈ va.ownBlock.toList, i < w8.heap.size ∧ i ≠ B) := fun i hi => by
        have a := (hca6.out.own.lt i (by simpa using hi)).2
        have d := HB.out
        omega
      have hpB : Hid (D < p ∧ p < B ∧ D < B) := ⟨hpD.out.1, by rw [HB.out]; exact hpD.out.2, by have := hpD.out; have := HB.out; omega⟩
      have hfr : Hid (frames L (b ++ r) = fs ++ frames L r) := by rw [hbeq.out]; exact frames_flat fs r hFS.out
      have hgl : Hid (us.length = fs.length) := J8.out.got.len
      clear hB hz8 hca6 h6 hpD
      -- what comes behind the range
      have BODY : Hid True := trivial
      refine wpIn_rangeFunc_break (sl := 17) rfl (by decide) rfl trivial (enters_of Try.func44 (by kernel_rfl) rfl) (all1_iter w8 B1 B2 L pf (b ++ r) va hL7 hL6 (by simp; omega) hca8) (Kept.refl [] w8) (fun i hi => (hK0.out i hi).1) (BkC w8 B fs.length) (BkX w8 B fs.length)
        (fun Rs Rs' s A B' h k g => h.turn hBlt k g) (fun _ _ h k => h.turn hBlt k) (fun Rs W' h1 h2 h3 => ⟨(h2.block B hBlt (by simp)).trans hB8.out, by simp, h1, h2.mono (fun i hi => by simp at hi), h3⟩) ?assign ?body ?isx ?rest
      case assign =>
        intro l x W K hK
        gi_wp2_with fail
        exact hK
      case body =>
        rintro l Rs pre ⟨xv, xb⟩ A Wb W hRs hA hiA hib hAW hgv hWW hC
        have hiW := hib.turn hBlt (hWW.mono (T := w8.heap.size :: (w8.heap.size + 1) :: Rs) (fun i hi => Or.inl (by simp at hi; simp [hi]))) (fun i hi => Or.inl hi)
        have hJW := Lib.hid (J6.out.kept' ((hk8.out.mono (fun i hi => by simp at hi)).trans hiW.kept (fun i hi => Or.inl hi)) (fun i hi => by simp at hi; rw [hi, HB.out]; exact Nat.le_refl _))
        have hx0 : Own W 0 xv xb := World.ownsRow.mono (ownsRow_kept hgv.1 hWW (fun i hi hm => by have := (hgv.1.lt i hi).1; simp at hm; omega)) (Nat.zero_le _)
        have cB : W.cell? ⟨B, 0, none⟩ = some (.int .i64 pre.length) := by rw [cell_of_row W B 0 _ _ (0, 0) hiW.box]; rfl
        have cD : W.cell? ⟨D, 0, none⟩ = some (.slice ga us.length gc) := by rw [cell_of_row W D 0 _ _ (0, 0) hJW.out.box]; rfl
        have fB := frozen_blk hiW.box
        obtain ⟨xa, xc, rfl⟩ := own_slice hx0
        have HI := Lib.hid hiW
        have HX0 := Lib.hid hx0
        by_cases hpn : pre.length = fs.length
        · have q1 : ((pre.length : Int) == (us.length : Int)) = true := by rw [beq_iff_eq]; have := hgl.out; omega
          have XX : Hid (BkX w8 B fs.length W) := ⟨by rw [← hpn]; exact hiW.box, hiW.kept, hiW.big⟩
          clear hiA hib hAW hgv hWW hC hiW hx0 hRs hA hpn
          gi_wp2_with fail
          exact ⟨⟨[], Kept.refl _ _, fun i hi => by simp at hi⟩, rfl, XX.out⟩
        · have hlt : pre.length < fs.length := by have := hiW.le; omega
          have q1 : ((pre.length : Int) == (us.length : Int)) = false := by rw [beq_eq_false_iff_ne]; have := hgl.out; omega
          have q2 : (pre.length : Int) < (us.length : Int) := by have := hgl.out; omega
          have hxe : xb = fs[pre.length] := by
            obtain ⟨t, ht⟩ := hC
            rw [hfr.out] at ht
            have e := congrArg (fun l => l[pre.length]?) ht
            simp only [List.map_append, List.map_cons, List.map_nil, List.append_assoc] at e
            rw [List.getElem?_append_right (by simp), List.getElem?_append_left hlt] at e
            simp at e
            rw [List.getElem?_eq_getElem hlt] at e
            exact Option.some.inj e
          obtain ⟨eb, ec, ey, ee, -, ef, eo, -⟩ := hJW.out.got.at pre.length hlt
          obtain ⟨rfl, -, rfl⟩ : ga = some ⟨eb, 0, none⟩ ∧ us.length = fs.length ∧ gc = ec := by simpa using ee
          obtain ⟨za, zc, rfl⟩ := own_slice eo
          obtain ⟨k, hk⟩ : ∃ k, k = pre.length := ⟨_, rfl⟩
          have hk2 := Lib.hid hk
          obtain ⟨ys, hys⟩ : ∃ ys, ys = fs[pre.length] := ⟨_, rfl⟩
          rw [← hys] at eo hxe ef
          subst hxe
          have SAME := Lib.hid (Lst.same_any W _ _ xb xb _ _ (by have h := (hFS.out xb (by rw [hys]; exact List.getElem_mem hlt)).nL; omega) (Lib.hid (Seg.of_own hx0)) (Lib.hid (Seg.of_own eo)))
          rw [decide_eq_true (rfl : xb = xb)] at SAME
          clear hiA hib hAW hgv hWW hC hiW hx0 hRs hA hpn hys ee eo hk
          gi_wp2_with fail
          refine ⟨trivial, (CallsIn.inRound l (callsIn_wide.2 SAME.out)).mono ?_⟩
          rintro e W2 ⟨rfl, k2⟩
          have ST := Lib.hid (HI.out.step hBlt k2 hlt (.slice xa xb.length xc, xb) ((pre.length : Int) + 1) rfl)
          have cB2 : W2.cell? ⟨B, 0, none⟩ = some (.int .i64 pre.length) := by rw [cell_of_row W2 B 0 _ _ (0, 0) ((k2.block B (block_lt HI.out.box) (by simp)).trans HI.out.box)]; rfl
          have fB2 := frozen_blk ((k2.block B (block_lt HI.out.box) (by simp)).trans HI.out.box)
          have hBK : Hid (∀ i ∈ [B], (i ∉ Rs ∧ i ∉ va.ownBlock.toList) ∧ i ≠ w8.heap.size ∧ i ≠ w8.heap.size + 1) := fun i hi => by
            simp at hi
            subst hi
            exact ⟨⟨fun hm => by have := (HI.out.rs _ hm).1; omega, fun hm => (hK0.out _ hm).2 rfl⟩, by omega, by omega⟩
          clear k2 cB fB cD ef
          gi_wp2_with fail
          exact ⟨⟨[B], ST.out.1, hBK.out⟩, ST.out.2⟩
      case isx =>
        intro Rs xs W hi hs
        have e : xs.length = fs.length := by
          have h1 := congrArg List.length (hs : xs.map (·.2) = _)
          rw [hfr.out, List.length_map, List.length_append] at h1
          have := hi.le
          omega
        exact ⟨by rw [← e]; exact hi.box, hi.kept, hi.big⟩
      case rest =>
        intro W hx hd
        have hJW := Lib.hid (J6.out.kept' ((hk8.out.mono (fun i hi => by simp at hi)).trans hx.kept (fun i hi => Or.inl hi)) (fun i hi => by simp at hi; rw [hi, HB.out]; exact Nat.le_refl _))
        have hct : Hid (Ct W p [p] ⟨L, [], 0, 0, false⟩) := h8.out.kept hx.kept (fun k hk hm => by have := hpB.out; simp at hk hm; omega)
        have I0 : Hid (BkI w R D w8.heap.size p (.slice ba b.length bc) b (.slice ga us.length gc) us fs T ⟨L, [], 0, 0, false⟩ [p] W) := ⟨hct.out, hJW.out, fun k hk hm => by have := hpT.out k hk; simp at hm; omega, fun k hk => by have := hpB.out; simp at hk; omega, hd⟩
        have cB : W.cell? ⟨B, 0, none⟩ = some (.int .i64 fs.length) := by rw [cell_of_row W B 0 _ _ (0, 0) hx.box]; rfl
        have cD : W.cell? ⟨D, 0, none⟩ = some (.slice ga us.length gc) := by rw [cell_of_row W D 0 _ _ (0, 0) hJW.out.box]; rfl
        have q1 : ((fs.length : Int) != (us.length : Int)) = false := by rw [bne_eq_false_iff_eq]; have := hgl.out; omega
        obtain ⟨Z, hZ⟩ : ∃ Z, Z = w8.heap.size := ⟨_, rfl⟩
        have hZw : Hid (w.heap.size ≤ Z) := by show _ ≤ _; rw [hZ]; have := hpB.out; have := zR; have := hRD; omega
        rw [← hZ] at I0 ⊢
        have hOL : Hid (off fs fs.length = b.length) := by show _ = _; rw [off_all, hbeq.out]
        clear hx hd hct hJW hca8 h8 J6 J8 hB8 hpT hq hZ
        gi_wp2_with fail
        gi_loopw [19, 20] (fun av iv wr => ∃ (i at' : Nat) (S : List Nat), i ≤ fs.length ∧ iv = .int .i64 i ∧ av = .int .i64 at' ∧ Hid (at' = off fs i) ∧ Hid (BkI w R D Z p (.slice ba b.length bc) b (.slice ga us.length gc) us fs T ⟨L, [], at', i, false⟩ S wr)) (fun _ iv _ => fs.length - (intOf iv).toNat)
        case atStart => exact ⟨0, 0, [p], by omega, rfl, rfl, rfl, I0⟩
        case round =>
          clear I0
          obtain ⟨i, at0, S, hi', rfl, rfl, hat, I⟩ := hrel
          have cD2 : wr.cell? ⟨D, 0, none⟩ = some (.slice ga us.length gc) := by rw [cell_of_row wr D 0 _ _ (0, 0) I.out.j.box]; rfl
          by_cases hlt : i < fs.length
          · have j3 : (i : Int) < (us.length : Int) := by have := hgl.out; omega
            obtain ⟨f, hf⟩ : ∃ f, f = fs[i] := ⟨_, rfl⟩
            have hF : Hid (Frm L f) := hFS.out f (by rw [hf]; exact List.getElem_mem hlt)
            have f7 := hF.out.n7
            have fL := hF.out.nL
            have hle : at0 + f.length ≤ b.length := by have h := off_le fs i hlt; rw [← hf, ← hat.out, ← hbeq.out] at h; exact h
            have hne : 0 < b.length := by omega
            obtain ⟨ad, rfl⟩ := src_some I.out.j.src hne
            have hsucc : Hid (off fs (i + 1) = at0 + f.length) := by show _ = _; rw [off_succ hlt, ← hf, ← hat.out]
            have hpiece : Hid (∀ j n, j + n ≤ f.length → (b.drop (at0 + j)).take n = (f.drop j).take n) := fun j n hn => by
              have h := off_piece hlt j n (by rw [← hf]; exact hn)
              rw [← hf, ← hat.out, ← hbeq.out] at h
              exact h
            have HF := Lib.hid hf
            clear hf
            gi_wp2_with fail
            gi_loopw [19] (fun av wx => ∃ (j at' : Nat) (S : List Nat), (j = 0 ∨ j = 4 ∨ j = f.length) ∧ at' = at0 + j ∧ av = .int .i64 at' ∧ Hid (BkI w R D Z p (.slice (some ad) b.length bc) b (.slice ga us.length gc) us fs T ⟨L, f.take j, at', i, false⟩ S wx)) (fun av _ => at0 + f.length - (intOf av).toNat)
            case atStart => exact ⟨0, at0, S, Or.inl rfl, rfl, rfl, by rw [List.take_zero]; exact I⟩
            case round =>
              clear I cD2
              obtain ⟨j, at', S, hj, hj2, rfl, I⟩ := hrel
              have hst : Hid (CS.Ok ⟨L, f.take j, at', i, false⟩) := okP hL7 hL6 hF.out (by omega)
              have hcap := hbc.out
              by_cases hjf : j = f.length
              · have e0 : f.take j = f := by rw [hjf, List.take_length]
                rw [e0] at I hst
                obtain ⟨n1, n2, n3⟩ := CS.next_frame (st := ⟨L, f, at', i, false⟩) (L := L) rfl rfl hF.out
                have WH := whole_any wr p S _ hst (Lib.hid I.out.ct)
                rw [n1] at WH
                have WHh := Lib.hid WH
                have N1 := Lib.hid n1
                have N2 := Lib.hid n2
                have N3 := Lib.hid n3
                have HSZ := Lib.hid hj2
                have hjl : at' ≤ at0 + f.length := by omega
                have hjg : at0 + f.length ≤ at' := by omega
                clear WH n1 n2 n3 e0 hj2 hjf hj
                gi_wp2_with fail
                refine ⟨trivial, (callsIn_wide.2 WHh.out).mono ?_⟩
                rintro e w5 ⟨rfl, k5⟩
                have I5 := Lib.hid (I.out.pure k5)
                have c5 : Hid (Ct w5 p S ⟨L, f, at', i, false⟩) := I5.out.ct
                clear I k5 WHh
                gi_wp2_with fail
                refine ⟨trivial, (callsIn_wide.2 (next_any w5 p S _ hst (by show i ≤ _; omega) c5)).mono ?_⟩
                rintro e w6 ⟨v6, S6, rfl, o6, c6, k6, s6⟩
                rw [N2.out] at o6
                rw [N3.out] at c6
                rw [N1.out]
                have I6 := Lib.hid (I5.out.turn c6.out k6.out (fun k hk => Or.inl (s6.out k hk)))
                obtain ⟨xa, xc, rfl⟩ := own_slice o6.out
                have cD6 : w6.cell? ⟨D, 0, none⟩ = some (.slice ga us.length gc) := by rw [cell_of_row w6 D 0 _ _ (0, 0) I6.out.j.box]; rfl
                obtain ⟨eb, ec, ey, ee, -, ef, eo, -⟩ := I6.out.j.got.at i hlt
                obtain ⟨hga, -, hgc⟩ : ga = some ⟨eb, 0, none⟩ ∧ us.length = fs.length ∧ gc = ec := by simpa using ee
                obtain ⟨za, zc, rfl⟩ := own_slice eo
                rw [← HF.out] at eo ef
                rw [hga] at cD6
                have SAME := Lib.hid (Lst.same_any w6 _ _ f f _ _ (by omega) (Lib.hid (Seg.of_own o6.out)) (Lib.hid (Seg.of_own eo)))
                rw [decide_eq_true (rfl : f = f)] at SAME
                clear ee eo hgc hga N1 N2 N3 I5 c5 o6 c6 k6 s6
                gi_wp2_with fail
                refine ⟨trivial, (callsIn_wide.2 SAME.out).mono ?_⟩
                rintro e w7 ⟨rfl, k7⟩
                have I7 := Lib.hid (I6.out.pure k7)
                have ok7 : Hid (CS.Ok ⟨L, [], at', i + 1, false⟩) := ⟨hL7, hL6, fun _ h => by simp at h, fun h => by cases h⟩
                have c7 : Hid (Ct w7 p S6 ⟨L, [], at', i + 1, false⟩) := I7.out.ct
                have hw4 : (((⟨L, [], at', i + 1, false⟩ : CS).want : Nat) : Int) = 4 := by unfold CS.want; simp
                have WANT := want_any w7 p S6 _ ok7 c7
                rw [hw4] at WANT
                have WANTh := Lib.hid WANT
                clear I6 SAME k7 cD6 ef hw4 WANT
                gi_wp2_with fail
                refine ⟨trivial, (callsIn_wide.2 WANTh.out).mono ?_⟩
                rintro e w9 ⟨rfl, k9⟩
                have I9 := Lib.hid (I7.out.pure k9)
                clear I7 k9 WANTh c7
                gi_wp2_with fail
                go_roundw
                case rel => exact ⟨i + 1, at', S6, by omega, by go_num, rfl, by show _ = _; rw [hsucc.out]; omega, I9⟩
                case measure => simp [intOf]; omega
              · have hj' : j = 0 ∨ j = 4 := by omega
                obtain ⟨e1, e2, e3, e4, e5⟩ := CS.want_of (st := ⟨L, f.take j, at', i, false⟩) hj' rfl rfl hF.out
                obtain ⟨d1, d2⟩ := CS.feed_want (st := ⟨L, f.take j, at', i, false⟩) hj' rfl rfl hF.out
                obtain ⟨nn, hnn⟩ : ∃ nn, nn = wants f j := ⟨_, rfl⟩
                have hw0 : j = 0 → nn = 4 := fun h => by rw [hnn, h]; rfl
                rw [← hnn] at e1 e3 e4 e5 d1 d2
                have hpc : (b.drop at').take nn = (f.drop j).take nn := by rw [hj2]; exact hpiece.out j nn e4
                have hln : ((b.drop at').take nn).length = nn := by rw [List.length_take, List.length_drop]; omega
                have WH := whole_any wr p S _ hst (Lib.hid I.out.ct)
                rw [e2] at WH
                have WHh := Lib.hid WH
                have hT : Hid (∀ k ∈ (Value.slice (some ad) b.length bc).ownBlock.toList, k ∉ S) := fun k hk => I.out.sep k (List.mem_append_left _ hk)
                have x1 : ¬ (nn : Int) < 1 := by omega
                have x2 : (nn : Int) ≤ (b.length : Int) - (at' : Int) := by omega
                have x3 : at' ≤ bc := by omega
                have x4 : at' + nn ≤ bc := by omega
                have x5 : at' + nn ≤ b.length := by omega
                have hjn : Hid ((j + nn = 0 ∨ j + nn = 4 ∨ j + nn = f.length) ∧ at' + nn = at0 + (j + nn)) := ⟨(hj'.elim (fun h => by have := hw0 h; omega) (fun h => by have := e5 h; omega)), by omega⟩
                have E1 := Lib.hid e1
                have D1 := Lib.hid d1
                have D2 := Lib.hid d2
                have HPC := Lib.hid hpc
                have HLN := Lib.hid hln
                have HJ2 := Lib.hid hj2
                have hjl : at' ≤ at0 + f.length := by omega
                have hjm : at' + nn ≤ at0 + f.length := by omega
                clear WH e1 e2 e3 e5 d1 d2 hnn hw0 hpc hln hj2 hj hj' hjf
                gi_wp2_with fail
                refine ⟨trivial, (callsIn_wide.2 WHh.out).mono ?_⟩
                rintro e w5 ⟨rfl, k5⟩
                have I5 := Lib.hid (I.out.pure k5)
                have c5 : Hid (Ct w5 p S ⟨L, f.take j, at', i, false⟩) := I5.out.ct
                have WANT := want_any w5 p S _ hst c5
                rw [E1.out] at WANT
                have WANTh := Lib.hid WANT
                clear I k5 WHh WANT
                gi_wp2_with fail
                refine ⟨trivial, (callsIn_wide.2 WANTh.out).mono ?_⟩
                rintro e w6 ⟨rfl, k6⟩
                have I6 := Lib.hid (I5.out.pure k6)
                have c6 : Hid (Ct w6 p S ⟨L, f.take j, at', i, false⟩) := I6.out.ct
                have hsp : Hid (Src w6 (.slice (some (ad.add at')) ((b.drop at').take nn).length (bc - at')) ((b.drop at').take nn) (Value.slice (some ad) b.length bc).ownBlock.toList) := by rw [HLN.out]; exact src_piece I6.out.j.src x5
                have FEED := feed_any w6 p S _ ⟨L, f.take j, at', i, false⟩ (some (ad.add at')) (bc - at') ((b.drop at').take nn) (by rw [HLN.out]; omega) (by rw [HLN.out]; omega) (by omega) (by show at' ≤ _; omega) hst hsp hT c6
                rw [HLN.out, HPC.out, D1.out, D2.out] at FEED
                have FEEDh := Lib.hid FEED
                clear FEED hsp I5 c5 k6 WANTh D1 D2 HPC HLN
                gi_wp2_with fail
                refine ⟨trivial, (callsIn_wide.2 FEEDh.out).mono ?_⟩
                rintro e w7 ⟨rfl, S7, c7, k7, s7⟩
                have I7 := Lib.hid (I6.out.turn c7.out k7.out s7.out)
                clear FEEDh I6 c6 c7 k7 s7 hT
                gi_wp2_with fail
                go_roundw
                case rel => exact ⟨j + nn, at' + nn, S7, hjn.out.1, hjn.out.2, by go_num, I7⟩
                case measure => simp [intOf]; omega
          · have hie2 : i = fs.length := by omega
            obtain rfl : at0 = b.length := by rw [hat.out, hie2, hOL.out]
            have j3 : ¬ (i : Int) < (us.length : Int) := by have := hgl.out; omega
            have CT : Hid (Ct wr.drew p S ⟨L, [], b.length, i, false⟩) := I.out.ct.kept ((Kept.refl [] _).drew) (fun _ _ hm => by simp at hm)
            have TAKEN := taken_any wr.drew p S _ CT
            have et : (((⟨L, [], b.length, i, false⟩ : CS).taken : Nat) : Int) = (us.length : Int) := by show (i : Int) = _; have := hgl.out; omega
            rw [et] at TAKEN
            have TAKENh := Lib.hid TAKEN
            have cR := cell_of_row wr R 0 _ _ (0, 0) I.out.j.res
            have cR2 : wr.cell? ⟨R, 0, none⟩ = some (.bool false) := by rw [cR]; rfl
            have fR := frozen_blk I.out.j.res
            have FIN : Hid (Kept [] w (wr.setCell ⟨R, 0, none⟩ (.bool true)).drew ∧ (wr.setCell ⟨R, 0, none⟩ (.bool true)).drew.heap[Z]? = some (.deferred (some [])) ∧ (∀ o, ((wr.setCell ⟨R, 0, none⟩ (.bool true)).drew.putObj Z o).cell? ⟨R, 0, none⟩ = some (.bool true)) ∧ w.heap.size ≤ Z) := by
              have hRZ : R ≠ Z := fun e => by
                have a := I.out.j.res
                rw [e, I.out.dz] at a
                cases a
              have hs := heap_set (i := 0) (.bool true) (show wr.heap[R]? = some (.cells #[.bool false] 4 (0, 0)) from I.out.j.res)
              have kR : Kept [R] wr (wr.setCell ⟨R, 0, none⟩ (.bool true)).drew := ((Kept.refl [R] wr).setCell (p := ⟨R, 0, none⟩) (Or.inl (by simp)) _).drew
              refine ⟨I.out.j.kept.trans kR (fun i hi => Or.inr (by simp at hi; rw [hi]; exact zR)), (kR.block Z (block_lt I.out.dz) (by simp; exact fun h => hRZ h.symm)).trans I.out.dz, fun o => ?_, ?_⟩
              · have h3 : ((wr.setCell ⟨R, 0, none⟩ (.bool true)).drew.putObj Z o).heap[R]? = some (.cells (#[.bool false].setIfInBounds 0 (.bool true)) 4 (0, 0)) := by
                  rw [World.putObj_heap_other (fun h => hRZ h)]
                  exact hs
                rw [cell_of_row _ R 0 _ _ (0, 0) h3]
                rfl
              · have h1 := hpB.out
                have h2 := hZw.out
                omega
            have zz := I.out.j.kept.size
            clear cR et TAKEN CT I hat hOL hie2
            gi_wp2_with fail
            refine wpIn_then ?_
            gi_region_with ((refine ⟨trivial, (callsIn_wide.2 TAKENh.out).mono ?_⟩); rintro e w' ⟨rfl, rfl⟩)
            all_goals
              simp only [Exit.then]
              gi_wp2_with fail
              refine ⟨by simp, .inl ⟨_, _, rfl, run_takeDeferred FIN.out.2.1, ?_⟩⟩
              refine ⟨.bool true, ?_, rfl, FIN.out.1.putObj _ (Or.inr FIN.out.2.2.2)⟩
              simp [results, Try.f5, go_sem, FIN.out.2.2.1]
end Law
end Go.Proofs.Ytamienlndingnaa
