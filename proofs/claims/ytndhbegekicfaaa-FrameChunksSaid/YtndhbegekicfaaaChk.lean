/- FrameChunks walked: chunks do not matter. -/
import Derived.Test.YtndhbegekicfaaaChr
import Derived.RangeFuncLeaves
import Derived.Outline
namespace Go.Proofs.Ytndhbegekicfaaa
set_option linter.unusedVariables false
open Go.RowKit Go.Shelf
attribute [local go_sem] Oper.semAt_some
namespace Law
open Cut

set_option maxHeartbeats 16000000 in
set_option maxRecDepth 100000 in
theorem chunks_walk (w : World) (ms : Nat) (a1 a2 : Option Addr) (c1 c2 b2 o2 : Nat) (b : List UInt8) (zs : List Int) (T1 T2 : List Nat) (hms : ms ≤ 4294967295) (hb1 : b.length ≤ 140737488355328) (hz1 : zs.length ≤ 140737488355328) (hc1 : b.length ≤ c1) (hc1' : c1 ≤ 9223372036854775807)
    (h1 : Hid (Src w (.slice a1 b.length c1) b T1)) (hT1 : Hid (∀ k ∈ T1, k < w.heap.size)) (h2 : Hid (Nms w a2 c2 b2 o2 zs T2)) :
    Calls Try.prog 6 #[.slice a1 b.length c1, .int .u32 ms, .slice a2 zs.length c2] w fun e w' => e = .returned (.bool true) ∧ Kept [] w w' := by
  obtain ⟨L, hL⟩ : ∃ L, L = 7 + ms % 65530 := ⟨_, rfl⟩
  have hLM : (7 : Int) + (ms : Int) % 65530 = (L : Int) := by omega
  have hL7 : 7 ≤ L := by omega
  have hL6 : L ≤ 65536 := by omega
  clear hL
  refine (callsIn_wide (n := 4)).1 ?_
  refine callsIn_of_wp_marks Try.func6 rfl trivial ?_ rfl
  simp only [Try.ntmps6, List.size_toArray, List.length_cons, List.length_nil, Nat.reduceAdd, Nat.reduceSub, Array.replicate_succ, Array.replicate_zero, List.push_toArray, List.append_toArray, List.nil_append, List.cons_append]
  by_cases r1 : 33554432 < b.length
  · have j1 : (33554432 : Int) < (b.length : Int) := by omega
    gi_wp2_with fail
    refine ⟨.bool true, ?_, rfl, Kept.refl _ _⟩
    simp [results, Try.f6, go_sem]
  have j1 : ¬ (33554432 : Int) < (b.length : Int) := by omega
  by_cases r2 : 33554432 < zs.length
  · have j2 : (33554432 : Int) < (zs.length : Int) := by omega
    gi_wp2_with fail
    refine ⟨.bool true, ?_, rfl, Kept.refl _ _⟩
    simp [results, Try.f6, go_sem]
  have j2 : ¬ (33554432 : Int) < (zs.length : Int) := by omega
  clear hb1 hz1
  gi_wp2_with fail
  refine ⟨trivial, (callsIn_wide.2 (known_any w)).mono ?_⟩
  rintro e w1 ⟨rfl, k1⟩
  have K1 := Lib.hid k1
  clear k1
  gi_wp2_with fail
  refine ⟨trivial, (callsIn_wide.2 (new_good w1 _ L rfl hL7 hL6)).mono ?_⟩
  rintro e w2 ⟨rfl, h3, k2⟩
  obtain ⟨p, hp⟩ : ∃ p, p = w1.heap.size := ⟨_, rfl⟩
  have z1 := K1.out.size
  rw [← hp] at h3 ⊢
  have hpw : w.heap.size ≤ p := by omega
  have K2 : Hid (Kept [] w w2) := K1.out.trans k2 (fun i hi => by simp at hi)
  have hb2 : Hid (Src w2 (.slice a1 b.length c1) b T1) := h1.out.kept K2.out (fun _ _ hm => by simp at hm)
  clear hp k2 z1
  gi_wp2_with fail
  refine ⟨trivial, (callsIn_wide.2 (all_good w2 _ b T1 L L rfl hL7 hL6 (by omega) hb2)).mono ?_⟩
  rintro e w3 ⟨B1, B2, pf, va, rfl, hca, k3, far3⟩
  have hpz : p < w2.heap.size := h3.out.lt p (by simp)
  have hCB : Hid (∀ k ∈ B1 :: B2 :: pf :: va.ownBlock.toList, p < k ∧ k < w3.heap.size) := fun k hk => by
    have a := far3.out k hk
    refine ⟨by omega, ?_⟩
    simp only [List.mem_cons, Option.mem_toList] at hk
    rcases hk with rfl | rfl | rfl | hk
    · exact block_lt hca.out.b1
    · exact block_lt hca.out.b2
    · exact block_lt (hca.out.pt rfl)
    · exact (hca.out.own.lt k hk).2
  have hct3 : Hid (Ct w3 p [p] ⟨L, [], 0, 0, false⟩) := h3.out.kept k3 (fun _ _ hm => by simp at hm)
  have K3 : Hid (Kept [] w w3) := K2.out.trans k3 (fun i hi => by simp at hi)
  have I0 : Hid (ChI w w3 p L b B1 B2 pf va 0 [] ⟨L, [], 0, 0, false⟩ [p] (.slice none 0 0) [] [] w3) :=
    ⟨⟨rfl, rfl, rfl, Nat.zero_le _, by simp, fun f hf => by simp at hf, Or.inl ⟨rfl, Or.inl (by simp)⟩⟩, hct3.out, FrL.nil w3, fun k hk => by simp at hk, fun k hk => Or.inl (by simpa using hk), fun k hk => by simp at hk, hca.out, K3.out, Nat.le_refl _⟩
  clear h3 k3 hb2 far3 hpz
  have hq : ∀ w', (binOp BinOp.eql 51 (.func (.func 47) #[] #[.pointer (some ⟨B1, 0, none⟩), .pointer (some ⟨B2, 0, none⟩)]) .nilFunc).run Try.prog w' = .ok (.bool false) w' := fun _ => by kernel_rfl
  gi_wp2_with fail
  rename_i K hK
  have KM : ∀ (gv av : Value) (at' : Nat) (u6 u12 u13 u14 u15 u16 u17 u55 u56 u57 u58 u59 u60 u61 u62 u63 u64 u65 u66 u67 u68 u69 u70 u71 u72 u73 u74 u75 u76 u77 u78 u79 u80 u81 u82 u83 u84 u85 u86 u87 u88 u89 u90 u91 u92 u93 u94 u95 u96 u97 u98 u99 u100 u101 u102 u103 u104 u105 u106 u107 u108 u109 u110 u111 u112 u113 u114 u115 u116 u117 u118 u119 u120 u121 : Value) (fr : List (List UInt8)) (st : CS) (S : List Nat) (vs : List Value) (T : List Nat) (wx : World), Hid (ChI w w3 p L b B1 B2 pf va at' fr st S gv vs T wx) → (at' = b.length ∨ st.dead = true) → av = .int .i64 at' → K { tmps := #[.slice a1 b.length c1, .int .u32 L, .slice a2 zs.length c2, undef, undef, undef, u6, .bool true, .pointer (some ⟨p, 0, none⟩), (.func (.func 47) #[] #[.pointer (some ⟨B1, 0, none⟩), .pointer (some ⟨B2, 0, none⟩)]), gv, av, u12, u13, u14, u15, u16, u17, undef, undef, undef, undef, undef, undef, undef, undef, undef, undef, .slice a1 b.length c1, .int .i64 b.length, .bool false, .bool false, .slice a2 zs.length c2, .int .i64 zs.length, .bool false, .bool false, .bool true, .int .u32 ms, .int .u32 ((ms : Int) % 65530), .int .u32 L, .int .u32 L, .pointer (some ⟨p, 0, none⟩), .slice a1 b.length c1, .int .u32 L, (.func (.func 47) #[] #[.pointer (some ⟨B1, 0, none⟩), .pointer (some ⟨B2, 0, none⟩)]), .bool true, .bool false, .bool false, .pointer (some ⟨p, 0, none⟩), .bool false, .bool false, .bool false, (.func (.func 47) #[] #[.pointer (some ⟨B1, 0, none⟩), .pointer (some ⟨B2, 0, none⟩)]), .bool false, .bool false, u55, u56, u57, u58, u59, u60, u61, u62, u63, u64, u65, u66, u67, u68, u69, u70, u71, u72, u73, u74, u75, u76, u77, u78, u79, u80, u81, u82, u83, u84, u85, u86, u87, u88, u89, u90, u91, u92, u93, u94, u95, u96, u97, u98, u99, u100, u101, u102, u103, u104, u105, u106, u107, u108, u109, u110, u111, u112, u113, u114, u115, u116, u117, u118, u119, u120, u121, undef, undef, undef, undef, undef, undef, undef, undef, undef, undef, undef, undef, undef, undef, undef, undef, undef, undef, undef, undef, undef, undef, undef, undef, undef, undef, undef, undef, undef, undef, undef, undef, undef, undef, undef, undef, undef, undef, undef, undef, undef, undef, undef, undef, undef, undef, undef, undef, undef, undef, undef, undef, undef, undef, undef, undef, undef, undef, undef, undef, undef, undef, undef, undef, undef, undef, undef, undef, undef, undef, undef, undef, undef, undef, undef, undef, undef, undef, undef, undef, undef, undef, undef, undef, undef, undef, undef, undef, undef, undef, undef, undef, undef, undef, undef, undef, undef, undef, undef, undef, undef, undef, undef, undef, undef, undef], defers := [] } wx := by
    intro gv av at' u6 u12 u13 u14 u15 u16 u17 u55 u56 u57 u58 u59 u60 u61 u62 u63 u64 u65 u66 u67 u68 u69 u70 u71 u72 u73 u74 u75 u76 u77 u78 u79 u80 u81 u82 u83 u84 u85 u86 u87 u88 u89 u90 u91 u92 u93 u94 u95 u96 u97 u98 u99 u100 u101 u102 u103 u104 u105 u106 u107 u108 u109 u110 u111 u112 u113 u114 u115 u116 u117 u118 u119 u120 u121 fr st S vs T wx hI hend hav
    subst hav
    refine hK _ _ ?_
    have okx : Hid st.Ok := by
      have hh := hI.out.str.hand
      have hl := hI.out.str.lim
      rw [← hl] at hh
      exact hh.ok (by rw [hl]; exact hL7) (by rw [hl]; exact hL6)
    have htk : st.taken ≤ 1152921504606846976 := by
      have a := hI.out.str.taken
      have b2 := hI.out.str.count.1
      have c := hI.out.str.le
      omega
    obtain ⟨ga, gc, rfl⟩ := own_slice hI.out.got.own
    have HEND := Lib.hid hend
    clear hend
    have cx : Hid (Ct wx p S st) := hI.out.ct
    gi_wp2_with fail
    refine ⟨trivial, (callsIn_wide.2 (next_any wx p S st okx htk cx)).mono ?_⟩
    rintro e w6 ⟨v6, S6, rfl, o6, c6, k6, s6⟩
    have hle5 := hI.out.str.le
    have hv5 : Hid (vs.length = fr.length) := hI.out.got.len
    by_cases hw : st.whole = true
    · have hgot : st.got = st.hand := by unfold CS.got; rw [if_pos hw]
      rw [hgot] at o6
      rw [hw]
      have HW := Lib.hid hw
      have hcnt : 7 * (fr.length + 1) ≤ at' := by
        have := (hI.out.str.next hw).1.count.1
        simpa using this
      have hgb : Hid (w6.ownsRow 0 23 1 (.slice ga vs.length gc) vs.length vs) := ownsRow_kept hI.out.got.own k6.out (fun i hi hm => hI.out.sep i (hI.out.got.blk i hi) hm)
      obtain ⟨xa, xc, rfl⟩ := own_slice o6.out
      obtain ⟨i1, hi1, hz10, hz11, hz12⟩ := info_parts info_sl
      have hvl2 : vs.length + 1 ≤ 33554433 := by have := hv5.out; omega
      clear hw hgot cx
      gi_wp2_with (gi_at_builtin; refine wpListIn_append_src (w6.alloc (.cells #[.slice xa st.hand.length xc] 23)) rfl (.tmp 128) (.tmp 130) 26 rfl 0 23 i1 (.slice none 0 0) 1 24 Try.underlying26 hi1 hz10 hz11 hz12 rfl (by decide) (.slice ga vs.length gc) vs.length vs rfl (hgb.out.alloc _) (.slice (some ⟨w6.heap.size, 0, none⟩) 1 1) 1 [.slice xa st.hand.length xc] rfl (Or.inr ⟨_, _, rfl, World.news_of_block (cs := #[.slice xa st.hand.length xc]) (by exact heap_alloc_new w6 _)⟩) rfl (by intro u hu; simp at hu; subst hu; rfl) (by unfold maxLen; omega) (by omega) (Nat.zero_le _) ?_; intro v7 w7 hown7 hgrow7 hat7; have I7 := Lib.hid (hI.out.nexted hpw hCB.out K3.out.size HW.out c6.out k6.out s6.out o6.out ((Kept.refl [] w6).alloc _) rfl hown7 hgrow7 hat7); obtain ⟨ya, yc, rfl⟩ := own_slice hown7; clear hown7 hgrow7 hat7)
      obtain ⟨fr2, hfr2⟩ : ∃ l, l = fr ++ [st.hand] := ⟨_, rfl⟩
      obtain ⟨st2, hst2⟩ : ∃ s, s = st.next := ⟨_, rfl⟩
      have hnd : Hid (st2.whole = false ∧ (at' = b.length ∨ st2.dead = true)) := by
        have hh := hI.out.str.hand
        rw [← hI.out.str.lim] at hh
        have hd := (hh.whole HW.out).1
        have e : st.next = { st with hand := [], taken := st.taken + 1 } := by unfold CS.next; rw [if_pos HW.out]
        rw [hst2, e]
        refine ⟨by unfold CS.whole CS.want; rw [if_neg (by simp [hd])]; simp, Or.inl ?_⟩
        rcases HEND.out with h | h
        · exact h
        · rw [hd] at h; cases h
      rw [← hfr2, ← hst2] at I7
      clear hfr2 hst2
      obtain ⟨w8, hw8⟩ : ∃ W, W = w7.alloc (.cells #[.slice none 0 0] 26) := ⟨_, rfl⟩
      have hD8 : Hid (w8.heap[w7.heap.size]? = some (.cells #[.slice none 0 0] 26 (0, 0))) := by rw [hw8]; exact heap_alloc_new w7 _
      have hz8 : w8.heap.size = w7.heap.size + 1 := by rw [hw8]; simp
      have hk8 : Hid (Kept [] w7 w8) := by rw [hw8]; exact (Kept.refl [] _).alloc _
      rw [← hw8]
      clear hw8
      obtain ⟨D, hD⟩ : ∃ D, D = w7.heap.size := ⟨_, rfl⟩
      rw [← hD] at hD8 hz8 ⊢
      have hDlt : D < w8.heap.size := by omega
      have HD := Lib.hid hD
      clear hD hz8
      have I8 := Lib.hid (I7.out.pure hk8.out)
      have hca8 : Hid (Caught w8 B1 B2 L true b pf va) := I8.out.cau
      have hK0 : Hid (∀ i ∈ va.ownBlock.toList, i < w8.heap.size ∧ i ≠ D) := fun i hi => by
        have a := hCB.out i (by simp [hi])
        have c := I7.out.big
        have d := HD.out
        omega
      have hfl0 : (frames L b).length ≤ 33554432 := by
        have e := I7.out.str.done hnd.out.1 hnd.out.2
        have c := I7.out.str.count.1
        have d := I7.out.str.le
        rw [e]
        omega
      have hfl := Lib.hid hfl0
      clear hfl0
      refine wpIn_rangeFunc_stops1 (sl := 21) rfl (by decide) rfl trivial (enters_of Try.func47 (by kernel_rfl) rfl) (all1_iter w8 B1 B2 L pf b va hL7 hL6 (by omega) hca8) (Kept.refl [] w8) (fun i hi => (hK0.out i hi).1) (ChR w8 D) (fun _ _ _ => False)
        (fun Rs Rs' s A B h k g => h.turn hDlt k g) (fun _ _ _ _ h _ => h) (fun Rs W' h1 h2 h3 => ChR.start hD8.out h1 h2 h3) ?assign ?body ?done ?stop
      case stop => exact fun _ _ _ h _ _ => h.elim
      case assign =>
        intro l x W K hK
        gi_wp2_with fail
        exact hK
      case body =>
        rintro l Rs pre ⟨xv, xb⟩ A Wb W hRs hA hiA hib hAW hgv hWW hC
        have hiW := hib.turn hDlt (hWW.mono (T := w8.heap.size :: (w8.heap.size + 1) :: Rs) (fun i hi => Or.inl (by simp at hi; simp [hi]))) (fun i hi => Or.inl hi)
        obtain ⟨gw, us, U, hF, hbx, hU⟩ := hiW.got
        obtain ⟨ha, hc, rfl⟩ := own_slice hF.own
        have hrs := hiW.rs
        have hkw := hiW.kept
        have hbw := hiW.big
        have hx0 : Own W 0 xv xb := World.ownsRow.mono (ownsRow_kept hgv.1 hWW (fun i hi hm => by have := (hgv.1.lt i hi).1; simp at hm; omega)) (Nat.zero_le _)
        have hx2 : ∀ k, xv.ownBlock = some k → w8.heap.size + 2 ≤ k ∧ k ∉ Rs := fun k hk => ⟨by have := (hgv.1.lt k hk).1; omega, hgv.2 k hk⟩
        have hul : us.length + 1 ≤ 33554433 := by
          have c := hC.length_le
          have d := hF.len
          have e := hfl.out
          simp at c d
          omega
        obtain ⟨xa, xc, rfl⟩ := own_slice hx0
        have hcell : W.cell? ⟨D, 0, none⟩ = some (.slice ha us.length hc) := by rw [cell_of_row W D 0 _ _ (0, 0) hbx]; rfl
        have hown0 := hF.own
        obtain ⟨i1, hi1, hz10, hz11, hz12⟩ := info_parts info_sl
        have HF := Lib.hid hF
        have HBX := Lib.hid hbx
        have HU := Lib.hid hU
        have HX := Lib.hid hx0
        have HX2 := Lib.hid hx2
        have HRS := Lib.hid hrs
        have HKW := Lib.hid hkw
        have HOWN := Lib.hid hown0
        clear hiA hib hAW hgv hC hiW hF hbx hU hx0 hx2 hrs hkw hRs hown0
        gi_wp2_with (gi_at_builtin; refine wpListIn_append_src (W.alloc (.cells #[.slice xa xb.length xc] 23)) rfl (.tmp 134) (.tmp 136) 26 rfl 0 23 i1 (.slice none 0 0) 1 24 Try.underlying26 hi1 hz10 hz11 hz12 rfl (by decide) (.slice ha us.length hc) us.length us rfl (HOWN.out.alloc _) (.slice (some ⟨W.heap.size, 0, none⟩) 1 1) 1 [.slice xa xb.length xc] rfl (Or.inr ⟨_, _, rfl, World.news_of_block (cs := #[.slice xa xb.length xc]) (by exact heap_alloc_new W _)⟩) rfl (by intro u hu; simp at hu; subst hu; rfl) (by unfold maxLen; omega) (by omega) (Nat.zero_le _) ?_; intro v9 w9 hown9 hgrow9 hat9; have PU := Lib.hid (ChR.push hDlt HRS.out HKW.out hbw HF.out HBX.out HU.out HX.out HX2.out ((Kept.refl [] W).alloc _) rfl hown9 hgrow9 hat9); have hc9 : w9.cell? ⟨D, 0, none⟩ = some (.slice ha us.length hc) := by { rw [cell_of_row w9 D 0 _ _ (0, 0) PU.out.2.2]; rfl }; have hf9 := frozen_of PU.out.2.2; obtain ⟨ya, yc, rfl⟩ := own_slice hown9; clear hown9 hgrow9 hat9)
        obtain ⟨⟨S, k9, s9⟩, c9, -⟩ := PU.out
        refine ⟨⟨S, k9, fun i hi => ?_⟩, c9⟩
        rcases s9 i hi with q | q
        · subst q
          exact ⟨⟨fun hm => by have := (HRS.out _ hm).1; omega, fun hm => (hK0.out _ hm).2 rfl⟩, by omega, by omega⟩
        · have a := HU.out i q
          exact ⟨⟨a.2, fun hm => by have := (hK0.out _ hm).1; omega⟩, by omega, by omega⟩
      case done =>
        intro Rs xs W hi hs hK
        obtain ⟨gw, us, U, hF, hbx, hU⟩ := hi.got
        have hfr : frames L b = fr2 := I7.out.str.done hnd.out.1 hnd.out.2
        rw [hs, hfr] at hF
        have HF := Lib.hid hF
        have k7W : Kept [D] w7 W := (hk8.out.mono (fun i hi => by simp at hi)).trans hi.kept (fun i hi => Or.inl hi)
        have hn7 : ∀ {X : List Nat}, (∀ k ∈ X, k < w7.heap.size) → ∀ k ∈ X, k ∉ [D] := fun h k hk hm => by have := h k hk; have := HD.out; simp at hm; omega
        have hG := Lib.hid (I7.out.got.kept k7W (hn7 I7.out.got.lt))
        have hCt := Lib.hid (I7.out.ct.kept k7W (hn7 I7.out.ct.lt))
        have hKW : Hid (Kept [] w W) := I7.out.kept.trans k7W (fun i hi => Or.inr (by have a := I7.out.big; have b := HD.out; have c := K3.out.size; simp at hi; omega))
        have HKD := Lib.hid hK
        have hlenN : fr2.length = (vs.length + 1) := by rw [← I7.out.got.len] <;> simp
        have HLEN := Lib.hid hlenN
        obtain ⟨q1, q2, q3⟩ := I7.out.str.count
        have hle := I7.out.str.le
        have hfed := I7.out.str.fed
        have htak : (st2.taken : Int) = ((vs.length : Int) + 1) := by have := I7.out.str.taken; omega
        have HTAK := Lib.hid htak
        have HQ2 := Lib.hid q2
        have HQ3 := Lib.hid q3
        have hn0 : fr2.length ≤ 33554432 := by omega
        have hfl2 : fr2.flatten.length ≤ 33554432 := by omega
        have FLT := Lib.hid (flat_take fr2)
        have hfm : Hid (∀ i (h : i < fr2.length), fr2[i].length ≤ 65536) := fun i h => by
          have a := (I7.out.str.frm _ (List.getElem_mem h)).nL
          omega
        have okz : Hid st2.Ok := by
          have hh := I7.out.str.hand
          rw [← I7.out.str.lim] at hh
          exact hh.ok (by rw [I7.out.str.lim]; exact hL7) (by rw [I7.out.str.lim]; exact hL6)
        have hded : Hid (st2.dead = true → st2.hand.length = 4) := fun h => by
          rcases I7.out.str.hand with ⟨a, -⟩ | ⟨-, a, -⟩
          · rw [h] at a; cases a
          · exact a
        have HFED := Lib.hid hfed
        have hd8 : w8.heap.size < W.heap.size := block_lt hK
        obtain ⟨wa, wc, hgw⟩ := HF.out.val
        subst hgw
        have hcw : W.cell? ⟨D, 0, none⟩ = some (.slice wa fr2.length wc) := by rw [cell_of_row W D 0 _ _ (0, 0) hbx]; rfl
        have ALIKE := Lib.hid (alike_any W _ _ _ _ fr2 fr2 _ _ (by omega) (fun i h => by have := hfm.out i h; omega) hG HF)
        rw [decide_eq_true (rfl : fr2 = fr2)] at ALIKE
        clear hi hs hK hF hbx hU hfr k7W hn7 hlenN q1 q2 q3 hfed htak
        gi_wp2_with fail
        refine ⟨trivial, (callsIn_wide.2 ALIKE.out).mono ?_⟩
        rintro e w9 ⟨rfl, k9⟩
        have K9 := Lib.hid k9
        clear k9 hcw
        have R0 : Hid (Own w9 w9.heap.size (.slice none 0 0) (fr2.take 0).flatten) := by exact World.ownsRow_nil _ _ _ _
        gi_wp2_with fail
        gi_loopw [23, 24] (fun rv iv wr => ∃ (k : Nat) (rv2 : Value), rv2 = rv ∧ iv = .int .i64 k ∧ k ≤ fr2.length ∧ Hid (Own wr w9.heap.size rv2 (fr2.take k).flatten) ∧ Hid (Kept [] w9 wr)) (fun _ iv _ => fr2.length - (intOf iv).toNat)
        case atStart => exact ⟨0, _, rfl, rfl, by omega, R0, Kept.refl _ _⟩
        case round =>
          clear R0
          obtain ⟨k, rv, rfl, rfl, hk, hO, hK9⟩ := hrel
          have hWr : Hid (Kept [] W wr) := K9.out.trans hK9.out (fun i hi => by simp at hi)
          by_cases hlt : k < fr2.length
          · have hg1 := hG.out.kept hWr.out (fun _ _ hm => by simp at hm)
            obtain ⟨b1, cc1, y1, e1, d1, f1, o1, -⟩ := hg1.at2 (N := (vs.length + 1)) (by simp) k hlt
            cases e1
            obtain ⟨x1, z1, rfl⟩ := own_slice o1
            obtain ⟨xs, hxs⟩ : ∃ xs, xs = fr2[k] := ⟨_, rfl⟩
            rw [← hxs] at o1 f1
            have hxl : xs.length ≤ 65536 := by rw [hxs]; exact hfm.out k hlt
            obtain ⟨acc, hac⟩ : ∃ l, l = (fr2.take k).flatten := ⟨_, rfl⟩
            rw [← hac] at hO
            have hacc : acc.length + xs.length ≤ 33554432 := by
              have a := FLT.out (k + 1)
              rw [flat_succ fr2 k hlt, List.length_append, ← hxs, ← hac] at a
              omega
            obtain ⟨ra, rc, rfl⟩ := own_slice hO.out
            obtain ⟨i0, hi0, hz0, hz1, hz2⟩ := info_parts info_u8
            have j1 : (k : Int) < ((vs.length : Int) + 1) := by have := HLEN.out; omega
            have HXS := Lib.hid hxs
            have HAC := Lib.hid hac
            have O1 := Lib.hid o1
            have hsz9 : w9.heap.size ≤ wr.heap.size := hK9.out.size
            clear hg1 hxs hac o1
            gi_wp2_with (gi_at_builtin; refine wpListIn_append_src wr rfl (.tmp 147) (.tmp 151) 23 rfl w9.heap.size 5 i0 (.int .u8 0) 1 1 Try.underlying23 hi0 hz0 hz1 hz2 rfl (by decide) (.slice ra acc.length rc) acc.length (acc.map bv) rfl hO.out (.slice x1 xs.length z1) xs.length (xs.map bv) rfl (rowSrc_own O1.out) (by simp) (by intro u hu; simp at hu; obtain ⟨_, -, rfl⟩ := hu; rfl) (by unfold maxLen; omega) (by omega) hsz9 ?_; intro v19 w19 hown19 hgrow19 hat19; have RP := Lib.hid (row_push hlt HXS.out HAC.out hO.out hK9.out hown19 hgrow19); obtain ⟨pa, pc, rfl⟩ := own_slice hown19; clear hown19 hgrow19 hat19)
            go_roundw
            case rel => exact ⟨k + 1, _, rfl, by go_num, by omega, RP.out.1, RP.out.2⟩
            case measure => simp [intOf]; omega
          · have e0 : (fr2.take k).flatten = fr2.flatten := by rw [List.take_of_length_le (by omega)]
            rw [e0] at hO
            have hq2 := HQ2.out
            have hq3 := HQ3.out
            obtain ⟨row, hrow⟩ : ∃ l, l = fr2.flatten := ⟨_, rfl⟩
            rw [← hrow] at hO hq2 hq3
            obtain ⟨ra, rc, rfl⟩ := own_slice hO.out
            have j1 : ¬ (k : Int) < ((vs.length : Int) + 1) := by have := HLEN.out; omega
            have jr : (row.length : Int) ≤ (at' : Int) := by omega
            have jw : w.heap.size ≤ w8.heap.size := by have a := I8.out.big; have c := K3.out.size; have d := HD.out; omega
            have hsd : decide (row = b.take row.length) = true := decide_eq_true hq3
            have HSD := Lib.hid hsd
            have HQ := Lib.hid hq2
            have hrb : row.length ≤ b.length := by omega
            have hr25 : row.length ≤ 33554432 := by omega
            have hCt1 : Hid (Ct wr p S6 st2) := hCt.out.kept hWr.out (fun _ _ hm => by simp at hm)
            have DEAD := dead_any wr p S6 st2 (fun h => ⟨by have := hded.out h; have := HFED.out; omega, by have := HFED.out; omega⟩) hCt1
            clear e0 hq2 hq3 hrow hsd
            by_cases hd : st2.dead = true
            · obtain ⟨ad, rfl⟩ : ∃ ad, a1 = some ad := by
                cases a1 with
                | none => have := (src_none h1.out).1; have := hded.out hd; have := HQ.out; rw [(src_none h1.out).1] at hle; simp at hle; omega
                | some ad => exact ⟨ad, rfl⟩
              have e1 : ((CS.err st2 : Nat) : Int) = 40 := by unfold CS.err; rw [if_pos hd]; rfl
              have e2 : CS.place st2 = row.length := by unfold CS.place; rw [if_pos hd]; have := hded.out hd; have := HFED.out; have := HQ.out; omega
              have e3 : ((st2.want : Nat) : Int) = 0 := by unfold CS.want; rw [if_pos hd]; rfl
              have ja : (at' : Int) = (row.length : Int) + 4 := by have := hded.out hd; have := HQ.out; omega
              rw [e1, e2] at DEAD
              have DEADh := Lib.hid DEAD
              have E3 := Lib.hid e3
              have JA := Lib.hid ja
              clear e1 e2 e3 hd DEAD ja
              gi_wp2_with fail
              refine ⟨trivial, (callsIn_wide.2 DEADh.out).mono ?_⟩
              rintro e wa' ⟨rfl, ka⟩
              have KA : Hid (Kept [] W wa') := hWr.out.trans ka (fun i hi => by simp at hi)
              have hCt2 : Hid (Ct wa' p S6 st2) := hCt.out.kept KA.out (fun _ _ hm => by simp at hm)
              have hO2 : Hid (Own wa' w9.heap.size (.slice ra row.length rc) row) := ownsRow_kept hO.out ka (fun _ _ hm => by simp at hm)
              clear ka
              gi_wp2_with fail
              refine ⟨trivial, (callsIn_wide.2 (taken_any wa' p S6 st2 hCt2)).mono ?_⟩
              rintro e wb ⟨rfl, rfl⟩
              rw [HTAK.out]

              have SAME := Lst.same_src wa' (.slice ra row.length rc) (.slice (some ad) row.length c1) row (b.take row.length) _ T1 (by omega) (Lib.hid (Seg.of_own hO2.out)) (Lib.hid (src_take (h1.out.kept (hKW.out.trans KA.out (fun i hi => by simp at hi)) (fun _ _ hm => by simp at hm)) hrb))

              rw [HSD.out] at SAME
              have SAMEh := Lib.hid SAME
              clear SAME
              gi_wp2_with fail
              refine ⟨trivial, (callsIn_wide.2 SAMEh.out).mono ?_⟩
              rintro e wc' ⟨rfl, kc⟩
              have KC : Hid (Kept [] W wc') := KA.out.trans kc (fun i hi => by simp at hi)
              have hCt3 : Hid (Ct wc' p S6 st2) := hCt.out.kept KC.out (fun _ _ hm => by simp at hm)
              clear kc
              have ja := JA.out
              gi_wp2_with fail
              refine ⟨trivial, (callsIn_wide.2 (want_any wc' p S6 st2 okz hCt3)).mono ?_⟩
              rintro e wd ⟨rfl, kd⟩
              have KD : Hid (Kept [] W wd) := KC.out.trans kd (fun i hi => by simp at hi)
              have hCt4 : Hid (Ct wd p S6 st2) := hCt.out.kept KD.out (fun _ _ hm => by simp at hm)
              clear kd
              rw [E3.out]
              gi_wp2_with fail
              refine ⟨trivial, (callsIn_wide.2 (whole_any wd p S6 st2 okz hCt4)).mono ?_⟩
              rintro e we ⟨rfl, ke⟩
              have KE : Hid (Kept [] W we) := KD.out.trans ke (fun i hi => by simp at hi)
              clear ke
              rw [hnd.out.1]
              gi_wp2_with fail
              have hKe : we.heap[w8.heap.size]? = some (.deferred (some [])) := (KE.out.block _ (block_lt HKD.out) (by simp)).trans HKD.out
              refine ⟨by simp, .inl ⟨_, _, rfl, run_takeDeferred hKe, ?_⟩⟩
              refine ⟨.bool true, ?_, rfl, (hKW.out.trans KE.out (fun i hi => by simp at hi)).putObj _ (Or.inr jw)⟩
              simp [results, Try.f6, go_sem]
            · have e1 : ((CS.err st2 : Nat) : Int) = 0 := by unfold CS.err; rw [if_neg hd]; rfl
              have e2 : ((CS.place st2 : Nat) : Int) = 0 := by unfold CS.place; rw [if_neg hd]; rfl
              have e3 : (0 : Int) < ((st2.want : Nat) : Int) := by have := whole_want hd hnd.out.1; omega
              have ja : (at' : Int) = (b.length : Int) := by
                rcases hnd.out.2 with h | h
                · omega
                · exact absurd h hd
              rw [e1, e2] at DEAD
              have DEADh := Lib.hid DEAD
              have E3 := Lib.hid e3
              have JA := Lib.hid ja
              clear e1 e2 e3 hd DEAD ja
              rcases a1 with _ | ad
              · exfalso
                rw [(src_none h1.out).1] at hle
                simp at hle
                omega
              · skip
                gi_wp2_with fail
                refine ⟨trivial, (callsIn_wide.2 DEADh.out).mono ?_⟩
                rintro e wa' ⟨rfl, ka⟩
                have KA : Hid (Kept [] W wa') := hWr.out.trans ka (fun i hi => by simp at hi)
                have hCt2 : Hid (Ct wa' p S6 st2) := hCt.out.kept KA.out (fun _ _ hm => by simp at hm)
                have hO2 : Hid (Own wa' w9.heap.size (.slice ra row.length rc) row) := ownsRow_kept hO.out ka (fun _ _ hm => by simp at hm)
                clear ka
                gi_wp2_with fail
                refine ⟨trivial, (callsIn_wide.2 (taken_any wa' p S6 st2 hCt2)).mono ?_⟩
                rintro e wb ⟨rfl, rfl⟩
                rw [HTAK.out]

                have SAME := Lst.same_src wa' (.slice ra row.length rc) (.slice (some ad) row.length c1) row (b.take row.length) _ T1 (by omega) (Lib.hid (Seg.of_own hO2.out)) (Lib.hid (src_take (h1.out.kept (hKW.out.trans KA.out (fun i hi => by simp at hi)) (fun _ _ hm => by simp at hm)) hrb))

                rw [HSD.out] at SAME
                have SAMEh := Lib.hid SAME
                clear SAME
                gi_wp2_with fail
                refine ⟨trivial, (callsIn_wide.2 SAMEh.out).mono ?_⟩
                rintro e wc' ⟨rfl, kc⟩
                have KC : Hid (Kept [] W wc') := KA.out.trans kc (fun i hi => by simp at hi)
                have hCt3 : Hid (Ct wc' p S6 st2) := hCt.out.kept KC.out (fun _ _ hm => by simp at hm)
                clear kc
                have ja := JA.out
                gi_wp2_with fail
                refine ⟨trivial, (callsIn_wide.2 (want_any wc' p S6 st2 okz hCt3)).mono ?_⟩
                rintro e wd ⟨rfl, kd⟩
                have KD : Hid (Kept [] W wd) := KC.out.trans kd (fun i hi => by simp at hi)
                have hCt4 : Hid (Ct wd p S6 st2) := hCt.out.kept KD.out (fun _ _ hm => by simp at hm)
                clear kd
                have e3 := E3.out
                gi_wp2_with fail
                refine ⟨trivial, (callsIn_wide.2 (whole_any wd p S6 st2 okz hCt4)).mono ?_⟩
                rintro e we ⟨rfl, ke⟩
                have KE : Hid (Kept [] W we) := KD.out.trans ke (fun i hi => by simp at hi)
                clear ke
                rw [hnd.out.1]
                gi_wp2_with fail
                have hKe : we.heap[w8.heap.size]? = some (.deferred (some [])) := (KE.out.block _ (block_lt HKD.out) (by simp)).trans HKD.out
                refine ⟨by simp, .inl ⟨_, _, rfl, run_takeDeferred hKe, ?_⟩⟩
                refine ⟨.bool true, ?_, rfl, (hKW.out.trans KE.out (fun i hi => by simp at hi)).putObj _ (Or.inr jw)⟩
                simp [results, Try.f6, go_sem]
                have := E3.out
                omega
    · have hw' : st.whole = false := by simpa using hw
      have hgot : st.got = [] := by unfold CS.got; rw [if_neg hw]
      have hnx : st.next = st := by unfold CS.next; rw [if_neg hw]
      rw [hgot] at o6
      rw [hnx] at c6
      rw [hw']
      obtain ⟨xa, xc, rfl⟩ := own_slice o6.out
      rw [show (List.length ([] : List UInt8)) = 0 from rfl]
      have I7 := Lib.hid (hI.out.turn hpw hCB.out K3.out.size hI.out.str c6.out k6.out (fun i hi => Or.inl (s6.out i hi)))
      have hnd : Hid (st.whole = false ∧ (at' = b.length ∨ st.dead = true)) := ⟨hw', HEND.out⟩
      clear hw hw' hgot hnx cx
      gi_wp2_with fail
      obtain ⟨w8, hw8⟩ : ∃ W, W = w6.alloc (.cells #[.slice none 0 0] 26) := ⟨_, rfl⟩
      have hD8 : Hid (w8.heap[w6.heap.size]? = some (.cells #[.slice none 0 0] 26 (0, 0))) := by rw [hw8]; exact heap_alloc_new w6 _
      have hz8 : w8.heap.size = w6.heap.size + 1 := by rw [hw8]; simp
      have hk8 : Hid (Kept [] w6 w8) := by rw [hw8]; exact (Kept.refl [] _).alloc _
      rw [← hw8]
      clear hw8
      obtain ⟨D, hD⟩ : ∃ D, D = w6.heap.size := ⟨_, rfl⟩
      rw [← hD] at hD8 hz8 ⊢
      have hDlt : D < w8.heap.size := by omega
      have HD := Lib.hid hD
      clear hD hz8
      have I8 := Lib.hid (I7.out.pure hk8.out)
      have hca8 : Hid (Caught w8 B1 B2 L true b pf va) := I8.out.cau
      have hK0 : Hid (∀ i ∈ va.ownBlock.toList, i < w8.heap.size ∧ i ≠ D) := fun i hi => by
        have a := hCB.out i (by simp [hi])
        have c := I7.out.big
        have d := HD.out
        omega
      have hfl0 : (frames L b).length ≤ 33554432 := by
        have e := I7.out.str.done hnd.out.1 hnd.out.2
        have c := I7.out.str.count.1
        have d := I7.out.str.le
        rw [e]
        omega
      have hfl := Lib.hid hfl0
      clear hfl0
      refine wpIn_rangeFunc_stops1 (sl := 21) rfl (by decide) rfl trivial (enters_of Try.func47 (by kernel_rfl) rfl) (all1_iter w8 B1 B2 L pf b va hL7 hL6 (by omega) hca8) (Kept.refl [] w8) (fun i hi => (hK0.out i hi).1) (ChR w8 D) (fun _ _ _ => False)
        (fun Rs Rs' s A B h k g => h.turn hDlt k g) (fun _ _ _ _ h _ => h) (fun Rs W' h1 h2 h3 => ChR.start hD8.out h1 h2 h3) ?assign ?body ?done ?stop
      case stop => exact fun _ _ _ h _ _ => h.elim
      case assign =>
        intro l x W K hK
        gi_wp2_with fail
        exact hK
      case body =>
        rintro l Rs pre ⟨xv, xb⟩ A Wb W hRs hA hiA hib hAW hgv hWW hC
        have hiW := hib.turn hDlt (hWW.mono (T := w8.heap.size :: (w8.heap.size + 1) :: Rs) (fun i hi => Or.inl (by simp at hi; simp [hi]))) (fun i hi => Or.inl hi)
        obtain ⟨gw, us, U, hF, hbx, hU⟩ := hiW.got
        obtain ⟨ha, hc, rfl⟩ := own_slice hF.own
        have hrs := hiW.rs
        have hkw := hiW.kept
        have hbw := hiW.big
        have hx0 : Own W 0 xv xb := World.ownsRow.mono (ownsRow_kept hgv.1 hWW (fun i hi hm => by have := (hgv.1.lt i hi).1; simp at hm; omega)) (Nat.zero_le _)
        have hx2 : ∀ k, xv.ownBlock = some k → w8.heap.size + 2 ≤ k ∧ k ∉ Rs := fun k hk => ⟨by have := (hgv.1.lt k hk).1; omega, hgv.2 k hk⟩
        have hul : us.length + 1 ≤ 33554433 := by
          have c := hC.length_le
          have d := hF.len
          have e := hfl.out
          simp at c d
          omega
        obtain ⟨xa, xc, rfl⟩ := own_slice hx0
        have hcell : W.cell? ⟨D, 0, none⟩ = some (.slice ha us.length hc) := by rw [cell_of_row W D 0 _ _ (0, 0) hbx]; rfl
        have hown0 := hF.own
        obtain ⟨i1, hi1, hz10, hz11, hz12⟩ := info_parts info_sl
        have HF := Lib.hid hF
        have HBX := Lib.hid hbx
        have HU := Lib.hid hU
        have HX := Lib.hid hx0
        have HX2 := Lib.hid hx2
        have HRS := Lib.hid hrs
        have HKW := Lib.hid hkw
        have HOWN := Lib.hid hown0
        clear hiA hib hAW hgv hC hiW hF hbx hU hx0 hx2 hrs hkw hRs hown0
        gi_wp2_with (gi_at_builtin; refine wpListIn_append_src (W.alloc (.cells #[.slice xa xb.length xc] 23)) rfl (.tmp 134) (.tmp 136) 26 rfl 0 23 i1 (.slice none 0 0) 1 24 Try.underlying26 hi1 hz10 hz11 hz12 rfl (by decide) (.slice ha us.length hc) us.length us rfl (HOWN.out.alloc _) (.slice (some ⟨W.heap.size, 0, none⟩) 1 1) 1 [.slice xa xb.length xc] rfl (Or.inr ⟨_, _, rfl, World.news_of_block (cs := #[.slice xa xb.length xc]) (by exact heap_alloc_new W _)⟩) rfl (by intro u hu; simp at hu; subst hu; rfl) (by unfold maxLen; omega) (by omega) (Nat.zero_le _) ?_; intro v9 w9 hown9 hgrow9 hat9; have PU := Lib.hid (ChR.push hDlt HRS.out HKW.out hbw HF.out HBX.out HU.out HX.out HX2.out ((Kept.refl [] W).alloc _) rfl hown9 hgrow9 hat9); have hc9 : w9.cell? ⟨D, 0, none⟩ = some (.slice ha us.length hc) := by { rw [cell_of_row w9 D 0 _ _ (0, 0) PU.out.2.2]; rfl }; have hf9 := frozen_of PU.out.2.2; obtain ⟨ya, yc, rfl⟩ := own_slice hown9; clear hown9 hgrow9 hat9)
        obtain ⟨⟨S, k9, s9⟩, c9, -⟩ := PU.out
        refine ⟨⟨S, k9, fun i hi => ?_⟩, c9⟩
        rcases s9 i hi with q | q
        · subst q
          exact ⟨⟨fun hm => by have := (HRS.out _ hm).1; omega, fun hm => (hK0.out _ hm).2 rfl⟩, by omega, by omega⟩
        · have a := HU.out i q
          exact ⟨⟨a.2, fun hm => by have := (hK0.out _ hm).1; omega⟩, by omega, by omega⟩
      case done =>
        intro Rs xs W hi hs hK
        obtain ⟨gw, us, U, hF, hbx, hU⟩ := hi.got
        have hfr : frames L b = fr := I7.out.str.done hnd.out.1 hnd.out.2
        rw [hs, hfr] at hF
        have HF := Lib.hid hF
        have k7W : Kept [D] w6 W := (hk8.out.mono (fun i hi => by simp at hi)).trans hi.kept (fun i hi => Or.inl hi)
        have hn7 : ∀ {X : List Nat}, (∀ k ∈ X, k < w6.heap.size) → ∀ k ∈ X, k ∉ [D] := fun h k hk hm => by have := h k hk; have := HD.out; simp at hm; omega
        have hG := Lib.hid (I7.out.got.kept k7W (hn7 I7.out.got.lt))
        have hCt := Lib.hid (I7.out.ct.kept k7W (hn7 I7.out.ct.lt))
        have hKW : Hid (Kept [] w W) := I7.out.kept.trans k7W (fun i hi => Or.inr (by have a := I7.out.big; have b := HD.out; have c := K3.out.size; simp at hi; omega))
        have HKD := Lib.hid hK
        have hlenN : fr.length = vs.length := by rw [← I7.out.got.len] <;> simp
        have HLEN := Lib.hid hlenN
        obtain ⟨q1, q2, q3⟩ := I7.out.str.count
        have hle := I7.out.str.le
        have hfed := I7.out.str.fed
        have htak : (st.taken : Int) = (vs.length : Int) := by have := I7.out.str.taken; omega
        have HTAK := Lib.hid htak
        have HQ2 := Lib.hid q2
        have HQ3 := Lib.hid q3
        have hn0 : fr.length ≤ 33554432 := by omega
        have hfl2 : fr.flatten.length ≤ 33554432 := by omega
        have FLT := Lib.hid (flat_take fr)
        have hfm : Hid (∀ i (h : i < fr.length), fr[i].length ≤ 65536) := fun i h => by
          have a := (I7.out.str.frm _ (List.getElem_mem h)).nL
          omega
        have okz : Hid st.Ok := by
          have hh := I7.out.str.hand
          rw [← I7.out.str.lim] at hh
          exact hh.ok (by rw [I7.out.str.lim]; exact hL7) (by rw [I7.out.str.lim]; exact hL6)
        have hded : Hid (st.dead = true → st.hand.length = 4) := fun h => by
          rcases I7.out.str.hand with ⟨a, -⟩ | ⟨-, a, -⟩
          · rw [h] at a; cases a
          · exact a
        have HFED := Lib.hid hfed
        have hd8 : w8.heap.size < W.heap.size := block_lt hK
        obtain ⟨wa, wc, hgw⟩ := HF.out.val
        subst hgw
        have hcw : W.cell? ⟨D, 0, none⟩ = some (.slice wa fr.length wc) := by rw [cell_of_row W D 0 _ _ (0, 0) hbx]; rfl
        have ALIKE := Lib.hid (alike_any W _ _ _ _ fr fr _ _ (by omega) (fun i h => by have := hfm.out i h; omega) hG HF)
        rw [decide_eq_true (rfl : fr = fr)] at ALIKE
        clear hi hs hK hF hbx hU hfr k7W hn7 hlenN q1 q2 q3 hfed htak
        gi_wp2_with fail
        refine ⟨trivial, (callsIn_wide.2 ALIKE.out).mono ?_⟩
        rintro e w9 ⟨rfl, k9⟩
        have K9 := Lib.hid k9
        clear k9 hcw
        have R0 : Hid (Own w9 w9.heap.size (.slice none 0 0) (fr.take 0).flatten) := by exact World.ownsRow_nil _ _ _ _
        gi_wp2_with fail
        gi_loopw [23, 24] (fun rv iv wr => ∃ (k : Nat) (rv2 : Value), rv2 = rv ∧ iv = .int .i64 k ∧ k ≤ fr.length ∧ Hid (Own wr w9.heap.size rv2 (fr.take k).flatten) ∧ Hid (Kept [] w9 wr)) (fun _ iv _ => fr.length - (intOf iv).toNat)
        case atStart => exact ⟨0, _, rfl, rfl, by omega, R0, Kept.refl _ _⟩
        case round =>
          clear R0
          obtain ⟨k, rv, rfl, rfl, hk, hO, hK9⟩ := hrel
          have hWr : Hid (Kept [] W wr) := K9.out.trans hK9.out (fun i hi => by simp at hi)
          by_cases hlt : k < fr.length
          · have hg1 := hG.out.kept hWr.out (fun _ _ hm => by simp at hm)
            obtain ⟨b1, cc1, y1, e1, d1, f1, o1, -⟩ := hg1.at2 (N := vs.length) (by simp) k hlt
            cases e1
            obtain ⟨x1, z1, rfl⟩ := own_slice o1
            obtain ⟨xs, hxs⟩ : ∃ xs, xs = fr[k] := ⟨_, rfl⟩
            rw [← hxs] at o1 f1
            have hxl : xs.length ≤ 65536 := by rw [hxs]; exact hfm.out k hlt
            obtain ⟨acc, hac⟩ : ∃ l, l = (fr.take k).flatten := ⟨_, rfl⟩
            rw [← hac] at hO
            have hacc : acc.length + xs.length ≤ 33554432 := by
              have a := FLT.out (k + 1)
              rw [flat_succ fr k hlt, List.length_append, ← hxs, ← hac] at a
              omega
            obtain ⟨ra, rc, rfl⟩ := own_slice hO.out
            obtain ⟨i0, hi0, hz0, hz1, hz2⟩ := info_parts info_u8
            have j1 : (k : Int) < (vs.length : Int) := by have := HLEN.out; omega
            have HXS := Lib.hid hxs
            have HAC := Lib.hid hac
            have O1 := Lib.hid o1
            have hsz9 : w9.heap.size ≤ wr.heap.size := hK9.out.size
            clear hg1 hxs hac o1
            gi_wp2_with (gi_at_builtin; refine wpListIn_append_src wr rfl (.tmp 147) (.tmp 151) 23 rfl w9.heap.size 5 i0 (.int .u8 0) 1 1 Try.underlying23 hi0 hz0 hz1 hz2 rfl (by decide) (.slice ra acc.length rc) acc.length (acc.map bv) rfl hO.out (.slice x1 xs.length z1) xs.length (xs.map bv) rfl (rowSrc_own O1.out) (by simp) (by intro u hu; simp at hu; obtain ⟨_, -, rfl⟩ := hu; rfl) (by unfold maxLen; omega) (by omega) hsz9 ?_; intro v19 w19 hown19 hgrow19 hat19; have RP := Lib.hid (row_push hlt HXS.out HAC.out hO.out hK9.out hown19 hgrow19); obtain ⟨pa, pc, rfl⟩ := own_slice hown19; clear hown19 hgrow19 hat19)
            go_roundw
            case rel => exact ⟨k + 1, _, rfl, by go_num, by omega, RP.out.1, RP.out.2⟩
            case measure => simp [intOf]; omega
          · have e0 : (fr.take k).flatten = fr.flatten := by rw [List.take_of_length_le (by omega)]
            rw [e0] at hO
            have hq2 := HQ2.out
            have hq3 := HQ3.out
            obtain ⟨row, hrow⟩ : ∃ l, l = fr.flatten := ⟨_, rfl⟩
            rw [← hrow] at hO hq2 hq3
            obtain ⟨ra, rc, rfl⟩ := own_slice hO.out
            have j1 : ¬ (k : Int) < (vs.length : Int) := by have := HLEN.out; omega
            have jr : (row.length : Int) ≤ (at' : Int) := by omega
            have jw : w.heap.size ≤ w8.heap.size := by have a := I8.out.big; have c := K3.out.size; have d := HD.out; omega
            have hsd : decide (row = b.take row.length) = true := decide_eq_true hq3
            have HSD := Lib.hid hsd
            have HQ := Lib.hid hq2
            have hrb : row.length ≤ b.length := by omega
            have hr25 : row.length ≤ 33554432 := by omega
            have hCt1 : Hid (Ct wr p S6 st) := hCt.out.kept hWr.out (fun _ _ hm => by simp at hm)
            have DEAD := dead_any wr p S6 st (fun h => ⟨by have := hded.out h; have := HFED.out; omega, by have := HFED.out; omega⟩) hCt1
            clear e0 hq2 hq3 hrow hsd
            by_cases hd : st.dead = true
            · obtain ⟨ad, rfl⟩ : ∃ ad, a1 = some ad := by
                cases a1 with
                | none => have := (src_none h1.out).1; have := hded.out hd; have := HQ.out; rw [(src_none h1.out).1] at hle; simp at hle; omega
                | some ad => exact ⟨ad, rfl⟩
              have e1 : ((CS.err st : Nat) : Int) = 40 := by unfold CS.err; rw [if_pos hd]; rfl
              have e2 : CS.place st = row.length := by unfold CS.place; rw [if_pos hd]; have := hded.out hd; have := HFED.out; have := HQ.out; omega
              have e3 : ((st.want : Nat) : Int) = 0 := by unfold CS.want; rw [if_pos hd]; rfl
              have ja : (at' : Int) = (row.length : Int) + 4 := by have := hded.out hd; have := HQ.out; omega
              rw [e1, e2] at DEAD
              have DEADh := Lib.hid DEAD
              have E3 := Lib.hid e3
              have JA := Lib.hid ja
              clear e1 e2 e3 hd DEAD ja
              gi_wp2_with fail
              refine ⟨trivial, (callsIn_wide.2 DEADh.out).mono ?_⟩
              rintro e wa' ⟨rfl, ka⟩
              have KA : Hid (Kept [] W wa') := hWr.out.trans ka (fun i hi => by simp at hi)
              have hCt2 : Hid (Ct wa' p S6 st) := hCt.out.kept KA.out (fun _ _ hm => by simp at hm)
              have hO2 : Hid (Own wa' w9.heap.size (.slice ra row.length rc) row) := ownsRow_kept hO.out ka (fun _ _ hm => by simp at hm)
              clear ka
              gi_wp2_with fail
              refine ⟨trivial, (callsIn_wide.2 (taken_any wa' p S6 st hCt2)).mono ?_⟩
              rintro e wb ⟨rfl, rfl⟩
              rw [HTAK.out]

              have SAME := Lst.same_src wa' (.slice ra row.length rc) (.slice (some ad) row.length c1) row (b.take row.length) _ T1 (by omega) (Lib.hid (Seg.of_own hO2.out)) (Lib.hid (src_take (h1.out.kept (hKW.out.trans KA.out (fun i hi => by simp at hi)) (fun _ _ hm => by simp at hm)) hrb))

              rw [HSD.out] at SAME
              have SAMEh := Lib.hid SAME
              clear SAME
              gi_wp2_with fail
              refine ⟨trivial, (callsIn_wide.2 SAMEh.out).mono ?_⟩
              rintro e wc' ⟨rfl, kc⟩
              have KC : Hid (Kept [] W wc') := KA.out.trans kc (fun i hi => by simp at hi)
              have hCt3 : Hid (Ct wc' p S6 st) := hCt.out.kept KC.out (fun _ _ hm => by simp at hm)
              clear kc
              have ja := JA.out
              gi_wp2_with fail
              refine ⟨trivial, (callsIn_wide.2 (want_any wc' p S6 st okz hCt3)).mono ?_⟩
              rintro e wd ⟨rfl, kd⟩
              have KD : Hid (Kept [] W wd) := KC.out.trans kd (fun i hi => by simp at hi)
              have hCt4 : Hid (Ct wd p S6 st) := hCt.out.kept KD.out (fun _ _ hm => by simp at hm)
              clear kd
              rw [E3.out]
              gi_wp2_with fail
              refine ⟨trivial, (callsIn_wide.2 (whole_any wd p S6 st okz hCt4)).mono ?_⟩
              rintro e we ⟨rfl, ke⟩
              have KE : Hid (Kept [] W we) := KD.out.trans ke (fun i hi => by simp at hi)
              clear ke
              rw [hnd.out.1]
              gi_wp2_with fail
              have hKe : we.heap[w8.heap.size]? = some (.deferred (some [])) := (KE.out.block _ (block_lt HKD.out) (by simp)).trans HKD.out
              refine ⟨by simp, .inl ⟨_, _, rfl, run_takeDeferred hKe, ?_⟩⟩
              refine ⟨.bool true, ?_, rfl, (hKW.out.trans KE.out (fun i hi => by simp at hi)).putObj _ (Or.inr jw)⟩
              simp [results, Try.f6, go_sem]
            · have e1 : ((CS.err st : Nat) : Int) = 0 := by unfold CS.err; rw [if_neg hd]; rfl
              have e2 : ((CS.place st : Nat) : Int) = 0 := by unfold CS.place; rw [if_neg hd]; rfl
              have e3 : (0 : Int) < ((st.want : Nat) : Int) := by have := whole_want hd hnd.out.1; omega
              have ja : (at' : Int) = (b.length : Int) := by
                rcases hnd.out.2 with h | h
                · omega
                · exact absurd h hd
              rw [e1, e2] at DEAD
              have DEADh := Lib.hid DEAD
              have E3 := Lib.hid e3
              have JA := Lib.hid ja
              clear e1 e2 e3 hd DEAD ja
              rcases a1 with _ | ad
              · obtain ⟨hb0, rfl⟩ := src_none h1.out
                have hr0 : row = [] := List.eq_nil_of_length_eq_zero (by rw [hb0] at hrb; simpa using hrb)
                have hbl : b.length = 0 := by rw [hb0]; rfl
                have hrl : row.length = 0 := by rw [hr0]; rfl
                rw [hrl, hbl]
                have HR0 := Lib.hid hr0
                have HRL := Lib.hid hrl
                have hjr0 : (0 : Int) ≤ (at' : Int) := by omega
                have JA2 : Hid ((at' : Int) = 0) := by have := JA.out; show (at' : Int) = 0; omega
                rw [hr0] at hO
                clear hr0 hb0 hbl hrl
                gi_wp2_with fail
                refine ⟨trivial, (callsIn_wide.2 DEADh.out).mono ?_⟩
                rintro e wa' ⟨rfl, ka⟩
                have KA : Hid (Kept [] W wa') := hWr.out.trans ka (fun i hi => by simp at hi)
                have hCt2 : Hid (Ct wa' p S6 st) := hCt.out.kept KA.out (fun _ _ hm => by simp at hm)
                have hO2 : Hid (Own wa' w9.heap.size (.slice ra 0 rc) []) := ownsRow_kept hO.out ka (fun _ _ hm => by simp at hm)
                clear ka
                gi_wp2_with fail
                refine ⟨trivial, (callsIn_wide.2 (taken_any wa' p S6 st hCt2)).mono ?_⟩
                rintro e wb ⟨rfl, rfl⟩
                rw [HTAK.out]
                have SAME := Lst.same_src wa' (.slice ra 0 rc) (.slice none 0 0) [] [] _ [] (by decide) (Lib.hid (Seg.of_own (bs := []) hO2.out)) (Lib.hid (Seg.empty _ []).src)

                rw [decide_eq_true rfl] at SAME
                have SAMEh := Lib.hid SAME
                clear SAME
                gi_wp2_with fail
                refine ⟨trivial, (callsIn_wide.2 SAMEh.out).mono ?_⟩
                rintro e wc' ⟨rfl, kc⟩
                have KC : Hid (Kept [] W wc') := KA.out.trans kc (fun i hi => by simp at hi)
                have hCt3 : Hid (Ct wc' p S6 st) := hCt.out.kept KC.out (fun _ _ hm => by simp at hm)
                clear kc
                have ja := JA2.out
                gi_wp2_with fail
                refine ⟨trivial, (callsIn_wide.2 (want_any wc' p S6 st okz hCt3)).mono ?_⟩
                rintro e wd ⟨rfl, kd⟩
                have KD : Hid (Kept [] W wd) := KC.out.trans kd (fun i hi => by simp at hi)
                have hCt4 : Hid (Ct wd p S6 st) := hCt.out.kept KD.out (fun _ _ hm => by simp at hm)
                clear kd
                have e3 := E3.out
                gi_wp2_with fail
                refine ⟨trivial, (callsIn_wide.2 (whole_any wd p S6 st okz hCt4)).mono ?_⟩
                rintro e we ⟨rfl, ke⟩
                have KE : Hid (Kept [] W we) := KD.out.trans ke (fun i hi => by simp at hi)
                clear ke
                rw [hnd.out.1]
                gi_wp2_with fail
                have hKe : we.heap[w8.heap.size]? = some (.deferred (some [])) := (KE.out.block _ (block_lt HKD.out) (by simp)).trans HKD.out
                refine ⟨by simp, .inl ⟨_, _, rfl, run_takeDeferred hKe, ?_⟩⟩
                refine ⟨.bool true, ?_, rfl, (hKW.out.trans KE.out (fun i hi => by simp at hi)).putObj _ (Or.inr jw)⟩
                simp [results, Try.f6, go_sem]
                have := E3.out
                omega
              · skip
                gi_wp2_with fail
                refine ⟨trivial, (callsIn_wide.2 DEADh.out).mono ?_⟩
                rintro e wa' ⟨rfl, ka⟩
                have KA : Hid (Kept [] W wa') := hWr.out.trans ka (fun i hi => by simp at hi)
                have hCt2 : Hid (Ct wa' p S6 st) := hCt.out.kept KA.out (fun _ _ hm => by simp at hm)
                have hO2 : Hid (Own wa' w9.heap.size (.slice ra row.length rc) row) := ownsRow_kept hO.out ka (fun _ _ hm => by simp at hm)
                clear ka
                gi_wp2_with fail
                refine ⟨trivial, (callsIn_wide.2 (taken_any wa' p S6 st hCt2)).mono ?_⟩
                rintro e wb ⟨rfl, rfl⟩
                rw [HTAK.out]

                have SAME := Lst.same_src wa' (.slice ra row.length rc) (.slice (some ad) row.length c1) row (b.take row.length) _ T1 (by omega) (Lib.hid (Seg.of_own hO2.out)) (Lib.hid (src_take (h1.out.kept (hKW.out.trans KA.out (fun i hi => by simp at hi)) (fun _ _ hm => by simp at hm)) hrb))

                rw [HSD.out] at SAME
                have SAMEh := Lib.hid SAME
                clear SAME
                gi_wp2_with fail
                refine ⟨trivial, (callsIn_wide.2 SAMEh.out).mono ?_⟩
                rintro e wc' ⟨rfl, kc⟩
                have KC : Hid (Kept [] W wc') := KA.out.trans kc (fun i hi => by simp at hi)
                have hCt3 : Hid (Ct wc' p S6 st) := hCt.out.kept KC.out (fun _ _ hm => by simp at hm)
                clear kc
                have ja := JA.out
                gi_wp2_with fail
                refine ⟨trivial, (callsIn_wide.2 (want_any wc' p S6 st okz hCt3)).mono ?_⟩
                rintro e wd ⟨rfl, kd⟩
                have KD : Hid (Kept [] W wd) := KC.out.trans kd (fun i hi => by simp at hi)
                have hCt4 : Hid (Ct wd p S6 st) := hCt.out.kept KD.out (fun _ _ hm => by simp at hm)
                clear kd
                have e3 := E3.out
                gi_wp2_with fail
                refine ⟨trivial, (callsIn_wide.2 (whole_any wd p S6 st okz hCt4)).mono ?_⟩
                rintro e we ⟨rfl, ke⟩
                have KE : Hid (Kept [] W we) := KD.out.trans ke (fun i hi => by simp at hi)
                clear ke
                rw [hnd.out.1]
                gi_wp2_with fail
                have hKe : we.heap[w8.heap.size]? = some (.deferred (some [])) := (KE.out.block _ (block_lt HKD.out) (by simp)).trans HKD.out
                refine ⟨by simp, .inl ⟨_, _, rfl, run_takeDeferred hKe, ?_⟩⟩
                refine ⟨.bool true, ?_, rfl, (hKW.out.trans KE.out (fun i hi => by simp at hi)).putObj _ (Or.inr jw)⟩
                simp [results, Try.f6, go_sem]
                have := E3.out
                omega
  clear hK
  have HKM := Lib.hid KM
  clear KM
  gi_loopw [10, 11, 12] (fun gv av iv wr => ∃ (at' i : Nat) (fr : List (List UInt8)) (st : CS) (S : List Nat) (gv2 : Value) (vs : List Value) (T : List Nat), gv2 = gv ∧ av = .int .i64 at' ∧ iv = .int .i64 i ∧ i ≤ 2 * b.length + zs.length + 1 ∧ (zs.length ≤ i → i + 2 * b.length + 1 ≥ i) ∧ i ≤ at' + fr.length + zs.length ∧ Hid (ChI w w3 p L b B1 B2 pf va at' fr st S gv2 vs T wr)) (fun gv av iv _ => (2 * b.length - (intOf av).toNat - lenOf gv) + (zs.length - (intOf iv).toNat))
  case atStart => exact ⟨0, 0, [], ⟨L, [], 0, 0, false⟩, [p], _, [], [], rfl, rfl, rfl, by omega, by omega, by omega, I0⟩
  case round =>
    clear I0
    obtain ⟨at', i, fr, st, S, gv, vs, T, rfl, rfl, rfl, hi1, -, hi2, I⟩ := hrel
    obtain ⟨q1, q2, q3⟩ := I.out.str.count
    have hle := I.out.str.le
    have hvl : vs.length = fr.length := I.out.got.len
    obtain ⟨ga, gc, rfl⟩ := own_slice I.out.got.own
    by_cases hlt : at' < b.length
    · have j3 : (at' : Int) < (b.length : Int) := by omega
      obtain ⟨ad, rfl⟩ : ∃ ad, a1 = some ad := by
        obtain ⟨a', c', e1, h2, -⟩ := h1.out
        have e2 : a1 = a' := by simpa using (Value.slice.inj e1).1
        cases a1 with
        | none => have := (h2 e2.symm).1; rw [this] at hlt; simp at hlt
        | some ad => exact ⟨ad, rfl⟩
      have hac : at' < c1 := by omega
      have SRC : Hid (∀ (nn : Nat) (wz : World), Kept [] w wz → at' + nn ≤ b.length → Src wz (.slice (some (ad.add at')) nn (c1 - at')) ((b.drop at').take nn) T1) := by
        intro nn wz hz hnn
        obtain ⟨a', c', e1, -, h3⟩ := h1.out.kept hz (fun _ _ hm => by simp at hm)
        cases e1
        have hln : ((b.drop at').take nn).length = nn := by rw [List.length_take, List.length_drop]; omega
        refine ⟨some (ad.add at'), c1 - at', by rw [hln], (fun e => by cases e), fun ad' e => ?_⟩
        cases e
        refine ⟨fun hp => by rw [add_block]; exact (h3 ad rfl).1 (by omega), fun j u hu => ?_⟩
        rw [List.map_take, List.getElem?_take] at hu
        split at hu
        · rw [List.map_drop, List.getElem?_drop] at hu
          rw [Addr.add_add]
          exact (h3 ad rfl).2 (at' + j) u hu
        · cases hu
      have FEED : Hid (∀ nn : Nat, at' + nn ≤ b.length → Calls Try.prog 22 #[.pointer (some ⟨p, 0, none⟩), .slice (some (ad.add at')) nn (c1 - at')] wr fun e w' => ∃ (k : Nat) (S' : List Nat), e = .returned (.int .i64 k) ∧ k ≤ nn ∧ (k < nn → (st.fedS ((b.drop at').take nn)).whole = true ∨ (st.fedS ((b.drop at').take nn)).dead = true) ∧ Hid (ChI w w3 p L b B1 B2 pf va (at' + k) fr (st.fedS ((b.drop at').take nn)) S' (.slice ga vs.length gc) vs T w')) := by
        intro nn hnn
        have hln : ((b.drop at').take nn).length = nn := by rw [List.length_take, List.length_drop]; omega
        have hlim := I.out.str.lim
        have hh := I.out.str.hand
        rw [← hlim] at hh
        have hT : Hid (∀ k ∈ T1, k ∉ S) := fun k hk hm => by
          have a := hT1.out k hk
          have z := K3.out.size
          rcases I.out.cs k hm with q | q <;> omega
        have hs := SRC.out nn wr I.out.kept hnn
        have F := feed_any wr p S T1 st (some (ad.add at')) (c1 - at') ((b.drop at').take nn) (by rw [hln]; omega) (by rw [hln]; omega) (by omega) (by rw [I.out.str.fed]; omega) (hh.ok (by rw [hlim]; exact hL7) (by rw [hlim]; exact hL6)) (by rw [hln]; exact hs) hT I.out.ct
        rw [hln] at F
        obtain ⟨s1, s2, s3⟩ := I.out.str.feed _ rfl hnn
        refine F.mono ?_
        rintro e w' ⟨rfl, S', c', k', s'⟩
        exact ⟨_, S', rfl, s2, s3, I.out.turn hpw hCB.out K3.out.size s1 c'.out k'.out s'.out⟩
      obtain ⟨m, hm⟩ : ∃ m, m = b.length - at' := ⟨_, rfl⟩
      have hmI : (b.length : Int) - (at' : Int) = (m : Int) := by omega
      have hma : at' + m ≤ b.length := by omega
      have hmb : b.length ≤ at' + m := by omega
      have HI2 := Lib.hid hi2
      have HI1 := Lib.hid hi1
      have HQ1 := Lib.hid q1
      have HQ2 := Lib.hid q2
      have HQ3 := Lib.hid q3
      have HVL := Lib.hid hvl
      clear hi1 hi2 SRC hm q1 q2 q3 hvl
      by_cases hz : i < zs.length
      · have h2r := h2.out.kept I.out.kept (fun _ _ hm => by simp at hm)
        obtain ⟨rfl, hzc⟩ := h2r.a (by omega)
        obtain ⟨-, d1, d2, d3⟩ := h2r.at' i hz
        obtain ⟨z, hzz⟩ : ∃ z, z = zs[i] := ⟨_, rfl⟩
        rw [← hzz] at d1 d2 d3
        have j4 : (i : Int) < (zs.length : Int) := by omega
        clear h2r hzz
        obtain ⟨nn, hnn⟩ : ∃ nn, nn = pk z (m + 1) := ⟨_, rfl⟩
        have hnm : nn ≤ m := by have := pk_lt z (m + 1) (by omega); omega
        have PICK := Lib.hid (pick_any wr z ((m : Int) + 1) (m + 1) (by omega) (by omega) (by omega) d2 d3)
        rw [← hnn] at PICK
        clear hnn
        by_cases hl : (z.tmod 3 == 0) = true
        · gi_wp2_with fail
          refine ⟨trivial, (callsIn_wide.2 PICK.out).mono ?_⟩
          rintro e w4 ⟨rfl, rfl⟩
          gi_wp2_with fail
          refine ⟨trivial, (callsIn_wide.2 (FEED.out nn (by omega))).mono ?_⟩
          rintro e w5 ⟨k, S5, rfl, hkn, hkw, I5⟩
          have x1 : (k : Int) ≤ (nn : Int) := by omega
          have ok5 : Hid (st.fedS ((b.drop at').take nn)).Ok := by
            have hh := I5.out.str.hand
            have hl := I5.out.str.lim
            rw [← hl] at hh
            exact hh.ok (by rw [hl]; exact hL7) (by rw [hl]; exact hL6)
          obtain ⟨st5, hst5⟩ : ∃ s, s = st.fedS ((b.drop at').take nn) := ⟨_, rfl⟩
          rw [← hst5] at I5 ok5 hkw
          have htk : st5.taken ≤ 1152921504606846976 := by
            have a := I5.out.str.taken
            have b2 := I5.out.str.count.1
            have c := I5.out.str.le
            omega
          have hkwh := Lib.hid hkw
          clear hst5 FEED hkw
          by_cases hk0 : 0 < k
          · have hk1 : (0 : Int) < (k : Int) := by omega
            gi_wp2_with fail
            go_roundw
            case rel => exact ⟨at' + k, i + 1, fr, st5, S5, _, vs, T, rfl, by go_num, by go_num, by have := HI2.out; have := HI1.out; have := HQ1.out; omega, by omega, by have := HI2.out; omega, I5⟩
            case measure => simp [intOf, lenOf]; have := HI2.out; have := HQ1.out; have := HVL.out; omega
          · have hk1 : ¬ (0 : Int) < (k : Int) := by omega
            gi_wp2_with fail
            have c5 : Hid (Ct w5 p S5 st5) := I5.out.ct
            refine ⟨trivial, (callsIn_wide.2 (next_any w5 p S5 st5 ok5 htk c5)).mono ?_⟩
            rintro e w6 ⟨v6, S6, rfl, o6, c6, k6, s6⟩
            by_cases hw : st5.whole = true
            · have hgot : st5.got = st5.hand := by unfold CS.got; rw [if_pos hw]
              rw [hgot] at o6
              rw [hw]
              have HW := Lib.hid hw
              have hv5 : Hid (vs.length = fr.length) := I5.out.got.len
              have hcnt : 7 * (fr.length + 1) ≤ at' + k := by
                have := (I5.out.str.next hw).1.count.1
                simpa using this
              have hle5 := I5.out.str.le
              have hgb : Hid (w6.ownsRow 0 23 1 (.slice ga vs.length gc) vs.length vs) := ownsRow_kept I5.out.got.own k6.out (fun i hi hm => I5.out.sep i (I5.out.got.blk i hi) hm)
              obtain ⟨xa, xc, rfl⟩ := own_slice o6.out
              obtain ⟨i1, hi1, hz10, hz11, hz12⟩ := info_parts info_sl
              have hvl2 : vs.length + 1 ≤ 33554433 := by have := hv5.out; omega
              clear hw hgot c5
              gi_wp2_with (gi_at_builtin; refine wpListIn_append_src (w6.alloc (.cells #[.slice xa st5.hand.length xc] 23)) rfl (.tmp 111) (.tmp 113) 26 rfl 0 23 i1 (.slice none 0 0) 1 24 Try.underlying26 hi1 hz10 hz11 hz12 rfl (by decide) (.slice ga vs.length gc) vs.length vs rfl (hgb.out.alloc _) (.slice (some ⟨w6.heap.size, 0, none⟩) 1 1) 1 [.slice xa st5.hand.length xc] rfl (Or.inr ⟨_, _, rfl, World.news_of_block (cs := #[.slice xa st5.hand.length xc]) (by exact heap_alloc_new w6 _)⟩) rfl (by intro u hu; simp at hu; subst hu; rfl) (by unfold maxLen; omega) (by omega) (Nat.zero_le _) ?_; intro v7 w7 hown7 hgrow7 hat7; have I7 := Lib.hid (I5.out.nexted hpw hCB.out K3.out.size HW.out c6.out k6.out s6.out o6.out ((Kept.refl [] w6).alloc _) rfl hown7 hgrow7 hat7); obtain ⟨ya, yc, rfl⟩ := own_slice hown7; clear hown7 hgrow7 hat7)
              go_roundw
              case rel => exact ⟨at' + k, i + 1, _, _, S6, _, _, _, rfl, by go_num, by go_num, by have := HI2.out; have := HI1.out; have := HQ1.out; omega, by omega, by have := HI2.out; simp; omega, I7⟩
              case measure => simp [intOf, lenOf]; have := HI2.out; have := HQ1.out; have := HVL.out; omega
            · have hw' : st5.whole = false := by simpa using hw
              have hgot : st5.got = [] := by unfold CS.got; rw [if_neg hw]
              have hnx : st5.next = st5 := by unfold CS.next; rw [if_neg hw]
              rw [hgot] at o6
              rw [hnx] at c6
              rw [hw']
              obtain ⟨xa, xc, rfl⟩ := own_slice o6.out
              rw [show (List.length ([] : List UInt8)) = 0 from rfl]
              have I6 := Lib.hid (I5.out.turn hpw hCB.out K3.out.size I5.out.str c6.out k6.out (fun i hi => Or.inl (s6.out i hi)))
              by_cases hkn2 : k < nn
              · have x2 : (k : Int) < (nn : Int) := by omega
                have hdead : st5.dead = true := by
                  rcases hkwh.out hkn2 with h | h
                  · rw [hw'] at h; cases h
                  · exact h
                have HD := Lib.hid hdead
                clear hw hw' hgot hnx hdead c5 hkn2
                gi_wp2_with fail
                exact HKM.out _ _ (at' + k) _ _ _ _ _ _ _ _ _ _ _ _ _ _ _ _ _ _ _ _ _ _ _ _ _ _ _ _ _ _ _ _ _ _ _ _ _ _ _ _ _ _ _ _ _ _ _ _ _ _ _ _ _ _ _ _ _ _ _ _ _ _ _ _ _ _ _ _ _ _ _ _ _ _ fr st5 S6 vs T _ I6 (Or.inr HD.out) (by go_num)
              · have x2 : ¬ (k : Int) < (nn : Int) := by omega
                clear hw hw' hgot hnx c5
                gi_wp2_with fail
                go_roundw
                case rel => exact ⟨at' + k, i + 1, fr, st5, S6, _, vs, T, rfl, by go_num, by go_num, by have := HI2.out; have := HI1.out; have := HQ1.out; omega, by omega, by have := HI2.out; omega, I6⟩
                case measure => simp [intOf, lenOf]; have := HI2.out; have := HQ1.out; have := HVL.out; omega
        · have hl' : (z.tmod 3 == 0) = false := by simpa using hl
          gi_wp2_with fail
          refine ⟨trivial, (callsIn_wide.2 PICK.out).mono ?_⟩
          rintro e w4 ⟨rfl, rfl⟩
          gi_wp2_with fail
          refine ⟨trivial, (callsIn_wide.2 (FEED.out nn (by omega))).mono ?_⟩
          rintro e w5 ⟨k, S5, rfl, hkn, hkw, I5⟩
          have x1 : (k : Int) ≤ (nn : Int) := by omega
          have ok5 : Hid (st.fedS ((b.drop at').take nn)).Ok := by
            have hh := I5.out.str.hand
            have hl := I5.out.str.lim
            rw [← hl] at hh
            exact hh.ok (by rw [hl]; exact hL7) (by rw [hl]; exact hL6)
          obtain ⟨st5, hst5⟩ : ∃ s, s = st.fedS ((b.drop at').take nn) := ⟨_, rfl⟩
          rw [← hst5] at I5 ok5 hkw
          have htk : st5.taken ≤ 1152921504606846976 := by
            have a := I5.out.str.taken
            have b2 := I5.out.str.count.1
            have c := I5.out.str.le
            omega
          have hkwh := Lib.hid hkw
          clear hst5 FEED hkw
          gi_wp2_with fail
          have c5 : Hid (Ct w5 p S5 st5) := I5.out.ct
          refine ⟨trivial, (callsIn_wide.2 (next_any w5 p S5 st5 ok5 htk c5)).mono ?_⟩
          rintro e w6 ⟨v6, S6, rfl, o6, c6, k6, s6⟩
          by_cases hw : st5.whole = true
          · have hgot : st5.got = st5.hand := by unfold CS.got; rw [if_pos hw]
            rw [hgot] at o6
            rw [hw]
            have HW := Lib.hid hw
            have hv5 : Hid (vs.length = fr.length) := I5.out.got.len
            have hcnt : 7 * (fr.length + 1) ≤ at' + k := by
              have := (I5.out.str.next hw).1.count.1
              simpa using this
            have hle5 := I5.out.str.le
            have hgb : Hid (w6.ownsRow 0 23 1 (.slice ga vs.length gc) vs.length vs) := ownsRow_kept I5.out.got.own k6.out (fun i hi hm => I5.out.sep i (I5.out.got.blk i hi) hm)
            obtain ⟨xa, xc, rfl⟩ := own_slice o6.out
            obtain ⟨i1, hi1, hz10, hz11, hz12⟩ := info_parts info_sl
            have hvl2 : vs.length + 1 ≤ 33554433 := by have := hv5.out; omega
            clear hw hgot c5
            gi_wp2_with (gi_at_builtin; refine wpListIn_append_src (w6.alloc (.cells #[.slice xa st5.hand.length xc] 23)) rfl (.tmp 111) (.tmp 113) 26 rfl 0 23 i1 (.slice none 0 0) 1 24 Try.underlying26 hi1 hz10 hz11 hz12 rfl (by decide) (.slice ga vs.length gc) vs.length vs rfl (hgb.out.alloc _) (.slice (some ⟨w6.heap.size, 0, none⟩) 1 1) 1 [.slice xa st5.hand.length xc] rfl (Or.inr ⟨_, _, rfl, World.news_of_block (cs := #[.slice xa st5.hand.length xc]) (by exact heap_alloc_new w6 _)⟩) rfl (by intro u hu; simp at hu; subst hu; rfl) (by unfold maxLen; omega) (by omega) (Nat.zero_le _) ?_; intro v7 w7 hown7 hgrow7 hat7; have I7 := Lib.hid (I5.out.nexted hpw hCB.out K3.out.size HW.out c6.out k6.out s6.out o6.out ((Kept.refl [] w6).alloc _) rfl hown7 hgrow7 hat7); obtain ⟨ya, yc, rfl⟩ := own_slice hown7; clear hown7 hgrow7 hat7)
            go_roundw
            case rel => exact ⟨at' + k, i + 1, _, _, S6, _, _, _, rfl, by go_num, by go_num, by have := HI2.out; have := HI1.out; have := HQ1.out; omega, by omega, by have := HI2.out; simp; omega, I7⟩
            case measure => simp [intOf, lenOf]; have := HI2.out; have := HQ1.out; have := HVL.out; omega
          · have hw' : st5.whole = false := by simpa using hw
            have hgot : st5.got = [] := by unfold CS.got; rw [if_neg hw]
            have hnx : st5.next = st5 := by unfold CS.next; rw [if_neg hw]
            rw [hgot] at o6
            rw [hnx] at c6
            rw [hw']
            obtain ⟨xa, xc, rfl⟩ := own_slice o6.out
            rw [show (List.length ([] : List UInt8)) = 0 from rfl]
            have I6 := Lib.hid (I5.out.turn hpw hCB.out K3.out.size I5.out.str c6.out k6.out (fun i hi => Or.inl (s6.out i hi)))
            by_cases hkn2 : k < nn
            · have x2 : (k : Int) < (nn : Int) := by omega
              have hdead : st5.dead = true := by
                rcases hkwh.out hkn2 with h | h
                · rw [hw'] at h; cases h
                · exact h
              have HD := Lib.hid hdead
              clear hw hw' hgot hnx hdead c5 hkn2
              gi_wp2_with fail
              exact HKM.out _ _ (at' + k) _ _ _ _ _ _ _ _ _ _ _ _ _ _ _ _ _ _ _ _ _ _ _ _ _ _ _ _ _ _ _ _ _ _ _ _ _ _ _ _ _ _ _ _ _ _ _ _ _ _ _ _ _ _ _ _ _ _ _ _ _ _ _ _ _ _ _ _ _ _ _ _ _ _ fr st5 S6 vs T _ I6 (Or.inr HD.out) (by go_num)
            · have x2 : ¬ (k : Int) < (nn : Int) := by omega
              clear hw hw' hgot hnx c5
              gi_wp2_with fail
              go_roundw
              case rel => exact ⟨at' + k, i + 1, fr, st5, S6, _, vs, T, rfl, by go_num, by go_num, by have := HI2.out; have := HI1.out; have := HQ1.out; omega, by omega, by have := HI2.out; omega, I6⟩
              case measure => simp [intOf, lenOf]; have := HI2.out; have := HQ1.out; have := HVL.out; omega
      · obtain ⟨nn, hnn⟩ : ∃ nn, nn = m := ⟨_, rfl⟩
        rw [← hnn] at hmI hma hmb
        have hnm : nn ≤ m := by omega
        have hib : i ≤ 2 * b.length + zs.length + 1 := HI1.out
        have j4 : ¬ (i : Int) < (zs.length : Int) := by omega
        clear hnn
        gi_wp2_with fail
        refine ⟨trivial, (callsIn_wide.2 (FEED.out nn (by omega))).mono ?_⟩
        rintro e w5 ⟨k, S5, rfl, hkn, hkw, I5⟩
        have x1 : (k : Int) ≤ (nn : Int) := by omega
        have ok5 : Hid (st.fedS ((b.drop at').take nn)).Ok := by
          have hh := I5.out.str.hand
          have hl := I5.out.str.lim
          rw [← hl] at hh
          exact hh.ok (by rw [hl]; exact hL7) (by rw [hl]; exact hL6)
        obtain ⟨st5, hst5⟩ : ∃ s, s = st.fedS ((b.drop at').take nn) := ⟨_, rfl⟩
        rw [← hst5] at I5 ok5 hkw
        have htk : st5.taken ≤ 1152921504606846976 := by
          have a := I5.out.str.taken
          have b2 := I5.out.str.count.1
          have c := I5.out.str.le
          omega
        have hkwh := Lib.hid hkw
        clear hst5 FEED hkw
        gi_wp2_with fail
        have c5 : Hid (Ct w5 p S5 st5) := I5.out.ct
        refine ⟨trivial, (callsIn_wide.2 (next_any w5 p S5 st5 ok5 htk c5)).mono ?_⟩
        rintro e w6 ⟨v6, S6, rfl, o6, c6, k6, s6⟩
        by_cases hw : st5.whole = true
        · have hgot : st5.got = st5.hand := by unfold CS.got; rw [if_pos hw]
          rw [hgot] at o6
          rw [hw]
          have HW := Lib.hid hw
          have hv5 : Hid (vs.length = fr.length) := I5.out.got.len
          have hcnt : 7 * (fr.length + 1) ≤ at' + k := by
            have := (I5.out.str.next hw).1.count.1
            simpa using this
          have hle5 := I5.out.str.le
          have hgb : Hid (w6.ownsRow 0 23 1 (.slice ga vs.length gc) vs.length vs) := ownsRow_kept I5.out.got.own k6.out (fun i hi hm => I5.out.sep i (I5.out.got.blk i hi) hm)
          obtain ⟨xa, xc, rfl⟩ := own_slice o6.out
          obtain ⟨i1, hi1, hz10, hz11, hz12⟩ := info_parts info_sl
          have hvl2 : vs.length + 1 ≤ 33554433 := by have := hv5.out; omega
          clear hw hgot c5
          gi_wp2_with (gi_at_builtin; refine wpListIn_append_src (w6.alloc (.cells #[.slice xa st5.hand.length xc] 23)) rfl (.tmp 111) (.tmp 113) 26 rfl 0 23 i1 (.slice none 0 0) 1 24 Try.underlying26 hi1 hz10 hz11 hz12 rfl (by decide) (.slice ga vs.length gc) vs.length vs rfl (hgb.out.alloc _) (.slice (some ⟨w6.heap.size, 0, none⟩) 1 1) 1 [.slice xa st5.hand.length xc] rfl (Or.inr ⟨_, _, rfl, World.news_of_block (cs := #[.slice xa st5.hand.length xc]) (by exact heap_alloc_new w6 _)⟩) rfl (by intro u hu; simp at hu; subst hu; rfl) (by unfold maxLen; omega) (by omega) (Nat.zero_le _) ?_; intro v7 w7 hown7 hgrow7 hat7; have I7 := Lib.hid (I5.out.nexted hpw hCB.out K3.out.size HW.out c6.out k6.out s6.out o6.out ((Kept.refl [] w6).alloc _) rfl hown7 hgrow7 hat7); obtain ⟨ya, yc, rfl⟩ := own_slice hown7; clear hown7 hgrow7 hat7)
          go_roundw
          case rel => exact ⟨at' + k, i + 1, _, _, S6, _, _, _, rfl, by go_num, by go_num, by have := HI2.out; have := HI1.out; have := HQ1.out; omega, by omega, by have := HI2.out; simp; omega, I7⟩
          case measure => simp [intOf, lenOf]; have := HI2.out; have := HQ1.out; have := HVL.out; omega
        · have hw' : st5.whole = false := by simpa using hw
          have hgot : st5.got = [] := by unfold CS.got; rw [if_neg hw]
          have hnx : st5.next = st5 := by unfold CS.next; rw [if_neg hw]
          rw [hgot] at o6
          rw [hnx] at c6
          rw [hw']
          obtain ⟨xa, xc, rfl⟩ := own_slice o6.out
          rw [show (List.length ([] : List UInt8)) = 0 from rfl]
          have I6 := Lib.hid (I5.out.turn hpw hCB.out K3.out.size I5.out.str c6.out k6.out (fun i hi => Or.inl (s6.out i hi)))
          by_cases hkn2 : k < nn
          · have x2 : (k : Int) < (nn : Int) := by omega
            have hdead : st5.dead = true := by
              rcases hkwh.out hkn2 with h | h
              · rw [hw'] at h; cases h
              · exact h
            have HD := Lib.hid hdead
            clear hw hw' hgot hnx hdead c5 hkn2
            gi_wp2_with fail
            exact HKM.out _ _ (at' + k) _ _ _ _ _ _ _ _ _ _ _ _ _ _ _ _ _ _ _ _ _ _ _ _ _ _ _ _ _ _ _ _ _ _ _ _ _ _ _ _ _ _ _ _ _ _ _ _ _ _ _ _ _ _ _ _ _ _ _ _ _ _ _ _ _ _ _ _ _ _ _ _ _ _ fr st5 S6 vs T _ I6 (Or.inr HD.out) (by go_num)
          · have x2 : ¬ (k : Int) < (nn : Int) := by omega
            clear hw hw' hgot hnx c5
            gi_wp2_with fail
            go_roundw
            case rel => exact ⟨at' + k, i + 1, fr, st5, S6, _, vs, T, rfl, by go_num, by go_num, by have := HI2.out; have := HI1.out; have := HQ1.out; omega, by omega, by have := HI2.out; omega, I6⟩
            case measure => simp [intOf, lenOf]; have := HI2.out; have := HQ1.out; have := HVL.out; omega
    · have j3 : ¬ (at' : Int) < (b.length : Int) := by omega
      clear hvl q1 q2 q3
      gi_wp2_with fail
      exact HKM.out _ _ at' _ _ _ _ _ _ _ _ _ _ _ _ _ _ _ _ _ _ _ _ _ _ _ _ _ _ _ _ _ _ _ _ _ _ _ _ _ _ _ _ _ _ _ _ _ _ _ _ _ _ _ _ _ _ _ _ _ _ _ _ _ _ _ _ _ _ _ _ _ _ _ _ _ _ fr st S vs T _ I (Or.inl (by omega)) rfl
end Law
end Go.Proofs.Ytndhbegekicfaaa
