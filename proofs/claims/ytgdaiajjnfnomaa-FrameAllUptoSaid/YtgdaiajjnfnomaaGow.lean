/- The law's goes walked: what All goes through, left early or not, again and within. -/
import Derived.Test.YtgdaiajjnfnomaaGos
import Derived.Test.YtgdaiajjnfnomaaLnt
import Derived.RangeFuncLeaves
import Derived.Shelf.RegionOpen
import Derived.Outline
namespace Go.Proofs.Ytgdaiajjnfnomaa
set_option linter.unusedVariables false
open Go.RowKit Go.Shelf
attribute [local go_sem] Oper.semAt_some
namespace Law
open Cut Lst

/-- What goes leaves. -/
def GoesOut (w : World) (k : Nat) (col : Nat → Nat) (N : Nat) (F : List (List UInt8)) (most : Int) (e : Ending) (w' : World) : Prop :=
  ∃ ov vs T c, e = .returned (.tuple #[ov, .bool true]) ∧ Hid (FrL w' ov vs (takeM most F) T) ∧ Hid (Bkd w' k c (N + 10 * F.length)) ∧ Hid (Fr w col w' c 0) ∧ Hid (∀ b ∈ T, w.heap.size ≤ b ∧ c b = 8)

set_option maxHeartbeats 16000000 in
set_option maxRecDepth 100000 in
theorem goes_walk (w : World) (k : Nat) (col : Nat → Nat) (N n : Nat) (a : Option Addr) (cp : Nat) (bs : List UInt8) (T : List Nat) (most : Int) (hN : N ≤ 100000000) (hsz : bs.length ≤ 1048576) (hn : n ≤ 4294967295) (hm1 : -9223372036854775808 ≤ most) (hm2 : most ≤ 9223372036854775807)
    (hb : Hid (Src w (.slice a bs.length cp) bs T)) (hB : Hid (Bkd w k col N)) :
    Calls Try.prog 6 #[.slice a bs.length cp, .int .u32 n, .int .i64 most, .pointer (some ⟨k, 0, none⟩)] w (GoesOut w k col N (framesOf n bs) most) := by
  refine (callsIn_wide (n := 6)).1 ?_
  refine callsIn_of_wp_marks Try.func6 rfl trivial ?_ rfl
  simp only [Try.ntmps6, List.size_toArray, List.length_cons, List.length_nil, Nat.reduceAdd, Nat.reduceSub, Array.replicate_succ, Array.replicate_zero, List.push_toArray, List.append_toArray, List.nil_append, List.cons_append]
  obtain ⟨P0, h0⟩ : ∃ P, P = w.heap.size := ⟨_, rfl⟩
  obtain ⟨P1, h1⟩ : ∃ P, P = w.heap.size + 1 := ⟨_, rfl⟩
  obtain ⟨P2, h2⟩ : ∃ P, P = w.heap.size + 1 + 1 := ⟨_, rfl⟩
  obtain ⟨P3, h3⟩ : ∃ P, P = w.heap.size + 1 + 1 + 1 := ⟨_, rfl⟩
  obtain ⟨O, h4⟩ : ∃ P, P = w.heap.size + 1 + 1 + 1 + 1 := ⟨_, rfl⟩
  obtain ⟨w0, hw0⟩ : ∃ W, W = ((((w.alloc (.cells #[.int .i64 most] 3)).alloc (.cells #[.pointer (some ⟨k, 0, none⟩)] 25)).alloc (.cells #[.slice none 0 0] 26)).alloc (.cells #[.bool false] 4)).alloc (.cells #[.slice none 0 0] 26) := ⟨_, rfl⟩
  obtain ⟨BX0, O0, K0, Z0⟩ := Bxs.start w k most h0 h1 h2 h3 h4 hw0
  have PZ := Lib.hid (And.intro h0 (And.intro h1 (And.intro h2 (And.intro h3 h4))))
  have HW0 := Lib.hid hw0
  have BX := Lib.hid BX0
  have OB := Lib.hid O0
  have K0h := Lib.hid K0
  have Z0h := Lib.hid Z0
  clear hw0 BX0 O0 K0 Z0 h0 h1 h2 h3 h4
  gi_wp2_with fail
  rw [← HW0.out, ← PZ.out.2.2.2.2, ← PZ.out.2.2.2.1, ← PZ.out.2.2.1, ← PZ.out.2.1, ← PZ.out.1]
  have hb0 : Hid (Src w0 (.slice a bs.length cp) bs T) := hb.out.kept K0h.out (fun _ _ hm => by simp at hm)
  refine ⟨trivial, (callsIn_wide.2 (lent_any w0 _ bs T (by omega) hb0)).mono ?_⟩
  rintro e w1 ⟨iv', rfl, hi1, k1⟩
  obtain ⟨g, c, rfl, hg0, hg1, hgc, hgm, hrow⟩ := own_marked hi1.out
  have HROW := Lib.hid hrow
  have SG1 : Hid (Seg w1 (.slice (some ⟨g, 0, none⟩) bs.length c) bs [g]) := marked_seg hrow
  have K1 := Lib.hid k1
  clear hrow hi1 k1 hb0
  gi_wp2_with fail
  refine ⟨trivial, (callsIn_wide.2 (all_out w1 _ bs [g] n n rfl (by omega) SG1.out.src)).mono ?_⟩
  rintro e w2 ⟨B1, B2, pf, va, rfl, hca, k2, far2⟩
  have hq : ∀ w', (binOp BinOp.eql 47 (.func (.func 30) #[] #[.pointer (some ⟨B1, 0, none⟩), .pointer (some ⟨B2, 0, none⟩)]) .nilFunc).run Try.prog w' = .ok (.bool false) w' := fun _ => by kernel_rfl
  have K2 := Lib.hid k2
  clear k2 SG1
  gi_wp2_with fail
  obtain ⟨Q, hQ⟩ : ∃ Q, Q = w2.heap.size := ⟨_, rfl⟩
  obtain ⟨w3, hw3⟩ : ∃ W, W = w2.alloc (.cells #[.func (.func 30) #[] #[.pointer (some ⟨B1, 0, none⟩), .pointer (some ⟨B2, 0, none⟩)]] 47) := ⟨_, rfl⟩
  have k3 : Kept [] w2 w3 := by rw [hw3]; exact (Kept.refl _ _).alloc _
  have hQ3 : w3.heap[Q]? = some (.cells #[.func (.func 30) #[] #[.pointer (some ⟨B1, 0, none⟩), .pointer (some ⟨B2, 0, none⟩)]] 47 (0, 0)) := by rw [hw3]; exact alloc_at _ hQ
  have hz3 : w3.heap.size = w2.heap.size + 1 := by rw [hw3]; simp
  rw [← hw3, ← hQ]
  clear hw3
  have nn : ∀ {U : List Nat}, ∀ i ∈ U, i ∉ ([] : List Nat) := fun i _ hm => by simp at hm
  have k13 : Kept [] w1 w3 := K2.out.trans k3 (fun i hi => by simp at hi)
  have k03 : Kept [] w w3 := (K0h.out.trans K1.out (fun i hi => by simp at hi)).trans k13 (fun i hi => by simp at hi)
  have hro3 : Hid (w3.ownsRow 0 5 1 (.slice (some ⟨g, 0, none⟩) (bs.length + 3) c) (bs.length + 3) ((marked bs).map bv)) := ownsRow_kept HROW.out k13 (fun k _ hm => by simp at hm)
  have hb3 : Hid (Src w3 (.slice a bs.length cp) bs T) := hb.out.kept k03 nn
  have HK3 := Lib.hid hQ3
  have HZ3 := Lib.hid hz3
  have HQ := Lib.hid hQ
  have K13 := Lib.hid k13
  have K03 := Lib.hid k03
  have K3 := Lib.hid k3
  clear hQ3 hz3 hQ k13 k03 k3 HROW
  refine ⟨trivial, (callsIn_wide.2 (kept_true w3 g c _ bs T (by omega) hro3 hb3)).mono ?_⟩
  rintro e w4 ⟨rfl, k4⟩
  have zz0 := K0h.out.size
  have zz1 := K1.out.size
  have zz2 := K2.out.size
  have zz4 := k4.size
  have z0 : w0.heap.size = w.heap.size + 5 := Z0h.out
  have z3 : w3.heap.size = w2.heap.size + 1 := HZ3.out
  have q2 : Q = w2.heap.size := HQ.out
  obtain ⟨p0, p1, p2, p3, p4⟩ := PZ.out
  have K04 : Hid (Kept [] w w4) := K03.out.trans k4 (fun i hi => Or.inr (by simp at hi; omega))
  have BX4 : Hid (Bxs k most P0 P1 P2 P3 w4) := (BX.out.kept ((K1.out.trans K13.out (fun i hi => by simp at hi))) (fun b hb => by simp at hb)).kept k4 (fun b hb hlt => by simp at hb; omega)
  have OB4 : Hid (w4.heap[O]? = some (.cells #[.slice none 0 0] 26 (0, 0))) :=
    (k4.block O (by omega) (by simp; omega)).trans ((K13.out.block O (by omega) (by simp)).trans ((K1.out.block O (by omega) (by simp)).trans OB.out))
  have FQ4 : Hid (w4.heap[Q]? = some (.cells #[.func (.func 30) #[] #[.pointer (some ⟨B1, 0, none⟩), .pointer (some ⟨B2, 0, none⟩)]] 47 (0, 0))) := (k4.block Q (by omega) (by simp; omega)).trans HK3.out
  have CA4 : Hid (Caught w4 B1 B2 n (limB n) bs pf va) := by
    have h3 := hca.out.kept K3.out (by simp) (by simp) (by simp) (fun _ _ hm => by simp at hm)
    have f2 := far2.out
    refine h3.kept k4 ?_ ?_ ?_ (fun i hi => ?_)
    · have := f2 B1 (by simp); simp; omega
    · have := f2 B2 (by simp); simp; omega
    · have := f2 pf (by simp); simp; omega
    · have := f2 i (by simp [hi]); simp; omega
  have VA4 : Hid (∀ i ∈ va.ownBlock.toList, w.heap.size ≤ i ∧ i < w4.heap.size ∧ i ≠ O) := fun i hi => by
    have h1 := far2.out i (by simp at hi; simp [hi])
    have h2 := (CA4.out.own.lt i (by simpa using hi)).2
    exact ⟨by omega, h2, by omega⟩
  have FA4 : Hid (∀ b ∈ B1 :: B2 :: pf :: va.ownBlock.toList, w.heap.size ≤ b ∧ b ≠ O) := fun b hb => by have := far2.out b hb; omega
  have BK4 : Hid (Bkd w4 k (onto w col 10) N) := hB.out.turn K04.out (fun b hb => by cases hb) (fun b hb _ => onto_old hb)
  have hO4 : O < w4.heap.size := by omega
  have hOw : w.heap.size ≤ O := by omega
  have hQ4 : Q < w4.heap.size := by omega
  have hQw : w.heap.size ≤ Q ∧ Q ≠ O := by omega
  have hPw : Hid (∀ b ∈ [P0, P1, P2, P3], w.heap.size ≤ b ∧ b < w4.heap.size ∧ b ≠ O) := fun b hb => by simp at hb; omega
  have cQ : w4.cell? ⟨Q, 0, none⟩ = some (.func (.func 30) #[] #[.pointer (some ⟨B1, 0, none⟩), .pointer (some ⟨B2, 0, none⟩)]) := by rw [cell_of_row w4 Q 0 _ _ (0, 0) FQ4.out]; rfl
  clear k4 zz0 zz1 zz2 zz4 z0 z3 q2 p0 p1 p2 p3 p4 hro3 hb3 HK3 HZ3 HQ K13 K03 K3 hca far2 K1 K2 BX OB K0h HW0 Z0h PZ hg0 hg1
  gi_wp2_with fail
  obtain ⟨F, hF⟩ : ∃ F, F = framesOf n bs := ⟨_, rfl⟩
  have IT := Lib.hid (fun m0 => iter_any m0 w4 B1 B2 n pf bs va (by omega) CA4)
  rw [← hF] at IT ⊢
  have HF := Lib.hid hF
  have FF : Hid ((∀ f ∈ F, 7 ≤ f.length ∧ f.length ≤ bs.length) ∧ F.length ≤ bs.length) := by rw [hF]; exact framesOf_facts n bs
  obtain ⟨i0, hi, hz0, hz1, hz2⟩ := info_parts info_u8
  obtain ⟨i1, hi1, hz10, hz11, hz12⟩ := info_parts info_sl
  clear hF hq
  obtain ⟨c4, hc4⟩ : ∃ c4, c4 = onto w col 10 := ⟨_, rfl⟩
  rw [← hc4] at BK4
  have HC4 : Hid (∀ b, w.heap.size ≤ b → c4 b = 10) := fun b hb => by rw [hc4]; exact onto_new hb
  have HC4o : Hid (∀ b, b < w.heap.size → c4 b = col b) := fun b hb => by rw [hc4]; exact onto_old hb
  have hOc : c4 O = 10 := HC4.out O hOw
  clear hc4
  refine wpIn_rangeFunc_break (sl := 14) rfl (by decide) rfl trivial (enters_of Try.func30 (by kernel_rfl) rfl) (IT.out 2) (Kept.refl [] w4) (fun i hi => (VA4.out i hi).2.1) (G1 w4 c4 k O N most) (X1 w4 c4 k O N most F)
    (fun Rs Rs' s A B h k g => h.turn hO4 k g) (fun _ _ h k => h.turn hO4 k) (fun Rs W' h1 h2 h3 => G1.start BK4.out OB4.out h2 h3 h1 (by omega)) ?assign ?body (fun Rs xs W h hs => h.done hs) ?rest
  case assign =>
    intro l x W K hK
    gi_wp2_with fail
    exact hK
  case body =>
    rintro l Rs pre ⟨xv, xb⟩ A Wb W hRs hA hiA hib hAW hgv hWW hC
    obtain ⟨ov, vs, T1, c1, gb, go, gm, hx0, hxc⟩ := hiA.give hO4 hAW hgv hWW
    have cO : W.cell? ⟨O, 0, none⟩ = some ov := by rw [cell_of_row W O 0 _ _ (0, 0) go.box]; rfl
    have hx0 : Own W 0 xv xb := hx0
    obtain ⟨oa, oc, rfl⟩ := own_slice go.out.own
    obtain ⟨xa, xc, rfl⟩ := own_slice hx0
    have GB1 := Lib.hid gb
    have GO1 := Lib.hid go
    have HX0 := Lib.hid hx0
    have HXC := Lib.hid hxc
    have GM := Lib.hid gm
    have HC := Lib.hid hC
    have hlen : pre.length + 1 ≤ F.length := by have := hC.length_le; simpa using this
    have hxF : xb ∈ F := by
      obtain ⟨t, ht⟩ := hC
      rw [← ht]
      simp
    have hxl : 7 ≤ xb.length ∧ xb.length ≤ 1048576 := by have := FF.out.1 xb hxF; omega
    have hvl : vs.length ≤ 1048576 := by have := go.out.len; rw [List.length_map] at this; have := FF.out.2; omega
    have HLEN := Lib.hid hlen
    have XS : Hid (RowSrc W (.slice xa xb.length xc) xb.length (xb.map bv)) := (Src.of_own hx0).rowsrc
    clear hiA hib hAW hgv hWW hC gb go hx0 hxc gm hRs hA hlen hxF
    have HP7 : Hid (∀ b ∈ [P0, P1, P2, P3], 7 ≤ c4 b ∧ b ∉ [O]) := fun b hb => by
      have h := hPw.out b hb
      exact ⟨by rw [HC4.out b h.1]; decide, by simp; exact h.2.2⟩
    gi_wp2_with (first
      | (gi_at_builtin; refine wpListIn_append_src W rfl (.tmp 33) (.tmp 34) 22 rfl W.heap.size 5 i0 (.int .u8 0) 1 1 Try.underlying22 hi hz0 hz1 hz2 rfl (by decide) (.slice none 0 0) 0 [] rfl (World.ownsRow_nil _ _ _ _) (.slice xa xb.length xc) xb.length (xb.map bv) rfl XS.out (by rw [List.length_map]; omega) (by intro u hu; obtain ⟨b, -, rfl⟩ := List.mem_map.1 hu; rfl) (by unfold maxLen; omega) (by omega) (Nat.le_refl _) ?_; intro v1 w5 hown hgrow hat; have O1 : Hid (Own w5 W.heap.size v1 xb) := (by have := hown; rw [Nat.zero_add, List.nil_append] at this; exact this); have K1 : Hid (Kept [] W w5) := (Kept.refl [] W).grown hgrow (fun k e => by cases e); clear hown hgrow hat; obtain ⟨ya, yc, rfl⟩ := own_slice O1.out; have cO5 : w5.cell? ⟨O, 0, none⟩ = some (.slice oa vs.length oc) := (by rw [cell_of_row w5 O 0 _ _ (0, 0) ((K1.out.block O (block_lt GO1.out.box) (by simp)).trans GO1.out.box)]; rfl))
      | (gi_at_builtin; refine wpListIn_append_src (w5.alloc (.cells #[.slice ya xb.length yc] 22)) rfl (.tmp 36) (.tmp 38) 26 rfl 0 22 i1 (.slice none 0 0) 1 24 Try.underlying26 hi1 hz10 hz11 hz12 rfl (by decide) (.slice oa vs.length oc) vs.length vs rfl ((ownsRow_kept GO1.out.out.own K1.out (fun _ _ hm => by simp at hm)).alloc _) (.slice (some ⟨w5.heap.size, 0, none⟩) 1 1) 1 [.slice ya xb.length yc] rfl (Or.inr ⟨_, _, rfl, World.news_of_block (cs := #[.slice ya xb.length yc]) (by exact heap_alloc_new w5 _)⟩) rfl (by intro u hu; simp at hu; subst hu; rfl) (by unfold maxLen; omega) (by omega) (Nat.zero_le _) ?_; intro v2 w6 hown2 hgrow2 hat2; obtain ⟨T2, gb2, go2, hx2, hxc2, kk2, bo2⟩ := GB.pushed hO4 hOc GB1.out GO1.out HX0.out HXC.out O1.out K1.out rfl hown2 hgrow2 hat2; have GB2 := Lib.hid gb2; have GO2 := Lib.hid go2; have HX2 := Lib.hid hx2; have HXC2 := Lib.hid hxc2; have KK2 := Lib.hid kk2; have cO6 : w6.cell? ⟨O, 0, none⟩ = some (.slice oa vs.length oc) := (by rw [cell_of_row w6 O 0 _ _ (0, 0) bo2]; rfl); have fO6 := frozen_blk bo2; obtain ⟨za, zc, rfl⟩ := own_slice hown2; have BX6 := Lib.hid (GB2.out.bxs BX4.out HP7.out); have cB6 : (w6.setCell ⟨O, 0, none⟩ (.slice za (vs.length + 1) zc)).cell? ⟨P1, 0, none⟩ = some (.pointer (some ⟨k, 0, none⟩)) := (by rw [cell_of_row _ P1 0 _ _ (0, 0) BX6.out.b]; rfl); clear gb2 go2 hx2 hxc2 kk2 hown2 hgrow2 hat2 bo2))
    have OW := Lib.hid (Bk.owns_any _ k _ (N + 5 * pre.length) _ xb (by have := HLEN.out; have := FF.out.2; omega) (by omega) HX2 (fun b hb => (HXC2.out b hb).1) GB2.out.bk)
    have hvs : (vs ++ [Value.slice ya xb.length yc]).length = vs.length + 1 := by simp
    obtain ⟨W6, hW6⟩ : ∃ W6, W6 = w6.setCell ⟨O, 0, none⟩ (.slice za (vs.length + 1) zc) := ⟨_, rfl⟩
    rw [← hW6] at GB2 GO2 HX2 HXC2 BX6 KK2 OW ⊢
    clear hW6 cO5 cO6 fO6 cB6 O1 K1 XS HX0 HXC
    refine ⟨trivial, (CallsIn.inRound l (callsIn_wide.2 OW.out)).mono ?_⟩
    rintro e w7 ⟨rfl, c7, bk7, sk7, sm7⟩
    obtain ⟨S7, k7, hS7⟩ := sk7.out
    obtain ⟨gb7, go7⟩ := GB.took hO4 hOc GB2.out GO2.out HXC2.out bk7.out k7 hS7 sm7.out
    have OUT := Lib.hid (GB.outside GB1.out GO1.out hO4 (fun i hi => ⟨(VA4.out i hi).2.1, (VA4.out i hi).2.2, HC4.out i (VA4.out i hi).1⟩) KK2.out k7 hS7)
    have BX7 := gb7.bxs BX4.out HP7.out
    have cO7 : w7.cell? ⟨O, 0, none⟩ = some (.slice za (vs.length + 1) zc) := by rw [cell_of_row w7 O 0 _ _ (0, 0) go7.box]; rfl
    have cM7 : w7.cell? ⟨P0, 0, none⟩ = some (.int .i64 most) := by rw [cell_of_row w7 P0 0 _ _ (0, 0) BX7.m]; rfl
    have hvp : vs.length = pre.length := by have := GO1.out.out.len; rw [List.length_map] at this; exact this
    by_cases hmo : (pre.length : Int) + 1 = most
    · have XX := Lib.hid (X1.of gb7 go7 HC.out hmo)
      have hmo2 : (vs.length : Int) + 1 = most := by omega
      clear gb7 go7 BX7 k7 hS7 bk7 sk7 sm7 OW GB2 GO2 HX2 HXC2 BX6 KK2 hvp hmo
      gi_wp2_with fail
      obtain ⟨U, ku, hu⟩ := OUT.out
      exact ⟨⟨U, ku, fun b hb => (hu b hb).2⟩, rfl, XX.out⟩
    · have XX := Lib.hid (G1.of (x := (Value.slice xa xb.length xc, xb)) gb7 go7 (most := most) (by have := GM.out; omega))
      have hmo2 : ¬ (vs.length : Int) + 1 = most := by omega
      clear gb7 go7 BX7 k7 hS7 bk7 sk7 sm7 OW GB2 GO2 HX2 HXC2 BX6 KK2 hvp hmo
      gi_wp2_with fail
      obtain ⟨U, ku, hu⟩ := OUT.out
      exact ⟨⟨U, ku, hu⟩, XX.out⟩
  case rest =>
    rintro W ⟨ov, vs, T1, c1, gb, go⟩ hd
    have BXW := gb.bxs BX4.out (fun b hb => by have h := hPw.out b hb; exact ⟨by rw [HC4.out b h.1]; decide, by simp; exact h.2.2⟩)
    have FQW := gb.keep FQ4.out (by rw [HC4.out Q hQw.1]; decide) (by simp; exact hQw.2)
    have hzW := gb.big
    obtain ⟨P, hP⟩ : ∃ P, P = W.heap.size := ⟨_, rfl⟩
    obtain ⟨w9, hw9⟩ : ∃ w9, w9 = W.alloc (.cells #[.int .i64 0] 3 (0, 0)) := ⟨_, rfl⟩
    have k9 : Kept [] W w9 := by rw [hw9]; exact (Kept.refl _ _).alloc _
    have P9 : w9.heap[P]? = some (.cells #[.int .i64 0] 3 (0, 0)) := by rw [hw9]; exact alloc_at _ hP
    have z9 : w9.heap.size = W.heap.size + 1 := by rw [hw9]; simp
    have cQ9 : (W.alloc (.cells #[.int .i64 0] 3)).cell? ⟨Q, 0, none⟩ = some (.func (.func 30) #[] #[.pointer (some ⟨B1, 0, none⟩), .pointer (some ⟨B2, 0, none⟩)]) := by rw [← hw9, cell_of_row w9 Q 0 _ _ (0, 0) ((k9.block _ (block_lt FQW) (by simp)).trans FQW)]; rfl
    have HW9 := Lib.hid hw9
    have HPP := Lib.hid hP
    have K9 := Lib.hid k9
    have HP9 := Lib.hid P9
    have HZ9 := Lib.hid z9
    have GBW := Lib.hid gb
    have GOW := Lib.hid go
    have BXWh := Lib.hid BXW
    have FQWh := Lib.hid FQW
    have HDW := Lib.hid hd
    have HZW := Lib.hid hzW
    clear hw9 hP k9 P9 z9 gb go BXW FQW hd hzW cQ
    gi_wp2_with fail
    rw [← HW9.out, ← HPP.out]
    obtain ⟨c9, hc9⟩ : ∃ c9, c9 = onto W c1 10 := ⟨_, rfl⟩
    have C9o : Hid (∀ b, b < W.heap.size → c9 b = c1 b) := fun b hb => by rw [hc9]; exact onto_old hb
    have C9n : Hid (∀ b, W.heap.size ≤ b → c9 b = 10) := fun b hb => by rw [hc9]; exact onto_new hb
    have BK9 : Hid (Bkd w9 k c9 (N + 5 * F.length)) := GBW.out.bk.turn K9.out (fun b hb => by cases hb) (fun b hb _ => C9o.out b hb)
    have hP9 : P < w9.heap.size := block_lt HP9.out
    have hPc : c9 P = 10 := C9n.out P (by rw [HPP.out]; exact Nat.le_refl _)
    -- what was there and is none of the range's
    have OLD : Hid (∀ b, w.heap.size ≤ b → b < w4.heap.size → c9 b = 10 ∧ b < w9.heap.size ∧ b ≠ P) := fun b h1 h2 => by
      have a := HZW.out
      have a2 := HZ9.out
      have a3 := HPP.out
      have e := GBW.out.same b h2 (by rw [HC4.out b h1]; decide)
      exact ⟨by rw [C9o.out b (by omega), e]; exact HC4.out b h1, by omega, by omega⟩
    have CA9 : Hid (Caught w9 B1 B2 n (limB n) bs pf va) := (GBW.out.caught CA4.out (fun b hb => by have h := FA4.out b (mem_skip hb); exact ⟨by rw [HC4.out b h.1]; decide, by simp; exact h.2⟩) (fun _ => by have h := FA4.out pf (by simp); exact ⟨by rw [HC4.out pf h.1]; decide, by simp; exact h.2⟩)).kept K9.out (by simp) (by simp) (by simp) (fun _ _ hm => by simp at hm)
    have CO9 : Hid ((∀ b ∈ B1 :: B2 :: va.ownBlock.toList, 7 ≤ c9 b ∧ b ∉ [P]) ∧ (limB n = true → 7 ≤ c9 pf ∧ pf ∉ [P])) := by
      refine ⟨fun b hb => ?_, fun hl => ?_⟩
      · have h := FA4.out b (mem_skip hb)
        have hlt : b < w4.heap.size := by
          simp only [List.mem_cons, Option.mem_toList] at hb
          rcases hb with rfl | rfl | hb
          · exact block_lt CA4.out.b1
          · exact block_lt CA4.out.b2
          · exact (CA4.out.own.lt b hb).2
        have h2 := OLD.out b h.1 hlt
        exact ⟨by omega, by simp; exact h2.2.2⟩
      · have h := FA4.out pf (by simp)
        have h2 := OLD.out pf h.1 (block_lt (CA4.out.pt hl))
        exact ⟨by omega, by simp; exact h2.2.2⟩
    have BX9 : Hid (Bxs k most P0 P1 P2 P3 w9) := BXWh.out.kept K9.out (fun b hb => by cases hb)
    have FQ9 : Hid (w9.heap[Q]? = some (.cells #[.func (.func 30) #[] #[.pointer (some ⟨B1, 0, none⟩), .pointer (some ⟨B2, 0, none⟩)]] 47 (0, 0))) := (K9.out.block _ (block_lt FQWh.out) (by simp)).trans FQWh.out
    clear hc9
    refine wpIn_rangeFunc_breakH rfl (by decide) rfl trivial (enters_of Try.func30 (by kernel_rfl) rfl) (iter_any 2 w9 B1 B2 n pf bs va (by omega) CA9) (Kept.refl [] w9) (fun i hi => by have h := VA4.out i hi; exact (OLD.out i h.1 h.2.1).2.1) (G2 w9 c9 k P (N + 5 * F.length)) (X2 w9 c9 k P (N + 10 * F.length))
      (fun Rs Rs' s A B h k g => h.turn hP9 k g) (fun _ _ h k => h.turn k) (fun Rs W' h1 h2 h3 => G2.start BK9.out HP9.out h2 h3 h1) ?assign2 ?body2 (fun Rs xs W h hs => h.done (by omega)) ?rest2
    case assign2 =>
      intro l x W K hK
      gi_wp2_with fail
      exact hK
    case body2 =>
      rintro l Rs pre ⟨xv, xb⟩ A Wb W3 hRs hA hiA hib hAW hgv hWW hC hl hr
      obtain ⟨c2, gb, bp, hp1⟩ := hiA.give hP9 hAW hgv hWW
      rcases Nat.lt_or_ge pre.length 1 with h0 | h0
      · have e0 : (pre.length : Int) = 0 := by omega
        rw [e0] at bp
        have hpl : pre.length = 0 := by omega
        have HPL := Lib.hid hpl
        clear e0 hpl h0
        have cP : W3.cell? ⟨P, 0, none⟩ = some (.int .i64 0) := by rw [cell_of_row W3 P 0 _ _ (0, 0) bp]; rfl
        have fP := frozen_blk bp
        obtain ⟨gb', bp', kp⟩ := gb.wrote (v := .int .i64 1) hP9 hPc bp
        have cP' : (W3.setCell ⟨P, 0, none⟩ (.int .i64 1)).cell? ⟨P, 0, none⟩ = some (.int .i64 1) := by rw [cell_of_row _ P 0 _ _ (0, 0) bp']; rfl
        have GB4 := Lib.hid gb'
        have BP4 := Lib.hid bp'
        have KP4 := Lib.hid kp
        have GB3 := Lib.hid gb
        have HR := Lib.hid hr
        have HL := Lib.hid hl
        clear hiA hib hAW hgv hWW hC gb gb' bp' kp hRs hA hr hl bp hp1
        have HG : Hid (G2 w9 c9 k P (N + 5 * F.length) Rs (pre ++ [(xv, xb)]) (W3.setCell ⟨P, 0, none⟩ (.int .i64 1))) := ⟨c2, GB4.out, by rw [List.length_append, HPL.out]; exact BP4.out, by rw [List.length_append, HPL.out]; exact Nat.le_refl _⟩
        have q1 : P ∉ Rs := fun hm => by have h := (GB3.out.rc P hm).1; omega
        have q2 : P ∉ va.ownBlock.toList := fun hm => by have h := VA4.out P hm; exact (OLD.out P h.1 h.2.1).2.2 rfl
        have HX : Hid (∀ i ∈ [P], (i ∉ Rs ∧ i ∉ va.ownBlock.toList) ∧ i ≠ w9.heap.size ∧ i ≠ w9.heap.size + 1) := fun i hi => by
          rw [List.mem_singleton.1 hi]
          exact ⟨⟨q1, q2⟩, by omega, by omega⟩
        clear q1 q2
        gi_wp2_with fail
        exact ⟨⟨[P], KP4.out, HX.out⟩, HG.out⟩
      · have e0 : (pre.length : Int) = 1 := by omega
        rw [e0] at bp
        clear e0 h0
        have cP : W3.cell? ⟨P, 0, none⟩ = some (.int .i64 1) := by rw [cell_of_row W3 P 0 _ _ (0, 0) bp]; rfl
        have fP := frozen_blk bp
        obtain ⟨gb', bp', kp⟩ := gb.wrote (v := .int .i64 2) hP9 hPc bp
        have cP' : (W3.setCell ⟨P, 0, none⟩ (.int .i64 2)).cell? ⟨P, 0, none⟩ = some (.int .i64 2) := by rw [cell_of_row _ P 0 _ _ (0, 0) bp']; rfl
        have GB4 := Lib.hid gb'
        have BP4 := Lib.hid bp'
        have KP4 := Lib.hid kp
        have GB3 := Lib.hid gb
        have HR := Lib.hid hr
        have HL := Lib.hid hl
        clear hiA hib hAW hgv hWW hC gb gb' bp' kp hRs hA hr hl bp hp1
        have BX10 := Lib.hid (GB4.out.bxs BX9.out (fun b hb => by have h := hPw.out b hb; have h2 := OLD.out b h.1 h.2.1; exact ⟨by rw [h2.1]; decide, by simp; exact h2.2.2⟩))
        have cQ4 : (W3.setCell ⟨P, 0, none⟩ (.int .i64 2)).cell? ⟨Q, 0, none⟩ = some (.func (.func 30) #[] #[.pointer (some ⟨B1, 0, none⟩), .pointer (some ⟨B2, 0, none⟩)]) := by
          have h2 := OLD.out Q hQw.1 hQ4
          rw [cell_of_row _ Q 0 _ _ (0, 0) (GB4.out.keep FQ9.out (by rw [h2.1]; decide) (by simp; exact h2.2.2))]
          rfl
        clear cQ9
        gi_wp2_with fail
        obtain ⟨Wi, hWi⟩ : ∃ Wi, Wi = W3.setCell ⟨P, 0, none⟩ (.int .i64 2) := ⟨_, rfl⟩
        rw [← hWi] at GB4 KP4 BX10 ⊢
        have CAi : Hid (Caught Wi B1 B2 n (limB n) bs pf va) := GB4.out.caught CA9.out CO9.out.1 CO9.out.2
        obtain ⟨r0, hr0⟩ := HR.out
        have hri : Wi.heap[l]? = some (.loop r0) := (KP4.out.block l (block_lt hr0) (by simp; have := HL.out; omega)).trans hr0
        have VAi : Hid (∀ i ∈ va.ownBlock.toList, i < Wi.heap.size ∧ c2 i = 10) := fun i hi => by
          have h := VA4.out i hi
          have h2 := OLD.out i h.1 h.2.1
          have hz := GB4.out.big
          exact ⟨by omega, by rw [GB4.out.same i h2.2.1 (by omega)]; exact h2.1⟩
        have HP10 : Hid (∀ b ∈ [P0, P1, P2, P3], 7 ≤ c2 b ∧ b ∉ ([] : List Nat)) := fun b hb => by
          have h := hPw.out b hb
          have h2 := OLD.out b h.1 h.2.1
          exact ⟨by rw [GB4.out.same b h2.2.1 (by omega)]; omega, by simp⟩
        have FC : Hid (∀ (pre : List (Value × List UInt8)) (x : Value × List UInt8), (pre ++ [x]).map (·.2) <+: framesOf n bs → 7 ≤ x.2.length ∧ x.2.length ≤ 1048576 ∧ pre.length + 1 ≤ F.length) := fun pre x hC => by
          rw [← HF.out] at hC
          have h1 := hC.length_le
          obtain ⟨t, ht⟩ := hC
          have h2 := FF.out.1 x.2 (by rw [← ht]; simp)
          rw [List.length_map, List.length_append] at h1
          exact ⟨h2.1, by omega, h1⟩
        clear hWi cP cP' fP BP4 cQ4
        refine wpIn_rangeFunc_all (sl := 17) (l₀ := l) rfl hri (by decide) rfl trivial (enters_of Try.func30 (by kernel_rfl) rfl) ((iter_any 0 Wi B1 B2 n pf bs va (by omega) CAi).inRound l) (Kept.refl [] Wi) (fun i hi => (VAi.out i hi).1) (G3 Wi c2 k (N + 5 * F.length))
          (fun Rs Rs' s A B h k g => h.turn k g) (fun Rs W' h1 h2 h3 => G3.start GB4.out.bk h2 h3 h1) ?assign3 ?body3 ?done3
        case assign3 =>
          intro l x W K hK
          gi_wp2_with fail
          exact hK
        case body3 =>
          rintro l2 Rs2 pre2 ⟨yv, yb⟩ A2 Wb2 W5 hRs2 hA2 hiA2 hib2 hAW2 hgv2 hWW2 hC2
          obtain ⟨c3, gb3, oy, hyc⟩ := hiA2.give hAW2 hgv2 hWW2
          have oy : Own W5 0 yv yb := oy
          obtain ⟨ya, yc, rfl⟩ := own_slice oy
          obtain ⟨f1, f2, f3⟩ := FC.out pre2 (.slice ya yb.length yc, yb) hC2
          have f1 : 7 ≤ yb.length := f1
          have f2 : yb.length ≤ 1048576 := f2
          have f7 : ¬ (yb.length : Int) < 7 := by omega
          have BX11 := gb3.bxs BX10.out HP10.out
          have cB5 : W5.cell? ⟨P1, 0, none⟩ = some (.pointer (some ⟨k, 0, none⟩)) := by rw [cell_of_row W5 P1 0 _ _ (0, 0) BX11.b]; rfl
          have OW := Lib.hid (Bk.owns_any W5 k c3 (N + 5 * F.length + 5 * pre2.length) _ yb (by have := FF.out.2; omega) (by omega) (Lib.hid oy) (fun b hb => (hyc b hb).1) gb3.bk)
          have GB5 := Lib.hid gb3
          have HYC := Lib.hid hyc
          clear hiA2 hib2 hAW2 hgv2 hWW2 hC2 gb3 oy hyc hRs2 hA2 BX11 f1
          gi_wp2_with fail
          refine ⟨trivial, (CallsIn.inRound l2 (CallsIn.inRound l (callsIn_wide.2 OW.out))).mono ?_⟩
          rintro e w6 ⟨rfl, c6, bk6, sk6, sm6⟩
          obtain ⟨S6, k6, hS6⟩ := sk6.out
          have FIN := Lib.hid (GB.took3 (x := (Value.slice ya yb.length yc, yb)) VAi.out GB5.out HYC.out bk6.out k6 hS6 sm6.out)
          clear k6 hS6 bk6 sk6 sm6 OW
          gi_wp2_with fail
          exact FIN.out
        case done3 =>
          intro Rs3 xs3 W6 h3 hs3
          have hz := congrArg List.length hs3
          rw [List.length_map, ← HF.out] at hz
          obtain ⟨c6, gb6⟩ := h3
          have X6 : Hid (X2 w9 c9 k P (N + 10 * F.length) W6) := ⟨c6, (GB4.out.comp gb6).more (by omega)⟩
          obtain ⟨S6, k6, hS6⟩ := gb6.kept
          have K6 : Hid (∃ S, Kept S W3 W6 ∧ ∀ i ∈ S, i ≠ w9.heap.size ∧ i ≠ w9.heap.size + 1) := by
            refine ⟨[P] ++ S6, (KP4.out.mono (T := [P] ++ S6) (fun i hi => Or.inl (List.mem_append_left _ hi))).trans k6 (fun i hi => Or.inl (List.mem_append_right _ hi)), fun i hi => ?_⟩
            have hz := GB4.out.big
            have d0 := GB4.out.dc 0 (by decide)
            have d1 := GB4.out.dc 1 (by decide)
            rw [Nat.add_zero] at d0
            rcases List.mem_append.1 hi with q | q
            · have := List.mem_singleton.1 q; omega
            · refine ⟨fun e => ?_, fun e => ?_⟩
              · subst e
                rcases hS6 _ q (by omega) with r | r
                · omega
                · cases r
              · subst e
                rcases hS6 _ q (by omega) with r | r
                · omega
                · cases r
          simp only [Exit.inBlock]
          gi_wp2_with fail
          exact ⟨K6.out, rfl, X6.out⟩
    case rest2 =>
      rintro W6 ⟨c6, gb6⟩ hd6
      have hOP : O ≠ P := (OLD.out O hOw hO4).2.2
      have hO9 : w9.heap[O]? = some (.cells #[ov] 26 (0, 0)) := (K9.out.block O (block_lt GOW.out.box) (by simp)).trans GOW.out.box
      have bO6 := gb6.keep hO9 (by rw [(OLD.out O hOw hO4).1]; decide) (by simp; exact hOP)
      have BX6 := gb6.bxs BX9.out (fun b hb => by have h := hPw.out b hb; have h2 := OLD.out b h.1 h.2.1; exact ⟨by rw [h2.1]; decide, by simp; exact h2.2.2⟩)
      have hD9 : w9.heap[w4.heap.size]? = some (.deferred (some [])) := (K9.out.block _ (block_lt HDW.out) (by simp)).trans HDW.out
      have hz4 := HZW.out
      have d10 : c1 w4.heap.size = 10 := by have := GBW.out.dc 0 (by decide); rw [Nat.add_zero] at this; exact this
      have bD6 := gb6.keep hD9 (by rw [C9o.out _ (by omega), d10]; decide) (by simp; have := HPP.out; omega)
      have FR6 : Hid (FrL W6 ov vs (takeM most F) T1) := by
        obtain ⟨S, kk, hS⟩ := gb6.kept
        refine (GOW.out.out.kept K9.out (fun _ _ hm => by simp at hm)).kept kk (fun b hb hm => ?_)
        have h8 := (GOW.out.tc b hb).2
        have hlt := GOW.out.out.lt b hb
        have hz9 := HZ9.out
        rcases hS b hm (by omega) with q | q
        · rw [C9o.out b hlt] at q; omega
        · have := List.mem_singleton.1 q; have := HPP.out; omega
      have cO6 : W6.cell? ⟨O, 0, none⟩ = some ov := by rw [cell_of_row W6 O 0 _ _ (0, 0) bO6]; rfl
      have cR6 : W6.cell? ⟨P2, 0, none⟩ = some (.slice none 0 0) := by rw [cell_of_row W6 P2 0 _ _ (0, 0) BX6.r]; rfl
      have cX6 : W6.cell? ⟨P3, 0, none⟩ = some (.bool false) := by rw [cell_of_row W6 P3 0 _ _ (0, 0) BX6.x]; rfl
      have fR6 := frozen_blk BX6.r
      have fX6 := frozen_blk BX6.x
      have GB6 := Lib.hid gb6
      have BX6h := Lib.hid BX6
      have HD6 := Lib.hid hd6
      have HD1 := Lib.hid bD6
      obtain ⟨va6, vc6, rfl⟩ := own_slice FR6.out.own
      clear gb6 hd6 hO9 bO6 BX6 hD9 bD6 cQ9
      have hne : P2 ≠ P3 := fun e => by
        have h := BX6h.out.r
        rw [e, BX6h.out.x] at h
        cases h
      obtain ⟨Wa, hWa⟩ : ∃ Wa, Wa = W6.setCell ⟨P2, 0, none⟩ (.slice va6 vs.length vc6) := ⟨_, rfl⟩
      have ka : Kept [P2] W6 Wa := by rw [hWa]; exact (Kept.refl _ _).setCell (p := ⟨P2, 0, none⟩) (Or.inl (by simp)) _
      have ba2 : Wa.heap[P2]? = some (.cells #[.slice va6 vs.length vc6] 26 (0, 0)) := by rw [hWa]; simpa using heap_set (i := 0) (.slice va6 vs.length vc6) BX6h.out.r
      have ba3 : Wa.heap[P3]? = some (.cells #[.bool false] 4 (0, 0)) := (ka.block P3 (block_lt BX6h.out.x) (by simp; exact fun e => hne e.symm)).trans BX6h.out.x
      have cX7 : (W6.setCell ⟨P2, 0, none⟩ (.slice va6 vs.length vc6)).cell? ⟨P3, 0, none⟩ = some (.bool false) := by rw [← hWa, cell_of_row Wa P3 0 _ _ (0, 0) ba3]; rfl
      have fX7 : (W6.setCell ⟨P2, 0, none⟩ (.slice va6 vs.length vc6)).frozen? ⟨P3, 0, none⟩ = false := by rw [← hWa]; exact frozen_blk ba3
      have HWa := Lib.hid hWa
      have KA := Lib.hid ka
      have BA2 := Lib.hid ba2
      have BA3 := Lib.hid ba3
      clear hWa ka ba2 ba3 cX6 fX6
      gi_wp2_with fail
      rw [← HWa.out]
      obtain ⟨Wb, hWb⟩ : ∃ Wb, Wb = Wa.setCell ⟨P3, 0, none⟩ (.bool true) := ⟨_, rfl⟩
      have kb : Kept [P3] Wa Wb := by rw [hWb]; exact (Kept.refl _ _).setCell (p := ⟨P3, 0, none⟩) (Or.inl (by simp)) _
      have bb3 : Wb.heap[P3]? = some (.cells #[.bool true] 4 (0, 0)) := by rw [hWb]; simpa using heap_set (i := 0) (.bool true) BA3.out
      have bb2 : Wb.heap[P2]? = some (.cells #[.slice va6 vs.length vc6] 26 (0, 0)) := (kb.block P2 (block_lt BA2.out) (by simp; exact hne)).trans BA2.out
      rw [← hWb]
      have np2 := hPw.out P2 (by simp)
      have np3 := hPw.out P3 (by simp)
      have hz9 := HZ9.out
      have hzb := GB6.out.big
      have kab : Kept [P2, P3] W6 Wb := (KA.out.mono (T := [P2, P3]) (fun i hi => Or.inl (by simp at hi; simp [hi]))).trans kb (fun i hi => Or.inl (by simp at hi; simp [hi]))
      have nD2 : w9.heap.size ∉ [P2, P3] := by simp; omega
      have nD1 : w4.heap.size ∉ [P2, P3] := by simp; omega
      have bD2 : Wb.heap[w9.heap.size]? = some (.deferred (some [])) := (kab.block _ (block_lt HD6.out) nD2).trans HD6.out
      have bD1 : Wb.heap[w4.heap.size]? = some (.deferred (some [])) := (kab.block _ (block_lt HD1.out) nD1).trans HD1.out
      refine ⟨by simp, .inl ⟨_, _, rfl, run_takeDeferred bD2, ?_⟩⟩
      have bD1' : (Wb.putObj w9.heap.size (.deferred none)).heap[w4.heap.size]? = some (.deferred (some [])) := (World.putObj_heap_other (by omega)).trans bD1
      refine ⟨by simp, .inl ⟨_, _, rfl, run_takeDeferred bD1', ?_⟩⟩
      obtain ⟨W8, hW8⟩ : ∃ W8, W8 = (Wb.putObj w9.heap.size (.deferred none)).putObj w4.heap.size (.deferred none) := ⟨_, rfl⟩
      have k8 : Kept [w9.heap.size, w4.heap.size] Wb W8 := by rw [hW8]; exact ((Kept.refl _ _).putObj _ (Or.inl (by simp))).putObj _ (Or.inl (by simp))
      have n2 : P2 ∉ [w9.heap.size, w4.heap.size] := by simp; omega
      have n3 : P3 ∉ [w9.heap.size, w4.heap.size] := by simp; omega
      have c2 : W8.cell? ⟨P2, 0, none⟩ = some (.slice va6 vs.length vc6) := by rw [cell_of_row W8 P2 0 _ _ (0, 0) ((k8.block P2 (block_lt bb2) n2).trans bb2)]; rfl
      have c3 : W8.cell? ⟨P3, 0, none⟩ = some (.bool true) := by rw [cell_of_row W8 P3 0 _ _ (0, 0) ((k8.block P3 (block_lt bb3) n3).trans bb3)]; rfl
      rw [← hW8]
      have kU : Kept ([P2, P3] ++ [w9.heap.size, w4.heap.size]) W6 W8 := (kab.mono (fun i hi => Or.inl (List.mem_append_left _ hi))).trans k8 (fun i hi => Or.inl (List.mem_append_right _ hi))
      have o2 := OLD.out P2 np2.1 np2.2.1
      have o3 := OLD.out P3 np3.1 np3.2.1
      have hz4' := K04.out.size
      have hUc : ∀ b ∈ [P2, P3] ++ [w9.heap.size, w4.heap.size], c6 b = 10 ∧ w.heap.size ≤ b := fun b hb => by
        have d0 := GB6.out.dc 0 (by decide)
        rw [Nat.add_zero] at d0
        simp only [List.mem_append, List.mem_cons, List.not_mem_nil, or_false] at hb
        rcases hb with (rfl | rfl) | (rfl | rfl)
        · exact ⟨by rw [GB6.out.same _ o2.2.1 (by omega)]; exact o2.1, np2.1⟩
        · exact ⟨by rw [GB6.out.same _ o3.2.1 (by omega)]; exact o3.1, np3.1⟩
        · exact ⟨d0, by omega⟩
        · have e9 : c9 w4.heap.size = 10 := by rw [C9o.out _ (by omega)]; exact d10
          exact ⟨by rw [GB6.out.same _ (by omega) (by omega)]; exact e9, by omega⟩
      have FR8 : Hid (FrL W8 (.slice va6 vs.length vc6) vs (takeM most F) T1) := FR6.out.kept kU (fun b hb hm => by
        have h8 := (GOW.out.tc b hb).2
        have hlt := GOW.out.out.lt b hb
        have e := hUc b hm
        have e9 : c9 b = 8 := by rw [C9o.out b hlt]; exact h8
        rw [GB6.out.same b (by omega) (by omega)] at e
        omega)
      have BK8 : Hid (Bkd W8 k c6 (N + 10 * F.length)) := GB6.out.bk.turn kU (fun b hb _ => by have := hUc b hb; omega) (fun b _ _ => rfl)
      have FR : Hid (Fr w col W8 c6 0) := Fr.of2 K04.out HC4o.out GBW.out hOw K9.out C9o.out GB6.out (by have := HPP.out; omega) kU (fun b hb => (hUc b hb).2)
      have TT : Hid (∀ b ∈ T1, w.heap.size ≤ b ∧ c6 b = 8) := fun b hb => by
        have h := GOW.out.tc b hb
        have hlt := GOW.out.out.lt b hb
        have e9 : c9 b = 8 := by rw [C9o.out b hlt]; exact h.2
        exact ⟨by omega, by rw [GB6.out.same b (by omega) (by omega)]; exact e9⟩
      refine ⟨.tuple #[.slice va6 vs.length vc6, .bool true], ?_, ?_⟩
      · simp [results, Try.f6, go_sem, c2, c3]
      · rw [← HF.out]
        exact ⟨_, _, _, _, rfl, FR8, BK8, FR, TT⟩
end Law
end Go.Proofs.Ytgdaiajjnfnomaa
