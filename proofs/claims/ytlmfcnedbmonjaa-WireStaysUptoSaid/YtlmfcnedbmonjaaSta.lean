/- The law WireStays walked: over steps that lie there. -/
import Derived.Test.YtlmfcnedbmonjaaMch
import Derived.Test.YtlmfcnedbmonjaaWrg
namespace Go.Proofs.Ytlmfcnedbmonjaa
set_option linter.unusedVariables false
open Go.RowKit
namespace Sta
open Go.Proofs.Ytlmfcnedbmonjaa.Txt

/-- The list of steps at which a slice leads. -/
structure In (w : World) (a : Option Addr) (cap b off : Nat) (ops : List Stp) (bs : Nat → List UInt8) (T : List Nat) : Prop where
  n : ops.length ≤ 1048576
  a : 0 < ops.length → a = some ⟨b, off, none⟩ ∧ ops.length ≤ cap
  ops : Ops w b off ops bs T

theorem two_left {w w1 : World} {p q : Nat} {S R : List Nat} {st st' sv : WS} (h : Two w p q S R st sv) (h1 : Out 96 w p S st' w1) : TwoOut w p q S R st' sv w1 := by
  obtain ⟨S', H⟩ := h.half h1
  exact ⟨S', R, ⟨H.out.a, H.out.b, H.out.apart⟩, H.out.kept.mono (fun i hi => Or.inl (List.mem_append_left _ hi)), fun i hi => by
    rcases List.mem_append.1 hi with m | m
    · rcases H.out.sub i m with n | n
      · exact Or.inl (List.mem_append_left _ n)
      · exact Or.inr n
    · exact Or.inl (List.mem_append_right _ m)⟩

/-- Writers, book and reader, all of them made by the call itself. -/
structure Inv (w : World) (p q k r : Nat) (Tr : List Nat) (rs : RS) (S R B : List Nat) (n : Nat) (st sv : WS) (wr : World) : Prop where
  play : Play wr p q S R st sv k B n
  rd : Rd wr r Tr rs
  tlt : ∀ i ∈ Tr, i < wr.heap.size
  far : ∀ i ∈ (S ++ R) ++ B, w.heap.size ≤ i ∧ i ≠ r ∧ i ∉ Tr
  rfar : w.heap.size ≤ r
  tfar : ∀ i ∈ Tr, w.heap.size ≤ i
  kept : Kept [] w wr
  ok : st.Ok
  fit : st.Fit
  okv : sv.Ok
  fitv : sv.Fit
theorem Inv.pure {w wr w' : World} {p q k r : Nat} {Tr : List Nat} {rs : RS} {S R B : List Nat} {n : Nat} {st sv : WS} (h : Inv w p q k r Tr rs S R B n st sv wr) (hk : Kept [] wr w') : Inv w p q k r Tr rs S R B n st sv w' :=
  ⟨h.play.kept hk (fun i _ hm => by simp at hm), h.rd.kept hk (by simp) (fun i _ hm => by simp at hm), fun i hi => Nat.lt_of_lt_of_le (h.tlt i hi) hk.size, h.far, h.rfar, h.tfar, h.kept.trans hk (fun i hi => by simp at hi), h.ok, h.fit, h.okv, h.fitv⟩
theorem Inv.read {w wr w' : World} {p q k r : Nat} {Tr : List Nat} {rs rs' : RS} {S R B : List Nat} {n : Nat} {st sv : WS} (h : Inv w p q k r Tr rs S R B n st sv wr) (hr : Rd w' r Tr rs') (hk : Kept [r] wr w') : Inv w p q k r Tr rs' S R B n st sv w' :=
  ⟨h.play.kept hk (fun i hi hm => by simp at hm; exact (h.far i hi).2.1 hm), hr, fun i hi => Nat.lt_of_lt_of_le (h.tlt i hi) hk.size, h.far, h.rfar, h.tfar, h.kept.trans hk (fun i hi => by simp at hi; right; rw [hi]; exact h.rfar), h.ok, h.fit, h.okv, h.fitv⟩
theorem Inv.next {w wr w' : World} {p q k r : Nat} {Tr : List Nat} {rs : RS} {S R B : List Nat} {n n' : Nat} {st sv st' sv' : WS} (h : Inv w p q k r Tr rs S R B n st sv wr) (ho : PlayOut wr p q S R k B st' sv' n' w') (hg : Goes st st') (hv : Goes sv sv') :
    ∃ S' R' B', Hid (Inv w p q k r Tr rs S' R' B' n' st' sv' w') := by
  obtain ⟨S', R', B', h1, h2, h3⟩ := ho
  have hr := h.rd.lt
  have hz := h.kept.size
  refine ⟨S', R', B', h1.out, h.rd.kept h2.out (fun m => (h.far r m).2.1 rfl) (fun i hi m => (h.far i m).2.2 hi), fun i hi => Nat.lt_of_lt_of_le (h.tlt i hi) h2.out.size, fun i hi => ?_, h.rfar, h.tfar, h.kept.trans h2.out (fun i hi => Or.inr (h.far i hi).1), hg.ok, hg.fit, hv.ok, hv.fit⟩
  rcases h3.out i hi with x | x
  · exact h.far i x
  · exact ⟨by omega, by omega, fun m => by have := h.tlt i m; omega⟩
theorem Inv.ops {w wr : World} {p q k r : Nat} {Tr : List Nat} {rs : RS} {S R B : List Nat} {n : Nat} {st sv : WS} {b off : Nat} {l : List Stp} {bs : Nat → List UInt8} {T : List Nat} (h : Inv w p q k r Tr rs S R B n st sv wr) (ho : Ops w b off l bs T) : Ops wr b off l bs T ∧ ∀ i ∈ T, i ∉ (S ++ R) ++ B :=
  ⟨ho.kept h.kept (fun i _ hm => by simp at hm), fun i hi hm => by have h1 := ho.t i hi; have h2 := (h.far i hm).1; omega⟩
/-- More than there is room for. -/
theorem raw_over {st : WS} {l : List UInt8} (h : st.lim < l.length + st.bs.length) : (st.raw l).err ≠ 0 ∧ (st.raw l).bs = st.bs := by
  have e1 : (st.room l.length).err ≠ 0 := by
    unfold WS.room
    rw [if_pos h]
    exact WS.fail_err (by decide)
  rw [WS.raw_err e1]
  exact ⟨e1, WS.room_bs _ _⟩

theorem read_over (m : Nat) (x : Int) (hx : x = (m : Int) + 1) : (⟨List.replicate m 1, 0, 0, 0⟩ : RS).rawed x = ⟨List.replicate m 1, 0, 10, 0⟩ ∧ (⟨List.replicate m 1, 0, 0, 0⟩ : RS).raws x = [] := by
  subst hx
  have h0 : ¬ (m : Int) + 1 < 0 := by omega
  have e : ((m : Int) + 1).toNat = m + 1 := by omega
  unfold RS.rawed RS.raws
  rw [if_neg h0, if_neg h0, e]
  unfold RS.next RS.got
  have h1 : (List.replicate m (1 : UInt8)).length < m + 1 := by rw [List.length_replicate]; omega
  rw [if_pos h1, if_pos h1]
  refine ⟨?_, rfl⟩
  unfold RS.fail RS.failAt
  rw [if_pos ⟨rfl, by decide⟩]

/-- All is made: the loops begin. -/
theorem Inv.first {w w2 w3 w4 w5 w6 : World} {lim r : Nat} {Tr : List Nat} {rs : RS} (K2 : Kept [] w w2) (ha : Wr 96 w3 w2.heap.size [w2.heap.size] ⟨lim, [], [], 0⟩) (k3 : Kept [] w2 w3) (hb : Wr 98 w4 w3.heap.size [w3.heap.size] ⟨lim, [], [], 0⟩) (k4 : Kept [] w3 w4)
    (k5 : Kept [] w4 w5) (hr : Rd w6 r Tr rs) (k6 : Kept [] w5 w6) (hr6 : w5.heap.size ≤ r) (ht : ∀ k ∈ Tr, w5.heap.size ≤ k ∧ k < w6.heap.size) (hlim : lim < 100000) :
    Inv w w2.heap.size w3.heap.size w6.heap.size r Tr rs [w2.heap.size] [w3.heap.size] [w6.heap.size] 0 ⟨lim, [], [], 0⟩ ⟨lim, [], [], 0⟩ (w6.alloc (.cells #[.slice none 0 0, .slice none 0 0, .slice none 0 0, .slice none 0 0, .slice none 0 0, .slice none 0 0] 46 (0, 0))) := by
  have ga := ha.lt w2.heap.size (by simp)
  have gb := hb.lt w3.heap.size (by simp)
  have z2 := K2.size
  have z3 := k3.size
  have z4 := k4.size
  have z5 := k5.size
  have z6 := k6.size
  have hrl := hr.lt
  have nn : ∀ {T : List Nat}, ∀ i ∈ T, i ∉ ([] : List Nat) := fun i _ hm => by simp at hm
  have ka : Kept [] w6 (w6.alloc (.cells #[.slice none 0 0, .slice none 0 0, .slice none 0 0, .slice none 0 0, .slice none 0 0, .slice none 0 0] 46 (0, 0))) := (Kept.refl _ _).alloc _
  have k46 : Kept [] w4 w6 := k5.trans k6 (fun i hi => by simp at hi)
  have okk : (⟨lim, [], [], 0⟩ : WS).Ok := ⟨by show lim ≤ _; omega, by simp, by simp⟩
  have fitt : (⟨lim, [], [], 0⟩ : WS).Fit := fun q hq => by simp at hq
  refine ⟨⟨⟨(ha.kept k4 nn).kept (k46.trans ka (fun i hi => by simp at hi)) nn, hb.kept (k46.trans ka (fun i hi => by simp at hi)) nn, fun i hi hm => ?_⟩, ⟨.slice none 0 0, .slice none 0 0, .slice none 0 0, .slice none 0 0, [], [], ⟨.slice none 0 0, .slice none 0 0, heap_alloc_new w6 _, World.ownsRow_nil _ _ _ _, World.ownsRow_nil _ _ _ _, (fun i hi => by cases hi), rfl⟩, rfl, rfl⟩, fun i hi hm => ?_⟩,
    hr.kept ka (by simp) nn, fun i hi => ?_, fun i hi => ?_, by omega, fun i hi => ?_, ((((K2.trans k3 (fun i hi => by simp at hi)).trans k4 (fun i hi => by simp at hi)).trans k46 (fun i hi => by simp at hi)).trans ka (fun i hi => by simp at hi)), okk, fitt, okk, fitt⟩
  · simp at hi hm; omega
  · simp at hi hm; omega
  · have := (ht i hi).2; simp; omega
  · simp at hi
    refine ⟨by omega, by omega, fun hm => ?_⟩
    have := ht i hm
    omega
  · have := (ht i hi).1; omega

set_option maxHeartbeats 4000000 in
set_option maxRecDepth 100000 in
theorem walk (w : World) (x : Int) (a1 a2 : Option Addr) (c1 c2 b1 o1 b2 o2 : Nat) (l1 l2 : List Stp) (s1 s2 : Nat → List UInt8) (T1 T2 : List Nat) (hx1 : -9223372036854775808 ≤ x) (hx2 : x ≤ 9223372036854775807)
    (h1 : Hid (In w a1 c1 b1 o1 l1 s1 T1)) (h2 : Hid (In w a2 c2 b2 o2 l2 s2 T2)) :
    Calls Try.prog 10 #[.int .i64 x, .slice a1 l1.length c1, .slice a2 l2.length c2] w fun e w' => e = .returned (.bool true) ∧ Kept [] w w' := by
  have hO1 : Hid (Ops w b1 o1 l1 s1 T1) := h1.out.ops
  go_enter Try.func10, Try.ntmps10
  go_wp2_with fail
  refine (Lst.much_any _ a1 c1 b1 o1 l1 s1 T1 h1.out.n h1.out.a hO1).mono ?_
  rintro e w1 ⟨m1, rfl, hm1, k1⟩
  have hO2 : Hid (Ops w1 b2 o2 l2 s2 T2) := h2.out.ops.kept k1.out (fun i _ hm => by simp at hm)
  go_wp2_with fail
  refine (Lst.much_any _ a2 c2 b2 o2 l2 s2 T2 h2.out.n h2.out.a hO2).mono ?_
  rintro e w2 ⟨m2, rfl, hm2, k2⟩
  have K2 : Hid (Kept [] w w2) := k1.out.trans k2.out (fun i hi => by simp at hi)
  by_cases hroom : 33554432 < m1 + m2
  · have j1 : (33554432 : Int) < (m1 : Int) + (m2 : Int) := by omega
    go_wp2_with fail
    go_ret
    exact ⟨rfl, K2.out⟩
  have j1 : ¬ (33554432 : Int) < (m1 : Int) + (m2 : Int) := by omega
  clear hroom hO1 hO2 k1 k2
  go_wp2_with fail
  refine (Mad.pick_any x _ 100000 _ rfl (by decide) (by decide) hx1 hx2).mono ?_
  rintro e w3 ⟨rfl, rfl⟩
  have hlim := Mad.pk_lt x 100000 (by decide)
  obtain ⟨lim, hl⟩ : ∃ j, j = Mad.pk x 100000 := ⟨_, rfl⟩
  rw [← hl] at hlim ⊢
  clear hl
  go_wp2_with fail
  refine (Wrt.new_good _ _ lim rfl (by omega)).mono ?_
  rintro e w3 ⟨rfl, ha, k3⟩
  go_wp2_with fail
  refine (Vrt.new_good _ _ lim rfl (by omega)).mono ?_
  rintro e w4 ⟨rfl, hb, k4⟩
  have KA := Lib.hid k3
  have KB := Lib.hid k4
  clear k3 k4
  go_wp2_with fail
  refine (Lst.fill_any _ _ _ (lim % 7) 1 (by omega) rfl (by omega)).mono ?_
  rintro e w5 ⟨v5, rfl, own5, k5⟩
  have hsrc : Hid (Src w5 v5 (List.replicate (lim % 7) 1) v5.ownBlock.toList) := Src.of_own own5.out
  go_wp2_with fail
  refine (Rdr.new_any _ v5 _ _ (by rw [List.length_replicate]; omega) hsrc).mono ?_
  rintro e w6 ⟨r, Tr, rfl, hrd, k6, hr6, hTr⟩
  have I0 := Lib.hid (Inv.first K2.out ha.out KA.out hb.out KB.out k5 hrd.out k6 hr6 hTr.out hlim)
  clear own5 k5 hsrc k6 KA KB ha hb hrd hTr
  go_wp2_with fail
  generalize w6.heap.size = k at I0 ⊢
  generalize hp : w2.heap.size = p at I0 ⊢
  generalize hq : w3.heap.size = q at I0 ⊢
  clear hp hq
  go_loopw [13] (fun v wr => ∃ (i n : Nat) (S R B : List Nat) (st : WS), i ≤ l1.length ∧ v = .int .i64 i ∧ n ≤ 2 * i ∧ Hid (Inv w p q k r Tr ⟨List.replicate (lim % 7) 1, 0, 0, 0⟩ S R B n st st wr) ∧ Hid (st.lim = lim)) (fun v _ => l1.length - (intOf v).toNat)
  case atStart => exact ⟨0, 0, _, _, _, _, by omega, rfl, by omega, I0, rfl⟩
  case round =>
    clear I0
    obtain ⟨i, n, S, R, B, st, hi, rfl, hn, I, hL⟩ := hrel
    have hln := h1.out.n
    by_cases hlt : i < l1.length
    · obtain ⟨ops1, dis1⟩ := I.out.ops h1.out.ops
      have hcap := (h1.out.a (by omega)).2
      obtain ⟨g1, g2, g3, g4, g5⟩ := ops1.at' i hlt
      have ha1 := (h1.out.a (by omega)).1
      subst ha1
      have hnn : n ≤ 1152921000 := by have := h1.out.n; omega
      obtain ⟨o, ho⟩ : ∃ o, o = l1[i] := ⟨_, rfl⟩
      rw [← ho] at g2 g3
      clear ho g4 g5 ops1 hcap
      have WR := Lib.hid (Two.writes_any wr p q S R st st k B n o (s1 i) T1 hnn g3 dis1 I.out.ok I.out.fit I.out.ok I.out.fit I.out.play)
      obtain ⟨who, kind, nn, kk, b, s⟩ := o
      have d0 : wr.cell? ⟨b1, o1 + i * 6, none⟩ = some (.int .i64 who) := g2 0 (by decide)
      have d1 : wr.cell? ⟨b1, o1 + i * 6 + 1, none⟩ = some (.int .i64 kind) := g2 1 (by decide)
      have d2 : wr.cell? ⟨b1, o1 + i * 6 + 2, none⟩ = some (.int .u64 nn) := g2 2 (by decide)
      have d3 : wr.cell? ⟨b1, o1 + i * 6 + 3, none⟩ = some (.int .i64 kk) := g2 3 (by decide)
      have d4 : wr.cell? ⟨b1, o1 + i * 6 + 4, none⟩ = some b := g2 4 (by decide)
      have d5 : wr.cell? ⟨b1, o1 + i * 6 + 5, none⟩ = some (.string s) := g2 5 (by decide)
      clear g2 dis1
      have j2 : (i : Int) < (l1.length : Int) := by omega
      go_wp2_with fail
      refine WR.out.mono ?_
      rintro e w8 ⟨x8, st', sv', n', rfl, hO, hG, hGv, hn', hE⟩
      obtain ⟨rfl, hst⟩ := hE.out rfl
      subst hst
      obtain ⟨S', R', B', I'⟩ := I.out.next hO.out hG.out hGv.out
      have hL' : Hid (st'.lim = lim) := hG.out.lim.trans hL.out
      clear hO hG hGv hE WR
      go_wp2_with fail
      go_roundw
      case rel => exact ⟨i + 1, n', S', R', B', st', by omega, by go_num, by omega, I', hL'⟩
      case measure => simp [intOf]; omega
    · have j2 : ¬ (i : Int) < (l1.length : Int) := by omega
      have hbl := I.out.ok.bs
      rw [hL.out] at hbl
      have ha : Hid (Wr 96 wr p S st) := I.out.play.two.a
      go_wp2_with fail
      refine (Wrt.len_any _ p S st ha).mono ?_
      rintro e w7 ⟨rfl, rfl⟩
      go_wp2_with fail
      refine (Lst.fill_any _ _ _ (lim - st.bs.length + 1) 7 (by omega) rfl (by omega)).mono ?_
      rintro e w7 ⟨v7, rfl, own7, k7⟩
      have I7 := Lib.hid (I.out.pure k7)
      obtain ⟨l, hl⟩ : ∃ l, l = List.replicate (lim - st.bs.length + 1) (7 : UInt8) := ⟨_, rfl⟩
      have hll : l.length = lim - st.bs.length + 1 := by rw [hl, List.length_replicate]
      rw [← hl] at own7
      have hover := raw_over (st := st) (l := l) (by rw [hL.out]; omega)
      have hsrc : Hid (Src w7 v7 l v7.ownBlock.toList) := Src.of_own own7.out
      have hd7 : Hid (∀ k ∈ v7.ownBlock.toList, k ∉ S) := fun i hi hm => by
        have h1 := (own7.out.lt i (by simpa using hi)).1
        have h2 := ha.out.lt i hm
        omega
      have ha7 : Hid (Wr 96 w7 p S st) := I7.out.play.two.a
      have ok7 : Hid st.Ok := I7.out.ok
      have hl7 : l.length ≤ 1152921504606846976 := by omega
      clear hl hll own7 k7
      go_wp2_with fail
      refine (Wrt.raw_any _ p S _ st _ l hl7 hsrc hd7 ok7 ha7).mono ?_
      rintro e w8 ⟨rfl, ho⟩
      obtain ⟨S8, R8, B8, I8⟩ := I7.out.next (I7.out.play.of_two (two_left I7.out.play.two ho)) (Goes.raw I7.out.ok I7.out.fit l) (Goes.refl I7.out.okv I7.out.fitv)
      obtain ⟨t1, ht1⟩ : ∃ t1, t1 = st.raw l := ⟨_, rfl⟩
      rw [← ht1] at I8 hover
      obtain ⟨he1, hb1⟩ := hover
      have hbl1 : t1.bs.length ≤ lim := by rw [hb1]; exact hbl
      have HE1 := Lib.hid he1
      have HN : Hid (n ≤ 2 * l1.length) := by show n ≤ _; omega
      clear ho ht1 hb1 hbl I7 I hsrc hd7 ha7 hl7
      have e0 : ((t1.err : Int) == 0) = false := by rw [beq_eq_false_iff_ne]; omega
      have j3 : ¬ (lim : Int) < (t1.bs.length : Int) := by omega
      have ha8 : Hid (Wr 96 w8 p S8 t1) := I8.out.play.two.a
      have ok8 : Hid t1.Ok := I8.out.ok
      have TB : t1.toldB = [] ∧ t1.toldE = t1.err := by
        rcases t1.told_cases with ⟨_, h2, h3⟩ | ⟨h1, _⟩ | ⟨h1, _⟩
        · exact ⟨h2, h3⟩
        · exact absurd h1 he1
        · exact absurd h1 he1
      have DN := fun (w : World) (h : Hid (Wr 96 w p S8 t1)) => Wrt.done_any w p S8 t1 ok8 h
      clear he1
      go_wp2_with fail
      refine (Wrt.len_any _ p S8 t1 ha8).mono ?_
      rintro e w9 ⟨rfl, rfl⟩
      go_wp2_with fail
      refine (Wrt.done_any _ p S8 t1 ok8 ha8).mono ?_
      rintro e w9 ⟨v9, rfl, own9, k9⟩
      rw [TB.1] at own9
      rw [TB.2]
      obtain ⟨a9, c9, rfl⟩ := own_slice_b own9.out
      have I9 := Lib.hid (I8.out.pure k9.out)
      clear own9 k9 I8 ha8 DN
      go_wp2_with fail
      obtain ⟨rs1, hrs1⟩ : ∃ rs1 : RS, rs1 = ⟨List.replicate (lim % 7) 1, 0, 10, 0⟩ := ⟨_, rfl⟩
      obtain ⟨ro1, ro2⟩ := read_over (lim % 7) ((lim : Int) % 7 + 1) (by omega)
      have rok : Hid (⟨List.replicate (lim % 7) 1, 0, 0, 0⟩ : RS).Ok := ⟨by simp; omega, by show (-9223372036854775808 : Int) ≤ 0; decide, by show (0 : Int) ≤ 9223372036854775807; decide⟩
      have hrd9 : Hid (Rd w9 r Tr ⟨List.replicate (lim % 7) 1, 0, 0, 0⟩) := I9.out.rd
      refine (Rdr.raw_any _ r Tr _ _ (by simp; omega) rok hrd9).mono ?_
      rintro e w10 ⟨v10, rfl, own10, rd10, k10⟩
      rw [ro1, ← hrs1] at rd10
      rw [ro2] at own10
      obtain ⟨a10, c10, rfl⟩ := own_slice_b own10.out
      have I10 := Lib.hid (I9.out.read rd10.out k10)
      have re : Hid (rs1.err ≠ 0) := by rw [hrs1]; show (10 : Int) ≠ 0; decide
      have rl : rs1.left.length ≤ 1152921504606 := by rw [hrs1]; simp; omega
      have rok1 : Hid rs1.Ok := by rw [hrs1]; exact ⟨by simp; omega, by show (-9223372036854775808 : Int) ≤ 10; decide, by show (10 : Int) ≤ 9223372036854775807; decide⟩
      have HRS := Lib.hid hrs1
      clear ro1 ro2 rok hrd9 own10 rd10 k10 I9 hrs1
      have hln2 := h2.out.n
      have HE : Hid (t1.err ≠ 0) := HE1
      go_wp2_with fail
      go_loopw [19] (fun v wr => ∃ (i n : Nat) (S R B : List Nat) (sv : WS), i ≤ l2.length ∧ v = .int .i64 i ∧ n ≤ 2 * l1.length + 2 * i ∧ Hid (Inv w p q k r Tr rs1 S R B n t1 sv wr)) (fun v _ => l2.length - (intOf v).toNat)
      case atStart => exact ⟨0, n, _, _, _, _, by omega, rfl, by have := HN.out; omega, I10⟩
      case round =>
        clear I10
        obtain ⟨i, n, S, R, B, sv, hi, rfl, hn, I⟩ := hrel
        by_cases hlt : i < l2.length
        · obtain ⟨ops1, dis1⟩ := I.out.ops h2.out.ops
          obtain ⟨g1, g2, g3, g4, g5⟩ := ops1.at' i hlt
          have ha1 := (h2.out.a (by omega)).1
          subst ha1
          have hnn : n ≤ 1152921000 := by omega
          have HO := h2.out.ops
          obtain ⟨o, ho⟩ : ∃ o, o = l2[i] := ⟨_, rfl⟩
          rw [← ho] at g2 g3
          have HO2 : Hid (Ops w b2 o2 l2 s2 T2) := HO
          clear g4 g5 ops1 HO
          have WR := Lib.hid (Two.writes_any wr p q S R t1 sv k B n o (s2 i) T2 hnn g3 dis1 I.out.ok I.out.fit I.out.okv I.out.fitv I.out.play)
          have HOO := Lib.hid ho
          clear ho
          obtain ⟨who, kind, nn, kk, b, s⟩ := o
          have d0 : wr.cell? ⟨b2, o2 + i * 6, none⟩ = some (.int .i64 who) := g2 0 (by decide)
          have d1 : wr.cell? ⟨b2, o2 + i * 6 + 1, none⟩ = some (.int .i64 kind) := g2 1 (by decide)
          have d2 : wr.cell? ⟨b2, o2 + i * 6 + 2, none⟩ = some (.int .u64 nn) := g2 2 (by decide)
          have d3 : wr.cell? ⟨b2, o2 + i * 6 + 3, none⟩ = some (.int .i64 kk) := g2 3 (by decide)
          have d4 : wr.cell? ⟨b2, o2 + i * 6 + 4, none⟩ = some b := g2 4 (by decide)
          have d5 : wr.cell? ⟨b2, o2 + i * 6 + 5, none⟩ = some (.string s) := g2 5 (by decide)
          clear g2 dis1
          have j4 : (i : Int) < (l2.length : Int) := by omega
          go_wp2_with fail
          refine WR.out.mono ?_
          rintro e w8 ⟨x8, st', sv', n', rfl, hO, hG, hGv, hn', -⟩
          have hst := hG.out.stays HE.out
          subst hst
          obtain ⟨S', R', B', I'⟩ := I.out.next hO.out hG.out hGv.out
          obtain ⟨ops2, -⟩ := I'.out.ops HO2.out
          obtain ⟨-, q2, -⟩ := ops2.at' i hlt
          rw [← HOO.out] at q2
          have e0 : w8.cell? ⟨b2, o2 + i * 6, none⟩ = some (.int .i64 who) := q2 0 (by decide)
          have e1 : w8.cell? ⟨b2, o2 + i * 6 + 1, none⟩ = some (.int .i64 kind) := q2 1 (by decide)
          have e2 : w8.cell? ⟨b2, o2 + i * 6 + 2, none⟩ = some (.int .u64 nn) := q2 2 (by decide)
          have e3 : w8.cell? ⟨b2, o2 + i * 6 + 3, none⟩ = some (.int .i64 kk) := q2 3 (by decide)
          have e4 : w8.cell? ⟨b2, o2 + i * 6 + 4, none⟩ = some b := q2 4 (by decide)
          have e5 : w8.cell? ⟨b2, o2 + i * 6 + 5, none⟩ = some (.string s) := q2 5 (by decide)
          have tl8 : Hid (∀ i ∈ Tr, i < w8.heap.size) := I'.out.tlt
          have rd8 : Hid (Rd w8 r Tr rs1) := I'.out.rd
          have WG := Lib.hid (Rdr.wrong_any w8 r Tr rs1 ⟨who, kind, nn, kk, b, s⟩ tl8 rl re rok1 rd8)
          clear q2 ops2 hO hG hGv WR
          go_wp2_with fail
          refine WG.out.mono ?_
          rintro e w11 ⟨rfl, rd11, k11⟩
          have I11 := Lib.hid (I'.out.read rd11.out k11.out)
          clear WG rd11 k11
          go_wp2_with fail
          go_roundw
          case rel => exact ⟨i + 1, n', S', R', B', sv', by omega, by go_num, by omega, I11⟩
          case measure => simp [intOf]; omega
        · have j4 : ¬ (i : Int) < (l2.length : Int) := by omega
          have ha : Hid (Wr 96 wr p S t1) := I.out.play.two.a
          go_wp2_with fail
          refine (Wrt.done_any _ p S t1 ok8 ha).mono ?_
          rintro e w12 ⟨v12, rfl, own12, k12⟩
          rw [TB.1] at own12
          rw [TB.2]
          obtain ⟨a12, c12, rfl⟩ := own_slice_b own12.out
          have I12 := Lib.hid (I.out.pure k12.out)
          have rd12 : Hid (Rd w12 r Tr rs1) := I12.out.rd
          clear own12 k12
          go_wp2_with fail
          refine (Rdr.err_any _ r Tr rs1 rd12).mono ?_
          rintro e w13 ⟨rfl, k13⟩
          have I13 := Lib.hid (I12.out.pure k13)
          have rd13 : Hid (Rd w13 r Tr rs1) := I13.out.rd
          have ha13 : Hid (Wr 96 w13 p S t1) := I13.out.play.two.a
          have q1 : rs1.err = 10 := by rw [HRS.out]
          have q2 : rs1.bad = 0 := by rw [HRS.out]
          have q3 : rs1.pos = 0 := by rw [HRS.out]
          rw [q1, q2]
          clear k13
          go_wp2_with fail
          refine (Wrt.len_any _ p S t1 ha13).mono ?_
          rintro e w14 ⟨rfl, rfl⟩
          go_wp2_with fail
          refine (Rdr.at_any _ r Tr rs1 rd13).mono ?_
          rintro e w14 ⟨rfl, rfl⟩
          rw [q3]
          go_wp2_with fail
          refine (Rdr.left_any _ r Tr rs1 rd13).mono ?_
          rintro e w14 ⟨rfl, rfl⟩
          rw [if_neg (by rw [q1]; decide)]
          go_wp2_with fail
          go_ret
          exact ⟨rfl, I13.out.kept⟩
end Sta
end Go.Proofs.Ytlmfcnedbmonjaa
