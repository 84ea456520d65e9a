/- The reference's right and Size; its All. -/
import Derived.Test.YtgdaiajjnfnomaaFrl
import Derived.Test.YtgdaiajjnfnomaaAlf
import Derived.Test.YtgdaiajjnfnomaaNxt
import Derived.IntWalk
import Derived.Deep.Onto
import Derived.Deep.QuietTactic
import Derived.BigQuiet
import Derived.BigRegion
import Derived.StillTailTactics
namespace Go.Proofs.Ytgdaiajjnfnomaa
set_option linter.unusedVariables false
open Go.RowKit
namespace Ref
theorem right_any (w : World) (x : Int) (n : Nat) (hx : x = n) :
    Calls Try.prog 18 #[.int .u32 x] w fun e w' => e = .returned (.bool (limB n)) ∧ w = w' := by
  subst hx
  by_cases h1 : 7 ≤ n
  · by_cases h2 : n ≤ 65536
    · have e : limB n = true := decide_eq_true ⟨h1, h2⟩
      rw [e]
      have j1 : (7 : Int) ≤ (n : Int) := by omega
      have j2 : (n : Int) ≤ 65536 := by omega
      go_enter Try.func18, Try.ntmps18
      go_wp2_with fail
      go_ret
      exact ⟨rfl, rfl⟩
    · have e : limB n = false := decide_eq_false (fun h => h2 h.2)
      rw [e]
      have j1 : (7 : Int) ≤ (n : Int) := by omega
      have j2 : ¬ (n : Int) ≤ 65536 := by omega
      go_enter Try.func18, Try.ntmps18
      go_wp2_with fail
      go_ret
      exact ⟨rfl, rfl⟩
  · have e : limB n = false := decide_eq_false (fun h => h1 h.1)
    rw [e]
    have j1 : ¬ (7 : Int) ≤ (n : Int) := by omega
    go_enter Try.func18, Try.ntmps18
    go_wp2_with fail
    go_ret
    exact ⟨rfl, rfl⟩

theorem size_any (w : World) (b o n c : Nat) (l : List UInt8) (h4 : 4 ≤ n) (h : Hid (∀ j (hj : j < 4), w.cell? ⟨b, o + j, none⟩ = some (.int .u8 (l.getD j 0).toNat))) (hl : 4 ≤ l.length) :
    Calls Try.prog 19 #[.slice (some ⟨b, o, none⟩) n c] w fun e w' => e = .returned (.int .u64 (leval (l.take 4))) ∧ ∃ m, w' = w.drewN m := by
  obtain ⟨x0, x1, x2, x3, r, rfl⟩ : ∃ x0 x1 x2 x3 r, l = x0 :: x1 :: x2 :: x3 :: r := by
    match l, hl with
    | x0 :: x1 :: x2 :: x3 :: r, _ => exact ⟨x0, x1, x2, x3, r, rfl⟩
  have c0 : w.cell? ⟨b, o + 0, none⟩ = some (.int .u8 x0.toNat) := h.out 0 (by decide)
  have c1 : w.cell? ⟨b, o + 1, none⟩ = some (.int .u8 x1.toNat) := h.out 1 (by decide)
  have c2 : w.cell? ⟨b, o + 2, none⟩ = some (.int .u8 x2.toNat) := h.out 2 (by decide)
  have c3 : w.cell? ⟨b, o + 3, none⟩ = some (.int .u8 x3.toNat) := h.out 3 (by decide)
  rw [Nat.add_zero] at c0
  have hle : leval ((x0 :: x1 :: x2 :: x3 :: r).take 4) = x0.toNat + x1.toNat * 256 + x2.toNat * 65536 + x3.toNat * 16777216 := by
    show x0.toNat + 256 * (x1.toNat + 256 * (x2.toNat + 256 * (x3.toNat + 256 * 0))) = _
    omega
  rw [hle]
  have t0 := x0.toNat_lt
  have t1 := x1.toNat_lt
  have t2 := x2.toNat_lt
  have t3 := x3.toNat_lt
  obtain ⟨y0, h0⟩ : ∃ y, y = x0.toNat := ⟨_, rfl⟩
  obtain ⟨y1, h1⟩ : ∃ y, y = x1.toNat := ⟨_, rfl⟩
  obtain ⟨y2, h2⟩ : ∃ y, y = x2.toNat := ⟨_, rfl⟩
  obtain ⟨y3, h3⟩ : ∃ y, y = x3.toNat := ⟨_, rfl⟩
  rw [← h0] at t0 c0 ⊢
  rw [← h1] at t1 c1 ⊢
  rw [← h2] at t2 c2 ⊢
  rw [← h3] at t3 c3 ⊢
  have j0 : (0 : Int) < (n : Int) := by omega
  have j1 : (1 : Int) < (n : Int) := by omega
  have j2 : (2 : Int) < (n : Int) := by omega
  have j3 : (3 : Int) < (n : Int) := by omega
  clear h hl hle h0 h1 h2 h3 h4
  go_enter Try.func19, Try.ntmps19
  go_wp2_with fail
  go_quiet (fail)
  go_wp2_with fail
  go_ret
  refine ⟨ret_int ?_, _, rfl⟩
  omega

/-- What All tells. -/
def AllR (w : World) (n : Nat) (bs : List UInt8) (e : Ending) (w' : World) : Prop :=
  ∃ ov vs Q, e = .returned ov ∧ Hid (FrL w' ov vs (frames n bs) Q) ∧ Hid (∀ k ∈ Q, w.heap.size ≤ k) ∧ Hid (Kept [] w w')
theorem all_bad (w : World) (v : Value) (bs : List UInt8) (x : Int) (n : Nat) (hx : x = n) (h : limB n = false) :
    Calls Try.prog 5 #[v, .int .u32 x] w fun e w' => e = .returned (.slice none 0 0) ∧ w = w' := by
  subst hx
  have LIM := Lib.hid (fun w => right_any w n n rfl)
  rw [h] at LIM
  clear h
  go_enter Try.func5, Try.ntmps5
  go_wp2_with fail
  refine (LIM.out _).mono ?_
  rintro e w1 ⟨rfl, rfl⟩
  go_wp2_with fail
  go_ret
  exact ⟨rfl, rfl⟩
/-- What is so between two rounds. -/
def AlR (w : World) (n : Nat) (bs : List UInt8) (at' : Nat) (ov : Value) (vs : List Value) (fs : List (List UInt8)) (Q : List Nat) (wr : World) : Prop :=
  at' ≤ bs.length ∧ fs.length * 7 ≤ at' ∧ frames n bs = fs ++ frames n (bs.drop at') ∧ FrL wr ov vs fs Q ∧ (∀ k ∈ Q, w.heap.size ≤ k) ∧ Kept [] w wr
theorem AlR.zero (w : World) (n : Nat) (bs : List UInt8) : AlR w n bs 0 (.slice none 0 0) [] [] [] w := ⟨by omega, by simp, by simp, FrL.nil w, (fun k h => by cases h), Kept.refl _ _⟩
theorem AlR.drew {w : World} {n : Nat} {bs : List UInt8} {a : Nat} {ov : Value} {vs : List Value} {fs : List (List UInt8)} {Q : List Nat} {wr : World} (h : AlR w n bs a ov vs fs Q wr) (m : Nat) : AlR w n bs a ov vs fs Q (wr.drewN m) :=
  ⟨h.1, h.2.1, h.2.2.1, h.2.2.2.1.kept ((Kept.refl [] wr).drewN m) (fun _ _ hm => by cases hm), h.2.2.2.2.1, h.2.2.2.2.2.drewN m⟩
theorem AlR.pure {w : World} {n : Nat} {bs : List UInt8} {a : Nat} {ov : Value} {vs : List Value} {fs : List (List UInt8)} {Q : List Nat} {wr w2 : World} (h : AlR w n bs a ov vs fs Q wr) (k : Kept [] wr w2) : AlR w n bs a ov vs fs Q w2 :=
  ⟨h.1, h.2.1, h.2.2.1, h.2.2.2.1.kept k (fun _ _ hm => by cases hm), h.2.2.2.2.1, h.2.2.2.2.2.trans k (fun _ hm => by cases hm)⟩
theorem AlR.fin {w : World} {n : Nat} {bs : List UInt8} {a : Nat} {ov : Value} {vs : List Value} {fs : List (List UInt8)} {Q : List Nat} {wr : World} (h : AlR w n bs a ov vs fs Q wr) (hno : ¬ hasFrame n (bs.drop a)) : AllR w n bs (.returned ov) wr :=
  ⟨ov, vs, Q, rfl, by have := h.2.2.1; rw [frames_none hno, List.append_nil] at this; rw [this]; exact h.2.2.2.1, h.2.2.2.2.1, h.2.2.2.2.2⟩
theorem AlR.push {w : World} {n : Nat} {bs : List UInt8} {a : Nat} {ov : Value} {vs : List Value} {fs : List (List UInt8)} {Q : List Nat} {wr W w1 : World} {s m : Nat} {x ov' : Value} (h : AlR w n bs a ov vs fs Q wr) (hf : hasFrame n (bs.drop a)) (hs : s = leval ((bs.drop a).take 4))
    (kW : Kept [] wr W) (hx : Own W wr.heap.size x ((bs.drop a).take s)) (hm : m = vs.length)
    (hown : w1.ownsRow 0 22 1 ov' (m + 1) (vs ++ [x])) (hgrow : W.grownBy w1 ov.ownBlock) (hat : ov'.ownBlock = ov.ownBlock ∨ ov'.ownBlock = some W.heap.size) :
    ∃ vs' Q', AlR w n bs (a + s) ov' vs' (fs ++ [(bs.drop a).take s]) Q' w1 := by
  obtain ⟨h1, h2, h3, h4, h5, h6⟩ := h
  have hx0 : Own W 0 x ((bs.drop a).take s) := World.ownsRow.mono hx (Nat.zero_le _)
  obtain ⟨f1, k1, k2⟩ := h4.push kW hx0 hm hown hgrow hat
  have hfr := frames_some hf
  obtain ⟨g1, g2, g3⟩ := hf
  have g4 := (rightB_iff _ _).1 g2
  rw [List.length_drop] at g1 g3
  have hz := h6.size
  have hz2 := kW.size
  have ob : ∀ k ∈ ov.ownBlock.toList, w.heap.size ≤ k := fun k hk => h5 k (h4.blk k (by simpa using hk))
  refine ⟨_, _, by omega, by simp; omega, ?_, f1, fun k hk => ?_, h6.trans k1 (fun k hk => Or.inr (ob k hk))⟩
  · rw [h3, hfr, ← hs, List.drop_drop, List.append_assoc]; rfl
  · rcases List.mem_append.1 hk with hk | hk
    · exact h5 k hk
    · rcases List.mem_append.1 hk with hk | hk
      · have := (hx.lt k (by simpa using hk)).1; omega
      · rcases hat with e | e
        · exact ob k (by rw [← e]; exact hk)
        · rw [e] at hk; simp at hk; omega

set_option maxHeartbeats 8000000 in
set_option maxRecDepth 100000 in
theorem all_any (w : World) (v : Value) (bs : List UInt8) (T : List Nat) (x : Int) (n : Nat) (hx : x = n) (hn : n ≤ 65536) (h7 : 7 ≤ n) (hsz : bs.length ≤ 1048576) (hb : Hid (Seg w v bs T)) :
    Calls Try.prog 5 #[v, .int .u32 x] w (AllR w n bs) := by
  subst hx
  have LIM := Lib.hid (fun w => right_any w n n rfl)
  rw [show limB n = true from decide_eq_true ⟨h7, hn⟩] at LIM
  obtain ⟨i0, hi0, hz00, hz01, hz02⟩ := info_parts info_u8
  obtain ⟨i1, hi1, hz10, hz11, hz12⟩ := info_parts info_sl
  by_cases hlen : bs.length = 0
  · obtain ⟨a, c, rfl⟩ := hb.out.slice
    have hnil : bs = [] := List.eq_nil_of_length_eq_zero hlen
    subst hnil
    have Z := AlR.zero w n []
    clear hlen hb
    go_enter Try.func5, Try.ntmps5
    go_wp2_with fail
    refine (LIM.out _).mono ?_
    rintro e w1 ⟨rfl, rfl⟩
    go_wp2_with fail
    go_loopw [5, 6] (fun ov av wr => ov = .slice none 0 0 ∧ av = .int .i64 0 ∧ wr = w) (fun _ _ _ => 0)
    case atStart => exact ⟨rfl, rfl, rfl⟩
    case round =>
      obtain ⟨rfl, rfl, rfl⟩ := hrel
      go_wp2_with fail
      go_ret
      exact Z.fin (fun h => by have := h.1; simp at this)
  obtain ⟨g, o, c, hv, hcap, hT, hcell⟩ : ∃ g o c, v = .slice (some ⟨g, o, none⟩) bs.length c ∧ bs.length ≤ c ∧ g ∈ T ∧ ∀ j u, (bs.map bv)[j]? = some u → w.cell? ⟨g, o + j, none⟩ = some u := by
    rcases hb.out with ⟨_, h⟩ | ⟨g, o, c, h1, h2, h3, h4⟩
    · rw [h] at hlen; exact absurd rfl hlen
    · exact ⟨g, o, c, h1, h2, h3 (by omega), h4⟩
  subst hv
  have Z := Lib.hid (AlR.zero w n bs)
  have CELL := Lib.hid hcell
  clear hcell hT hb hlen
  go_enter Try.func5, Try.ntmps5
  go_wp2_with fail
  refine (LIM.out _).mono ?_
  rintro e w1 ⟨rfl, rfl⟩
  clear LIM
  go_wp2_with fail
  go_loopw [5, 6] (fun ov av wr => ∃ (a : Nat) (vs : List Value) (fs : List (List UInt8)) (Q : List Nat), av = .int .i64 a ∧ Hid (AlR w n bs a ov vs fs Q wr)) (fun _ av _ => bs.length + 1 - (intOf av).toNat)
  case atStart => exact ⟨0, _, _, _, rfl, Z⟩
  case round =>
    clear Z
    obtain ⟨a, vs, fs, Q, rfl, R⟩ := hrel
    have ha := R.out.1
    have hfs := R.out.2.1
    have hvs : vs.length ≤ 150000 := by have := R.out.2.2.2.1.len; omega
    obtain ⟨oa, oc, hov⟩ := own_slice R.out.2.2.2.1.own
    subst hov
    by_cases h4 : a + 4 ≤ bs.length
    · have j4 : (4 : Int) ≤ (bs.length : Int) - (a : Int) := by omega
      obtain ⟨r, hr⟩ : ∃ r, r = bs.drop a := ⟨_, rfl⟩
      have hrl : r.length = bs.length - a := by rw [hr, List.length_drop]
      obtain ⟨s, hs⟩ : ∃ s, s = leval (r.take 4) := ⟨_, rfl⟩
      have hcr : Hid (∀ (wx : World), Kept [] w wx → ∀ j (hj : j < r.length), wx.cell? ⟨g, o + a + j, none⟩ = some (.int .u8 r[j].toNat)) := fun wx kx j hj => by
        have h1 := CELL.out (a + j) (bv r[j]) (by rw [List.getElem?_map, show bs[a + j]? = r[j]? by rw [hr, List.getElem?_drop], List.getElem?_eq_getElem hj]; rfl)
        rw [Nat.add_assoc]
        exact (World.cell?_of_block (kx.block _ (World.block_lt_of_cell? w _ h1) (by simp))).trans h1
      have SIZE : Hid (Calls Try.prog 19 #[.slice (some ⟨g, o + a, none⟩) 4 (c - a)] wr fun e w' => e = .returned (.int .u64 s) ∧ Kept [] wr w') := by
        show Calls _ _ _ _ _
        rw [hs]
        refine (size_any wr g (o + a) 4 (c - a) r (by omega) (fun j hj => by
          have := hcr.out wr R.out.2.2.2.2.2 j (by omega)
          rw [this]
          simp [List.getD_eq_getElem?_getD, List.getElem?_eq_getElem (show j < r.length by omega)]) (by omega)).mono ?_
        rintro e w' ⟨h1, m, h2⟩
        exact ⟨h1, by rw [h2]; exact (Kept.refl [] wr).drewN m⟩
      have hc1 : (a : Int) + 4 ≤ (c : Int) := by omega
      have hz0 : (c - a) = c - a := rfl
      have g1 : IntKind.u64.wrap (n : Int) = (n : Int) := by simp [IntKind.wrap, IntKind.signed, IntKind.bits]; omega
      have g2 : IntKind.u64.wrap ((bs.length : Int) - (a : Int)) = (bs.length : Int) - (a : Int) := by simp [IntKind.wrap, IntKind.signed, IntKind.bits]; omega
      by_cases hf : hasFrame n r
      · obtain ⟨f1, f2, f3⟩ := hf
        have f4 := (rightB_iff _ _).1 f2
        rw [← hs] at f3 f4
        have q1 : ¬ ((s : Int) < 7) := by omega
        have q2 : ¬ ((n : Int) < (s : Int)) := by omega
        have q3 : ¬ ((bs.length : Int) - (a : Int) < (s : Int)) := by omega
        have g3 : IntKind.i64.wrap (s : Int) = (s : Int) := by simp [IntKind.wrap, IntKind.signed, IntKind.bits]; omega
        have hs64 : s ≤ 65536 := by omega
        have has : a + s ≤ bs.length := by omega
        have RS := Lib.hid (show hasFrame n (bs.drop a) from hr ▸ ⟨f1, f2, by rw [← hs]; exact f3⟩)
        have HS := Lib.hid (show s = leval ((bs.drop a).take 4) from hr ▸ hs)
        have HR := Lib.hid hr
        clear hr hs f1 f2 f3 f4 hrl
        go_wp2_with fail
        refine SIZE.out.mono ?_
        rintro e w2 ⟨rfl, k2⟩
        have R2 := Lib.hid (R.out.pure k2)
        have K2 := Lib.hid (R2.out.2.2.2.2.2)
        have R2o := R2.out.2.2.2.1.own
        obtain ⟨f, hff⟩ : ∃ f, f = (bs.drop a).take s := ⟨_, rfl⟩
        have hfl : f.length = s := by rw [hff, List.length_take, List.length_drop]; omega
        have SRC : Hid (RowSrc w2 (.slice (some ⟨g, o + a, none⟩) (a + s - a) (c - a)) s (f.map bv)) := by
          show RowSrc _ _ _ _
          rw [Nat.add_sub_cancel_left]
          have S0 : Src w2 (.slice (some ⟨g, o + a, none⟩) s (c - a)) f [g] := ⟨_, _, by rw [hfl], (fun e => by cases e), fun ad e => by
            cases e
            refine ⟨fun _ => by simp, fun j u hu => ?_⟩
            have hj : j < f.length := by
              have := (List.getElem?_eq_some_iff.1 hu).1
              simpa using this
            rw [List.getElem?_map, List.getElem?_eq_getElem hj] at hu
            have hjr : j < r.length := by rw [HR.out, List.length_drop]; omega
            have h1 := hcr.out w2 K2.out j hjr
            have h2 : f[j] = r[j] := by
              have e1 : f[j]? = r[j]? := by rw [hff, ← HR.out, List.getElem?_take, if_pos (by omega)]
              rw [List.getElem?_eq_getElem hj, List.getElem?_eq_getElem hjr] at e1
              exact Option.some.inj e1
            rw [h2] at hu
            have h3 : u = .int .u8 r[j].toNat := (Option.some.inj hu).symm
            rw [h3, Addr.add_lit]
            exact h1⟩
          have h := S0.rowsrc
          rw [hfl] at h
          exact h
        have HF := Lib.hid hff
        have HFL := Lib.hid hfl
        clear hff hfl SIZE k2 R R2o hcr
        go_wp2_with (first
          | (at_builtin; refine wpList_append_src w2 rfl (.tmp 41) (.tmp 48) 22 rfl w2.heap.size 5 i0 (.int .u8 0) 1 1 Try.underlying22 hi0 hz00 hz01 hz02 rfl (by decide) (.slice none 0 0) 0 [] rfl (World.ownsRow_nil _ _ _ _) (.slice (some ⟨g, o + a, none⟩) (a + s - a) (c - a)) s (f.map bv) rfl SRC.out (by simp [HFL.out]) (by intro u hu; obtain ⟨x, _, rfl⟩ := List.mem_map.1 hu; rfl) (by unfold maxLen; omega) (by omega) (Nat.le_refl _) ?_; intro v3 w3 hown3 hgrow3 hat3; have X3 : Hid (w3.ownsRow w2.heap.size 5 1 v3 s (f.map bv)) := (by simpa [Hid] using hown3); have K3 : Hid (Kept [] w2 w3) := (Kept.refl [] w2).grown hgrow3 (by intro k hk; cases hk); have R3 := Lib.hid (R2.out.pure K3.out); have XO : Hid (Own w3 w2.heap.size v3 ((bs.drop a).take s)) := (by { show World.ownsRow _ _ _ _ _ _ _; rw [← HF.out, HFL.out]; exact X3.out }); obtain ⟨fa, fc, rfl⟩ := own_slice X3.out; clear hown3 hgrow3 hat3 X3)
          | (at_builtin; refine wpList_append_src (w3.alloc (.cells #[.slice fa s fc] 22)) rfl (.tmp 50) (.tmp 52) 26 rfl 0 22 i1 (.slice none 0 0) 1 24 Try.underlying26 hi1 hz10 hz11 hz12 rfl (by decide) (.slice oa vs.length oc) vs.length vs rfl (R3.out.2.2.2.1.own.alloc _) (.slice (some ⟨w3.heap.size, 0, none⟩) 1 1) 1 [.slice fa s fc] rfl (Or.inr ⟨_, _, rfl, World.news_of_block (cs := #[.slice fa s fc]) (by exact heap_alloc_new w3 _)⟩) rfl (by intro u hu; simp at hu; subst hu; rfl) (by unfold maxLen; omega) (by omega) (Nat.zero_le _) ?_; intro v5 w5 hown5 hgrow5 hat5; have PU := Lib.hid (R2.out.push RS.out HS.out (K3.out.alloc _) (World.ownsRow.alloc XO.out _) rfl hown5 hgrow5 hat5); obtain ⟨za, zc, rfl⟩ := own_slice hown5; clear hown5 hgrow5 hat5))
        go_roundw
        case rel => obtain ⟨vs2, Q2, R5⟩ := PU.out; exact ⟨a + s, vs2, _, Q2, by go_num, R5⟩
        case measure => simp [intOf]; have := RS.out; omega
      · have hno : ¬ hasFrame n (bs.drop a) := hr ▸ hf
        by_cases c1 : s < 7
        · have q1 : (s : Int) < 7 := by omega
          have qd : decide ((s : Int) < 7) = true := decide_eq_true q1
          clear hr hs hf hcr hrl
          go_wp2_with fail
          refine SIZE.out.mono ?_
          rintro e w2 ⟨rfl, k2⟩
          have F := Lib.hid ((R.out.pure k2).fin hno)
          clear SIZE k2 R hno
          go_wp2_with fail
          go_ret
          exact F.out
        · have q1 : ¬ (s : Int) < 7 := by omega
          have qe : decide ((s : Int) < 7) = false := decide_eq_false q1
          by_cases c2 : n < s
          · have q2 : (n : Int) < (s : Int) := by omega
            have qd : decide ((n : Int) < (s : Int)) = true := decide_eq_true q2
            clear hr hs hf hcr hrl
            go_wp2_with fail
            refine SIZE.out.mono ?_
            rintro e w2 ⟨rfl, k2⟩
            have F := Lib.hid ((R.out.pure k2).fin hno)
            clear SIZE k2 R hno
            go_wp2_with fail
            go_ret
            exact F.out
          · have q2 : ¬ (n : Int) < (s : Int) := by omega
            have q3 : (bs.length : Int) - (a : Int) < (s : Int) := by
              have h3 : r.length < s := by
                rcases Nat.lt_or_ge r.length s with q | q
                · exact q
                · exact absurd ⟨by omega, by rw [← hs]; exact (rightB_iff _ _).2 ⟨by omega, by omega⟩, by rw [← hs]; exact q⟩ hf
              omega
            have qd : decide ((bs.length : Int) - (a : Int) < (s : Int)) = true := decide_eq_true q3
            clear hr hs hf hcr hrl
            go_wp2_with fail
            refine SIZE.out.mono ?_
            rintro e w2 ⟨rfl, k2⟩
            have F := Lib.hid ((R.out.pure k2).fin hno)
            clear SIZE k2 R hno
            go_wp2_with fail
            go_ret
            exact F.out
    · have j4 : ¬ (4 : Int) ≤ (bs.length : Int) - (a : Int) := by omega
      have hno : ¬ hasFrame n (bs.drop a) := fun h => by have := h.1; rw [List.length_drop] at this; omega
      have F := R.out.fin hno
      clear R hno
      go_wp2_with fail
      go_ret
      exact F
end Ref
end Go.Proofs.Ytgdaiajjnfnomaa
