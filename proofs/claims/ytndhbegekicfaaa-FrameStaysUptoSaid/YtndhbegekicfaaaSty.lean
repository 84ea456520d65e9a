/- FrameStays walked: a cutter that died of a size takes nothing, gives nothing, and tells the same for ever. -/
import Derived.Test.YtndhbegekicfaaaMad
import Derived.Test.YtndhbegekicfaaaInp
import Derived.Test.YtndhbegekicfaaaKno
import Derived.Deep.Cut
import Derived.Outline
namespace Go.Proofs.Ytndhbegekicfaaa
set_option linter.unusedVariables false
open Go.RowKit

/-- A list of the call's own, as Feed asks for it. -/
theorem own_byt {w : World} {B : Nat} {v : Value} {l : List UInt8} (h : Own w B v l) : ∃ a c, v = .slice a l.length c ∧ l.length ≤ c ∧ c ≤ 9223372036854775807 ∧ Src w v l v.ownBlock.toList := by
  have hs := Src.of_own h
  rcases h.2 with ⟨rfl, h0⟩ | ⟨g, cap, cur, rfl, _, _, hc, hm, _⟩
  · exact ⟨none, 0, by rw [h0], by omega, by omega, hs⟩
  · exact ⟨_, cap, rfl, hc, by unfold maxLen at hm; omega, hs⟩

/-- The argument's box stands, the cutter is the call's own. -/
structure Sit (w : World) (cs : Array Value) (t : TypeId) (p : Nat) (S : List Nat) (st : CS) (wr : World) : Prop where
  ct : Ct wr p S st
  box : wr.heap[w.heap.size]? = some (.cells cs t (0, 0))
  far : ∀ k ∈ S, w.heap.size < k
  kept : Kept [] w wr
theorem Sit.pure {w wr w' : World} {cs : Array Value} {t : TypeId} {p : Nat} {S : List Nat} {st : CS} (h : Sit w cs t p S st wr) (k : Kept [] wr w') : Sit w cs t p S st w' :=
  ⟨h.ct.kept k (fun _ _ hm => by simp at hm), (k.block _ (block_lt h.box) (by simp)).trans h.box, h.far, h.kept.trans k (fun i hi => by simp at hi)⟩
theorem Sit.next {w wr w' : World} {cs : Array Value} {t : TypeId} {p : Nat} {S S' : List Nat} {st st' : CS} (h : Sit w cs t p S st wr) (c : Ct w' p S' st') (k : Kept S wr w') (s : ∀ i ∈ S', i ∈ S ∨ wr.heap.size ≤ i) : Sit w cs t p S' st' w' := by
  have hb := block_lt h.box
  refine ⟨c, (k.block _ hb (fun m => by have := h.far _ m; omega)).trans h.box, fun i hi => ?_, h.kept.trans k (fun i hi => Or.inr (by have := h.far i hi; omega))⟩
  rcases s i hi with q | q
  · exact h.far i q
  · omega

/-- A size as four bytes. -/
def sizeB (s : Nat) : List UInt8 := [UInt8.ofNat s, UInt8.ofNat (s / 256), UInt8.ofNat (s / 65536), UInt8.ofNat (s / 16777216)]
theorem sizeB_val (s : Nat) (h : s ≤ 4294967295) : leval (sizeB s) = s := by
  show (UInt8.ofNat _).toNat + 256 * ((UInt8.ofNat _).toNat + 256 * ((UInt8.ofNat _).toNat + 256 * ((UInt8.ofNat _).toNat + 256 * 0))) = _
  rw [u8_nat, u8_nat, u8_nat, u8_nat]
  omega
theorem sizeB_cells (s : Nat) (h : s ≤ 4294967295) : (#[.int .u8 ((s : Int) % 256), .int .u8 ((s : Int) / 256 % 256), .int .u8 ((s : Int) / 65536 % 256), .int .u8 ((s : Int) / 16777216), .int .u8 1, .int .u8 2, .int .u8 3] : Array Value) = ((sizeB s ++ [1, 2, 3]).map bv).toArray := by
  have a0 : ((s % 256 : Nat) : Int) = (s : Int) % 256 := by omega
  have a1 : ((s / 256 % 256 : Nat) : Int) = (s : Int) / 256 % 256 := by omega
  have a2 : ((s / 65536 % 256 : Nat) : Int) = (s : Int) / 65536 % 256 := by omega
  have a3 : ((s / 16777216 % 256 : Nat) : Int) = (s : Int) / 16777216 := by omega
  show _ = [bv (UInt8.ofNat _), bv (UInt8.ofNat _), bv (UInt8.ofNat _), bv (UInt8.ofNat _), bv 1, bv 2, bv 3].toArray
  unfold bv
  rw [u8_nat, u8_nat, u8_nat, u8_nat, a0, a1, a2, a3]
  rfl

namespace Law
open Cut
set_option maxHeartbeats 4000000 in
set_option maxRecDepth 100000 in
theorem stays_walk (w : World) (lim size : Nat) (a1 a2 : Option Addr) (c1 c2 b1 o1 b2 o2 : Nat) (ls : List (Value × List UInt8)) (ops : List Stp) (bs : Nat → List UInt8) (T1 T2 : List Nat) (hlim : lim ≤ 4294967295) (hsize : size ≤ 4294967295)
    (h1 : Hid (Rws w a1 c1 b1 o1 ls T1)) (h2 : Hid (Ops w a2 c2 b2 o2 ops bs T2)) :
    Calls Try.prog 8 #[.agg #[.int .u32 lim, .slice a1 ls.length c1, .int .u32 size, .slice a2 ops.length c2]] w fun e w' => e = .returned (.bool true) ∧ Kept [] w w' := by
  obtain ⟨M, hM⟩ : ∃ M, M = lim % 65530 + 3 := ⟨_, rfl⟩
  obtain ⟨L, hL⟩ : ∃ L, L = M + 4 := ⟨_, rfl⟩
  have hLM : (7 : Int) + (lim : Int) % 65530 = (L : Int) := by omega
  have hM3 : 3 ≤ M := by omega
  have hM4 : M ≤ 65532 := by omega
  have HL := Lib.hid hL
  have hL7 : 7 ≤ L := by omega
  have hL6 : L ≤ 65536 := by omega
  clear hM hL
  have K0 : Hid (Kept [] w (w.alloc (.cells #[.int .u32 lim, .slice a1 ls.length c1, .int .u32 size, .slice a2 ops.length c2] 66 (0, 0)))) := (Kept.refl _ _).alloc _
  have MANY := Lib.hid (fun n : Nat => many_any ((w.alloc (.cells #[.int .u32 lim, .slice a1 ls.length c1, .int .u32 size, .slice a2 ops.length c2] 66 (0, 0))).drewN n) a1 c1 b1 o1 ls T1 (h1.out.kept (K0.out.drewN n) (fun _ _ hm => by simp at hm)))
  have MUCH := Lib.hid (fun n : Nat => much_any ((w.alloc (.cells #[.int .u32 lim, .slice a1 ls.length c1, .int .u32 size, .slice a2 ops.length c2] 66 (0, 0))).drewN n) a2 c2 b2 o2 ops bs T2 (h2.out.kept (K0.out.drewN n) (fun _ _ hm => by simp at hm)))
  have m1 : manyF 0 ls ≤ 35651584 := manyF_le ls 0 (fun x hx => by
    obtain ⟨i, hi, rfl⟩ := List.mem_iff_getElem.1 hx
    obtain ⟨-, -, _, _, _, _, _, h, _⟩ := h1.out.at' i hi
    exact h) (by omega)
  have m2 : muchF bs 0 0 ops ≤ 35651584 := muchF_le bs ops 0 0 (fun j hj => by
    obtain ⟨-, -, ⟨_, _, _, _, _, h, _⟩, _⟩ := h2.out.at' j hj
    rw [Nat.zero_add]
    exact h) (by omega)
  obtain ⟨x1, hx1⟩ : ∃ x, x = manyF 0 ls := ⟨_, rfl⟩
  obtain ⟨x2, hx2⟩ : ∃ x, x = muchF bs 0 0 ops := ⟨_, rfl⟩
  rw [← hx1] at MANY m1
  rw [← hx2] at MUCH m2
  clear hx1 hx2
  go_enter Try.func8, Try.ntmps8
  go_wp2_with fail
  go_quiet (first | (go_at_call 29; exact Calls.quiet_of_same (MANY.out _)) | (go_at_call 16; exact Calls.quiet_of_same (MUCH.out _)))
  by_cases hroom : 33554432 < x1 + x2
  · have j1 : (33554432 : Int) < (x1 : Int) + (x2 : Int) := by omega
    go_wp2_with fail
    go_ret
    exact ⟨rfl, K0.out.drewN _⟩
  have j1 : ¬ (33554432 : Int) < (x1 : Int) + (x2 : Int) := by omega
  -- WALK
  obtain ⟨cs, hcs⟩ : ∃ cs : Array Value, cs = #[.int .u32 lim, .slice a1 ls.length c1, .int .u32 size, .slice a2 ops.length c2] := ⟨_, rfl⟩
  obtain ⟨w0, hw0⟩ : ∃ w0, w0 = (w.alloc (.cells #[.int .u32 lim, .slice a1 ls.length c1, .int .u32 size, .slice a2 ops.length c2] 66 (0, 0))).drewN nq := ⟨_, rfl⟩
  have hbox0 : w0.heap[w.heap.size]? = some (.cells cs 66 (0, 0)) := by rw [hw0, hcs]; exact heap_alloc_new w _
  have hk0 : Kept [] w w0 := by rw [hw0]; exact K0.out.drewN nq
  have HB0 := Lib.hid hbox0
  have HK0 := Lib.hid hk0
  have HCS : Hid (cs = #[.int .u32 lim, .slice a1 ls.length c1, .int .u32 size, .slice a2 ops.length c2]) := hcs
  have HC := fun (i : Nat) (v : Value) (hv : (#[.int .u32 lim, .slice a1 ls.length c1, .int .u32 size, .slice a2 ops.length c2] : Array Value)[i]? = some v) (wr : World) (hb : wr.heap[w.heap.size]? = some (.cells cs 66 (0, 0))) => (show wr.cell? ⟨w.heap.size, i, none⟩ = some v by rw [cell_of_row wr _ i _ _ (0, 0) hb, hcs]; exact hv)
  have HCh := Lib.hid HC
  rw [← hw0]
  clear hw0 hbox0 hk0 K0 MANY MUCH hcs HC
  go_wp2_with fail
  refine (known_any w0).mono ?_
  rintro e w1 ⟨rfl, k1⟩
  have HB1 : Hid (w1.heap[w.heap.size]? = some (.cells cs 66 (0, 0))) := (k1.block _ (block_lt HB0.out) (by simp)).trans HB0.out
  have HK1 : Hid (Kept [] w w1) := HK0.out.trans k1 (fun i hi => by simp at hi)
  clear HB0 HK0 k1
  have e0 := HCh.out 0 _ rfl w1 HB1.out
  have e1 := HCh.out 1 _ rfl w1 HB1.out
  have e2 := HCh.out 2 _ rfl w1 HB1.out
  go_wp2_with fail
  refine (new_good w1 _ L rfl hL7 hL6).mono ?_
  rintro e w2 ⟨rfl, h3, k2⟩
  obtain ⟨p, hp⟩ : ∃ p, p = w1.heap.size := ⟨_, rfl⟩
  rw [← hp] at h3 ⊢
  have SIT : Hid (Sit w cs 66 p [p] ⟨L, [], 0, 0, false⟩ w2) :=
    ⟨h3.out, (k2.block _ (block_lt HB1.out) (by simp)).trans HB1.out, fun k hk => by simp at hk; have := block_lt HB1.out; omega, HK1.out.trans k2 (fun i hi => by simp at hi)⟩
  clear hp h3 k2 HB1 HK1 e0 e1 e2
  go_wp2_with fail
  go_loopw [8, 9] (fun nv iv wr => ∃ (i n : Nat) (S : List Nat), i ≤ ls.length ∧ iv = .int .i64 i ∧ nv = .int .i64 n ∧ n ≤ i * 65536 ∧ Hid (Sit w cs 66 p S ⟨L, [], n, i, false⟩ wr)) (fun _ iv _ => ls.length - (intOf iv).toNat)
  case atStart => exact ⟨0, 0, [p], by omega, rfl, rfl, by omega, SIT⟩
  case round =>
    clear SIT
    obtain ⟨i, n, S, hi, rfl, rfl, hn, I⟩ := hrel
    have hln := h1.out.n
    by_cases hlt : i < ls.length
    · have hR := h1.out.kept I.out.kept (fun _ _ hm => by simp at hm)
      obtain ⟨rfl, hcap⟩ := hR.a (by omega)
      obtain ⟨h4, h5, h6⟩ := hR.at' i hlt
      obtain ⟨x, hx⟩ : ∃ x, x = ls[i] := ⟨_, rfl⟩
      rw [← hx] at h5 h6
      obtain ⟨ba, bc, hv, -, -, hbl, hsrc⟩ := h6
      rw [hv] at h5 hsrc
      have HSRC := Lib.hid hsrc
      have hF : Hid (Frm L (frameOf x.2 L)) := frameOf_frm x.2 L hL7 hL6
      have j2 : (i : Int) < (ls.length : Int) := by omega
      clear hR hx hv hsrc h4
      have MADE := Lib.hid (made_any wr _ x.2 T1 (L : Int) M (by have := HL.out; omega) hM3 hM4 (by omega) HSRC)
      have eL : M + 4 = L := HL.out.symm
      rw [eL] at MADE
      clear eL
      go_wp2_with fail
      refine MADE.out.mono ?_
      rintro e w3 ⟨v3, rfl, own3, k3⟩
      obtain ⟨f, hf⟩ : ∃ f, f = frameOf x.2 L := ⟨_, rfl⟩
      rw [← hf] at own3 hF
      clear hf MADE HSRC h5 hbl
      have I3 : Hid (Sit w cs 66 p S ⟨L, [], n, i, false⟩ w3) := I.out.pure k3
      obtain ⟨fa, fc, hfv, hfc, hfc2, hfs⟩ := own_byt own3.out
      have hfd : Hid (∀ k ∈ v3.ownBlock.toList, k ∉ S) := fun k hk hm => by
        have h1 := (own3.out.lt k (by simpa using hk)).1
        have h2 := I.out.ct.lt k hm
        omega
      subst hfv
      have HFS := Lib.hid hfs
      have hfl : f.length ≤ 65536 := by have := hF.out.nL; omega
      have ok3 : Hid (⟨L, [], n, i, false⟩ : CS).Ok := ⟨hL7, hL6, fun _ h => by simp at h, fun h => by simp at h⟩
      have c3 : Hid (Ct w3 p S ⟨L, [], n, i, false⟩) := I3.out.ct
      have hfr := CS.feed_frame (st := ⟨L, [], n, i, false⟩) [] rfl rfl hF.out
      rw [List.append_nil] at hfr
      have FEED := feed_any w3 p S _ ⟨L, [], n, i, false⟩ fa fc f (by omega) hfc hfc2 (by show n ≤ _; omega) ok3 HFS hfd c3
      rw [hfr.1, hfr.2] at FEED
      have FEEDh := Lib.hid FEED
      clear hfs hfr FEED own3 k3 I c3
      go_wp2_with fail
      refine FEEDh.out.mono ?_
      rintro e w4 ⟨rfl, S4, c4, k4, s4⟩
      have I4 : Hid (Sit w cs 66 p S4 ⟨L, f, n + f.length, i, false⟩ w4) := I3.out.next c4.out k4.out s4.out
      have ok4 : Hid (⟨L, f, n + f.length, i, false⟩ : CS).Ok := ⟨hL7, hL6, fun _ h => ⟨by show 7 ≤ leval (f.take 4); rw [hF.out.says]; exact hF.out.n7, by show leval (f.take 4) ≤ _; rw [hF.out.says]; omega, by show f.length ≤ leval (f.take 4); rw [hF.out.says]; omega⟩, fun h => by simp at h⟩
      obtain ⟨n1, n2, n3⟩ := CS.next_frame (st := ⟨L, f, n + f.length, i, false⟩) (L := L) rfl rfl hF.out
      have N1 := Lib.hid n1
      have N2 := Lib.hid n2
      have N3 := Lib.hid n3
      clear FEEDh HFS hfd I3 ok3 c4 k4 s4 n1 n2 n3
      have c4 : Hid (Ct w4 p S4 ⟨L, f, n + f.length, i, false⟩) := I4.out.ct
      go_wp2_with fail
      refine (next_any w4 p S4 _ ok4 (by show i ≤ _; omega) c4).mono ?_
      rintro e w5 ⟨v5, S5, rfl, o5, c5, k5, s5⟩
      rw [N1.out]
      rw [N3.out] at c5
      have I5 : Hid (Sit w cs 66 p S5 ⟨L, [], n + f.length, i + 1, false⟩ w5) := I4.out.next c5.out k5.out (fun k hk => Or.inl (s5.out k hk))
      obtain ⟨v5a, v5c, rfl⟩ := own_slice o5.out
      clear o5 c5 k5 s5 I4 c4 ok4 N1 N2 N3 hF
      go_wp2_with fail
      go_roundw
      case rel => exact ⟨i + 1, n + f.length, S5, by omega, by go_num, by go_num, by omega, I5⟩
      case measure => simp [intOf]; omega
    · have hie : i = ls.length := by omega
      have j2 : ¬ (i : Int) < (ls.length : Int) := by omega
      have HI := Lib.hid hie
      clear hie
      have key : ∃ s' : Nat, s' ≤ 4294967295 ∧ rightB s' L = false ∧ ((7 ≤ size ∧ size ≤ L ∧ size % 7 = s') ∨ (¬ 7 ≤ size ∧ size = s') ∨ (7 ≤ size ∧ ¬ size ≤ L ∧ size = s')) := by
        by_cases q1 : 7 ≤ size
        · by_cases q2 : size ≤ L
          · exact ⟨size % 7, by omega, decide_eq_false (fun h => by omega), Or.inl ⟨q1, q2, rfl⟩⟩
          · exact ⟨size, hsize, decide_eq_false (fun h => q2 h.2), Or.inr (Or.inr ⟨q1, q2, rfl⟩)⟩
        · exact ⟨size, hsize, decide_eq_false (fun h => q1 h.1), Or.inr (Or.inl ⟨q1, rfl⟩)⟩
      obtain ⟨s, hs, hsr, key⟩ := key
      have HSR := Lib.hid hsr
      clear hsr
      rcases key with ⟨q1, q2, q3⟩ | ⟨q1, q3⟩ | ⟨q1, q2, q3⟩
      · have r1 : (7 : Int) ≤ (size : Int) := by omega
        have r2 : (size : Int) ≤ (L : Int) := by omega
        have r3 : (size : Int) % 7 = (s : Int) := by omega
        clear q1 q2 q3
        go_upto_region 22 with (fail)
        rw [r3]
        clear r3
        clear r1 r2
        have hdies := CS.feed_dies (st := ⟨L, [], n, i, false⟩) (b := sizeB s) [1, 2, 3] rfl rfl (by rw [sizeB_val s hs]; exact HSR.out)
        obtain ⟨hA, sA, dA⟩ := lay (w := wr) (p := p) (S := S) (st := ⟨L, [], n, i, false⟩) I.out.ct (sizeB s ++ [1, 2, 3]) _ 5 (sizeB_cells s hs) 7
        have ok3 : Hid (⟨L, [], n, i, false⟩ : CS).Ok := ⟨hL7, hL6, fun _ h => by simp at h, fun h => by simp at h⟩
        have FEED := feed_any _ p S _ ⟨L, [], n, i, false⟩ (some ⟨wr.heap.size, 0, none⟩) 7 (sizeB s ++ [1, 2, 3]) (Nat.le_of_ble_eq_true rfl) (Nat.le_of_ble_eq_true rfl) (by decide) (by show n ≤ _; omega) ok3 sA dA hA
        rw [hdies.1, hdies.2] at FEED
        have FEEDh := Lib.hid FEED
        clear hdies FEED sA dA hA ok3
        go_wp2_with fail
        refine FEEDh.out.mono ?_
        rintro e w4 ⟨rfl, h4⟩
        obtain ⟨S4, c4, k4, s4⟩ := h4.ct ((Kept.refl [] wr).alloc _)
        have I4 : Hid (Sit w cs 66 p S4 ⟨L, sizeB s, n + 4, i, true⟩ w4) := I.out.next c4.out k4.out s4.out
        clear FEEDh h4 c4 k4 s4 I
        go_wp2_with fail
        go_loopw [15] (fun jv wr => ∃ (j lm : Nat) (S : List Nat), j ≤ ops.length ∧ jv = .int .i64 j ∧ 7 ≤ lm ∧ lm ≤ 65536 ∧ Hid (Sit w cs 66 p S ⟨lm, sizeB s, n + 4, i, true⟩ wr)) (fun jv _ => ops.length - (intOf jv).toNat)
        case atStart => exact ⟨0, L, S4, by omega, rfl, hL7, hL6, I4⟩
        case round =>
          clear I4
          obtain ⟨j, lm, S5, hj, rfl, hm7, hm6, I5⟩ := hrel
          have hn2 := h2.out.n
          have okd : Hid (⟨lm, sizeB s, n + 4, i, true⟩ : CS).Ok := ⟨hm7, hm6, fun h => by simp at h, fun _ => rfl⟩
          have e3 := HCh.out 3 _ rfl _ I5.out.box
          by_cases hjl : j < ops.length
          · have hO := h2.out.kept I5.out.kept (fun _ _ hm => by simp at hm)
            obtain ⟨rfl, hcap⟩ := hO.a (by omega)
            obtain ⟨-, h5, h6, h7, -, -⟩ := hO.at' j hjl
            obtain ⟨o, ho⟩ : ∃ o, o = ops[j] := ⟨_, rfl⟩
            rw [← ho] at h5 h6 h7
            obtain ⟨ba, bc, hv, -, -, hbl, -⟩ := h6
            have d3 : ∀ wz, Kept [] w wz → wz.cell? ⟨b2, o2 + j * 4 + 3, none⟩ = some (.int .u32 o.n) := fun wz hz => by
              have := ((h2.out.kept hz (fun _ _ hm => by simp at hm)).at' j hjl).2.1 3 (by decide)
              rw [← ho] at this
              exact this
            have d2 : ∀ wz, Kept [] w wz → wz.cell? ⟨b2, o2 + j * 4 + 2, none⟩ = some (.slice ba (bs j).length bc) := fun wz hz => by
              have := ((h2.out.kept hz (fun _ _ hm => by simp at hm)).at' j hjl).2.1 2 (by decide)
              rw [← ho] at this
              rw [← hv]
              exact this
            have D2 := Lib.hid d2
            have D3 := Lib.hid d3
            have g3 := d3 _ I5.out.kept
            have BYT : Hid (∀ wz, Kept [] w wz → Byt wz (.slice ba (bs j).length bc) (bs j) T2) := fun wz hz => by
              have := ((h2.out.kept hz (fun _ _ hm => by simp at hm)).at' j hjl).2.2.1
              rw [← ho, hv] at this
              exact this
            have j2 : (j : Int) < (ops.length : Int) := by omega
            have hc5 : Hid (Ct wr p S5 ⟨lm, sizeB s, n + 4, i, true⟩) := I5.out.ct
            have LIMIT := Lib.hid (limit_any wr p S5 ⟨lm, sizeB s, n + 4, i, true⟩ o.n o.n rfl hc5)
            clear hO h5 ho hv d2 d3
            go_wp2_with fail
            refine LIMIT.out.mono ?_
            rintro e w6 ⟨rfl, c6, k6⟩
            obtain ⟨l6, hl6⟩ : ∃ l6, l6 = (if limB o.n = true then o.n else lm) := ⟨_, rfl⟩
            have hlim6 : 7 ≤ l6 ∧ l6 ≤ 65536 := by
              rw [hl6]
              split
              · rename_i hb; exact of_decide_eq_true hb
              · exact ⟨hm7, hm6⟩
            have hst6 : CS.limit ⟨lm, sizeB s, n + 4, i, true⟩ o.n = ⟨l6, sizeB s, n + 4, i, true⟩ := by rw [hl6]; unfold CS.limit; split <;> rfl
            rw [hst6] at c6
            have I6 : Hid (Sit w cs 66 p S5 ⟨l6, sizeB s, n + 4, i, true⟩ w6) := I5.out.next c6.out k6 (fun k hk => Or.inl hk)
            have ok6 : Hid (⟨l6, sizeB s, n + 4, i, true⟩ : CS).Ok := ⟨hlim6.1, hlim6.2, fun h => by simp at h, fun _ => rfl⟩
            clear hl6 hst6 k6 LIMIT I5 g3 hc5 okd e3
            go_wp2_with fail
            refine (next_any w6 p S5 _ ok6 (by show i ≤ _; omega) c6).mono ?_
            rintro e w7 ⟨v7, S7, rfl, o7, c7, k7, s7⟩
            have n1 : (⟨l6, sizeB s, n + 4, i, true⟩ : CS).whole = false := rfl
            have n2 : (⟨l6, sizeB s, n + 4, i, true⟩ : CS).got = [] := rfl
            have n3 : (⟨l6, sizeB s, n + 4, i, true⟩ : CS).next = ⟨l6, sizeB s, n + 4, i, true⟩ := rfl
            rw [n1]
            rw [n2] at o7
            rw [n3] at c7
            obtain ⟨va, vc, rfl⟩ := own_slice o7.out
            rw [show (List.length ([] : List UInt8)) = 0 from rfl]
            have I7 : Hid (Sit w cs 66 p S7 ⟨l6, sizeB s, n + 4, i, true⟩ w7) := I6.out.next c7.out k7.out (fun k hk => Or.inl (s7.out k hk))
            clear n1 n2 n3 o7 k7 s7 I6 c6
            go_wp2_with fail
            refine (dead_any w7 p S7 _ (fun _ => ⟨by show 4 ≤ n + 4; omega, by show n + 4 ≤ _; omega⟩) c7).mono ?_
            rintro e w8 ⟨rfl, k8⟩
            rw [show CS.err ⟨l6, sizeB s, n + 4, i, true⟩ = 40 from rfl, show CS.place ⟨l6, sizeB s, n + 4, i, true⟩ = n from by show n + 4 - 4 = n; omega]
            have I8 : Hid (Sit w cs 66 p S7 ⟨l6, sizeB s, n + 4, i, true⟩ w8) := I7.out.pure k8
            have e3 := HCh.out 3 _ rfl _ I8.out.box
            have g2 := D2.out _ I8.out.kept
            have BY := BYT.out _ I8.out.kept
            have c8 : Hid (Ct w8 p S7 ⟨l6, sizeB s, n + 4, i, true⟩) := I8.out.ct
            have hd8 : Hid (∀ k ∈ T2, k ∉ S7) := fun k hk hm => by have a := h2.out.t k hk; have b := I8.out.far k hm; omega
            obtain ⟨ya, yc, hyv, hy1, hy2, hy3, hys⟩ := BY
            have hyv2 : ba = ya ∧ bc = yc := by simpa using hyv
            obtain ⟨rfl, rfl⟩ := hyv2
            have HYS := Lib.hid hys
            have FEED := feed_any w8 p S7 T2 ⟨l6, sizeB s, n + 4, i, true⟩ ba bc (bs j) (by omega) hy1 hy2 (by show n + 4 ≤ _; omega) ok6 HYS hd8 c8
            obtain ⟨f1, f2⟩ := CS.feed_dead (st := ⟨l6, sizeB s, n + 4, i, true⟩) (bs j) rfl rfl
            rw [f1, f2] at FEED
            have FEEDh2 := Lib.hid FEED
            clear hyv hys FEED f1 f2 c7 k8 I7 HYS hd8 c8
            go_wp2_with fail
            refine FEEDh2.out.mono ?_
            rintro e w9 ⟨rfl, S9, c9, k9, s9⟩
            have I9 : Hid (Sit w cs 66 p S9 ⟨l6, sizeB s, n + 4, i, true⟩ w9) := I8.out.next c9.out k9.out s9.out
            clear FEEDh2 c9 k9 s9 I8 e3 g2
            go_wp2_with fail
            go_roundw
            case rel => exact ⟨j + 1, l6, S9, by omega, by go_num, hlim6.1, hlim6.2, I9⟩
            case measure => simp [intOf]; omega
          · have j2 : ¬ (j : Int) < (ops.length : Int) := by omega
            have c5 : Hid (Ct wr p S5 ⟨lm, sizeB s, n + 4, i, true⟩) := I5.out.ct
            have eN : (i : Int) = (ls.length : Int) := by rw [HI.out]
            have EN := Lib.hid eN
            clear eN
            go_wp2_with fail
            refine (dead_any wr p S5 _ (fun _ => ⟨by show 4 ≤ n + 4; omega, by show n + 4 ≤ _; omega⟩) c5).mono ?_
            rintro e w6 ⟨rfl, k6⟩
            rw [show CS.err ⟨lm, sizeB s, n + 4, i, true⟩ = 40 from rfl, show CS.place ⟨lm, sizeB s, n + 4, i, true⟩ = n from by show n + 4 - 4 = n; omega]
            have I6 : Hid (Sit w cs 66 p S5 ⟨lm, sizeB s, n + 4, i, true⟩ w6) := I5.out.pure k6
            have c6 : Hid (Ct w6 p S5 ⟨lm, sizeB s, n + 4, i, true⟩) := I6.out.ct
            clear k6 c5 e3 I5
            go_wp2_with fail
            refine (whole_any w6 p S5 _ okd c6).mono ?_
            rintro e w7 ⟨rfl, k7⟩
            rw [show (⟨lm, sizeB s, n + 4, i, true⟩ : CS).whole = false from rfl]
            have I7 : Hid (Sit w cs 66 p S5 ⟨lm, sizeB s, n + 4, i, true⟩ w7) := I6.out.pure k7
            have c7 : Hid (Ct w7 p S5 ⟨lm, sizeB s, n + 4, i, true⟩) := I7.out.ct
            clear k7 I6 c6
            go_wp2_with fail
            refine (want_any w7 p S5 _ okd c7).mono ?_
            rintro e w8 ⟨rfl, k8⟩
            rw [show (⟨lm, sizeB s, n + 4, i, true⟩ : CS).want = 0 from rfl]
            have I8 : Hid (Sit w cs 66 p S5 ⟨lm, sizeB s, n + 4, i, true⟩ w8) := I7.out.pure k8
            have c8 : Hid (Ct w8 p S5 ⟨lm, sizeB s, n + 4, i, true⟩) := I8.out.ct
            clear k8 I7 c7
            go_wp2_with fail
            refine (taken_any w8 p S5 _ c8).mono ?_
            rintro e w9 ⟨rfl, rfl⟩
            rw [show (⟨lm, sizeB s, n + 4, i, true⟩ : CS).taken = i from rfl, EN.out]
            go_wp2_with fail
            go_ret
            exact ⟨rfl, I8.out.kept⟩
      · obtain rfl : s = size := q3.symm
        have r1 : ¬ (7 : Int) ≤ (s : Int) := by omega
        clear q1
        go_upto_region 22 with (fail)
        clear r1
        have hdies := CS.feed_dies (st := ⟨L, [], n, i, false⟩) (b := sizeB s) [1, 2, 3] rfl rfl (by rw [sizeB_val s hs]; exact HSR.out)
        obtain ⟨hA, sA, dA⟩ := lay (w := wr) (p := p) (S := S) (st := ⟨L, [], n, i, false⟩) I.out.ct (sizeB s ++ [1, 2, 3]) _ 5 (sizeB_cells s hs) 7
        have ok3 : Hid (⟨L, [], n, i, false⟩ : CS).Ok := ⟨hL7, hL6, fun _ h => by simp at h, fun h => by simp at h⟩
        have FEED := feed_any _ p S _ ⟨L, [], n, i, false⟩ (some ⟨wr.heap.size, 0, none⟩) 7 (sizeB s ++ [1, 2, 3]) (Nat.le_of_ble_eq_true rfl) (Nat.le_of_ble_eq_true rfl) (by decide) (by show n ≤ _; omega) ok3 sA dA hA
        rw [hdies.1, hdies.2] at FEED
        have FEEDh := Lib.hid FEED
        clear hdies FEED sA dA hA ok3
        go_wp2_with fail
        refine FEEDh.out.mono ?_
        rintro e w4 ⟨rfl, h4⟩
        obtain ⟨S4, c4, k4, s4⟩ := h4.ct ((Kept.refl [] wr).alloc _)
        have I4 : Hid (Sit w cs 66 p S4 ⟨L, sizeB s, n + 4, i, true⟩ w4) := I.out.next c4.out k4.out s4.out
        clear FEEDh h4 c4 k4 s4 I
        go_wp2_with fail
        go_loopw [15] (fun jv wr => ∃ (j lm : Nat) (S : List Nat), j ≤ ops.length ∧ jv = .int .i64 j ∧ 7 ≤ lm ∧ lm ≤ 65536 ∧ Hid (Sit w cs 66 p S ⟨lm, sizeB s, n + 4, i, true⟩ wr)) (fun jv _ => ops.length - (intOf jv).toNat)
        case atStart => exact ⟨0, L, S4, by omega, rfl, hL7, hL6, I4⟩
        case round =>
          clear I4
          obtain ⟨j, lm, S5, hj, rfl, hm7, hm6, I5⟩ := hrel
          have hn2 := h2.out.n
          have okd : Hid (⟨lm, sizeB s, n + 4, i, true⟩ : CS).Ok := ⟨hm7, hm6, fun h => by simp at h, fun _ => rfl⟩
          have e3 := HCh.out 3 _ rfl _ I5.out.box
          by_cases hjl : j < ops.length
          · have hO := h2.out.kept I5.out.kept (fun _ _ hm => by simp at hm)
            obtain ⟨rfl, hcap⟩ := hO.a (by omega)
            obtain ⟨-, h5, h6, h7, -, -⟩ := hO.at' j hjl
            obtain ⟨o, ho⟩ : ∃ o, o = ops[j] := ⟨_, rfl⟩
            rw [← ho] at h5 h6 h7
            obtain ⟨ba, bc, hv, -, -, hbl, -⟩ := h6
            have d3 : ∀ wz, Kept [] w wz → wz.cell? ⟨b2, o2 + j * 4 + 3, none⟩ = some (.int .u32 o.n) := fun wz hz => by
              have := ((h2.out.kept hz (fun _ _ hm => by simp at hm)).at' j hjl).2.1 3 (by decide)
              rw [← ho] at this
              exact this
            have d2 : ∀ wz, Kept [] w wz → wz.cell? ⟨b2, o2 + j * 4 + 2, none⟩ = some (.slice ba (bs j).length bc) := fun wz hz => by
              have := ((h2.out.kept hz (fun _ _ hm => by simp at hm)).at' j hjl).2.1 2 (by decide)
              rw [← ho] at this
              rw [← hv]
              exact this
            have D2 := Lib.hid d2
            have D3 := Lib.hid d3
            have g3 := d3 _ I5.out.kept
            have BYT : Hid (∀ wz, Kept [] w wz → Byt wz (.slice ba (bs j).length bc) (bs j) T2) := fun wz hz => by
              have := ((h2.out.kept hz (fun _ _ hm => by simp at hm)).at' j hjl).2.2.1
              rw [← ho, hv] at this
              exact this
            have j2 : (j : Int) < (ops.length : Int) := by omega
            have hc5 : Hid (Ct wr p S5 ⟨lm, sizeB s, n + 4, i, true⟩) := I5.out.ct
            have LIMIT := Lib.hid (limit_any wr p S5 ⟨lm, sizeB s, n + 4, i, true⟩ o.n o.n rfl hc5)
            clear hO h5 ho hv d2 d3
            go_wp2_with fail
            refine LIMIT.out.mono ?_
            rintro e w6 ⟨rfl, c6, k6⟩
            obtain ⟨l6, hl6⟩ : ∃ l6, l6 = (if limB o.n = true then o.n else lm) := ⟨_, rfl⟩
            have hlim6 : 7 ≤ l6 ∧ l6 ≤ 65536 := by
              rw [hl6]
              split
              · rename_i hb; exact of_decide_eq_true hb
              · exact ⟨hm7, hm6⟩
            have hst6 : CS.limit ⟨lm, sizeB s, n + 4, i, true⟩ o.n = ⟨l6, sizeB s, n + 4, i, true⟩ := by rw [hl6]; unfold CS.limit; split <;> rfl
            rw [hst6] at c6
            have I6 : Hid (Sit w cs 66 p S5 ⟨l6, sizeB s, n + 4, i, true⟩ w6) := I5.out.next c6.out k6 (fun k hk => Or.inl hk)
            have ok6 : Hid (⟨l6, sizeB s, n + 4, i, true⟩ : CS).Ok := ⟨hlim6.1, hlim6.2, fun h => by simp at h, fun _ => rfl⟩
            clear hl6 hst6 k6 LIMIT I5 g3 hc5 okd e3
            go_wp2_with fail
            refine (next_any w6 p S5 _ ok6 (by show i ≤ _; omega) c6).mono ?_
            rintro e w7 ⟨v7, S7, rfl, o7, c7, k7, s7⟩
            have n1 : (⟨l6, sizeB s, n + 4, i, true⟩ : CS).whole = false := rfl
            have n2 : (⟨l6, sizeB s, n + 4, i, true⟩ : CS).got = [] := rfl
            have n3 : (⟨l6, sizeB s, n + 4, i, true⟩ : CS).next = ⟨l6, sizeB s, n + 4, i, true⟩ := rfl
            rw [n1]
            rw [n2] at o7
            rw [n3] at c7
            obtain ⟨va, vc, rfl⟩ := own_slice o7.out
            rw [show (List.length ([] : List UInt8)) = 0 from rfl]
            have I7 : Hid (Sit w cs 66 p S7 ⟨l6, sizeB s, n + 4, i, true⟩ w7) := I6.out.next c7.out k7.out (fun k hk => Or.inl (s7.out k hk))
            clear n1 n2 n3 o7 k7 s7 I6 c6
            go_wp2_with fail
            refine (dead_any w7 p S7 _ (fun _ => ⟨by show 4 ≤ n + 4; omega, by show n + 4 ≤ _; omega⟩) c7).mono ?_
            rintro e w8 ⟨rfl, k8⟩
            rw [show CS.err ⟨l6, sizeB s, n + 4, i, true⟩ = 40 from rfl, show CS.place ⟨l6, sizeB s, n + 4, i, true⟩ = n from by show n + 4 - 4 = n; omega]
            have I8 : Hid (Sit w cs 66 p S7 ⟨l6, sizeB s, n + 4, i, true⟩ w8) := I7.out.pure k8
            have e3 := HCh.out 3 _ rfl _ I8.out.box
            have g2 := D2.out _ I8.out.kept
            have BY := BYT.out _ I8.out.kept
            have c8 : Hid (Ct w8 p S7 ⟨l6, sizeB s, n + 4, i, true⟩) := I8.out.ct
            have hd8 : Hid (∀ k ∈ T2, k ∉ S7) := fun k hk hm => by have a := h2.out.t k hk; have b := I8.out.far k hm; omega
            obtain ⟨ya, yc, hyv, hy1, hy2, hy3, hys⟩ := BY
            have hyv2 : ba = ya ∧ bc = yc := by simpa using hyv
            obtain ⟨rfl, rfl⟩ := hyv2
            have HYS := Lib.hid hys
            have FEED := feed_any w8 p S7 T2 ⟨l6, sizeB s, n + 4, i, true⟩ ba bc (bs j) (by omega) hy1 hy2 (by show n + 4 ≤ _; omega) ok6 HYS hd8 c8
            obtain ⟨f1, f2⟩ := CS.feed_dead (st := ⟨l6, sizeB s, n + 4, i, true⟩) (bs j) rfl rfl
            rw [f1, f2] at FEED
            have FEEDh2 := Lib.hid FEED
            clear hyv hys FEED f1 f2 c7 k8 I7 HYS hd8 c8
            go_wp2_with fail
            refine FEEDh2.out.mono ?_
            rintro e w9 ⟨rfl, S9, c9, k9, s9⟩
            have I9 : Hid (Sit w cs 66 p S9 ⟨l6, sizeB s, n + 4, i, true⟩ w9) := I8.out.next c9.out k9.out s9.out
            clear FEEDh2 c9 k9 s9 I8 e3 g2
            go_wp2_with fail
            go_roundw
            case rel => exact ⟨j + 1, l6, S9, by omega, by go_num, hlim6.1, hlim6.2, I9⟩
            case measure => simp [intOf]; omega
          · have j2 : ¬ (j : Int) < (ops.length : Int) := by omega
            have c5 : Hid (Ct wr p S5 ⟨lm, sizeB s, n + 4, i, true⟩) := I5.out.ct
            have eN : (i : Int) = (ls.length : Int) := by rw [HI.out]
            have EN := Lib.hid eN
            clear eN
            go_wp2_with fail
            refine (dead_any wr p S5 _ (fun _ => ⟨by show 4 ≤ n + 4; omega, by show n + 4 ≤ _; omega⟩) c5).mono ?_
            rintro e w6 ⟨rfl, k6⟩
            rw [show CS.err ⟨lm, sizeB s, n + 4, i, true⟩ = 40 from rfl, show CS.place ⟨lm, sizeB s, n + 4, i, true⟩ = n from by show n + 4 - 4 = n; omega]
            have I6 : Hid (Sit w cs 66 p S5 ⟨lm, sizeB s, n + 4, i, true⟩ w6) := I5.out.pure k6
            have c6 : Hid (Ct w6 p S5 ⟨lm, sizeB s, n + 4, i, true⟩) := I6.out.ct
            clear k6 c5 e3 I5
            go_wp2_with fail
            refine (whole_any w6 p S5 _ okd c6).mono ?_
            rintro e w7 ⟨rfl, k7⟩
            rw [show (⟨lm, sizeB s, n + 4, i, true⟩ : CS).whole = false from rfl]
            have I7 : Hid (Sit w cs 66 p S5 ⟨lm, sizeB s, n + 4, i, true⟩ w7) := I6.out.pure k7
            have c7 : Hid (Ct w7 p S5 ⟨lm, sizeB s, n + 4, i, true⟩) := I7.out.ct
            clear k7 I6 c6
            go_wp2_with fail
            refine (want_any w7 p S5 _ okd c7).mono ?_
            rintro e w8 ⟨rfl, k8⟩
            rw [show (⟨lm, sizeB s, n + 4, i, true⟩ : CS).want = 0 from rfl]
            have I8 : Hid (Sit w cs 66 p S5 ⟨lm, sizeB s, n + 4, i, true⟩ w8) := I7.out.pure k8
            have c8 : Hid (Ct w8 p S5 ⟨lm, sizeB s, n + 4, i, true⟩) := I8.out.ct
            clear k8 I7 c7
            go_wp2_with fail
            refine (taken_any w8 p S5 _ c8).mono ?_
            rintro e w9 ⟨rfl, rfl⟩
            rw [show (⟨lm, sizeB s, n + 4, i, true⟩ : CS).taken = i from rfl, EN.out]
            go_wp2_with fail
            go_ret
            exact ⟨rfl, I8.out.kept⟩
      · obtain rfl : s = size := q3.symm
        have r1 : (7 : Int) ≤ (s : Int) := by omega
        have r2 : ¬ (s : Int) ≤ (L : Int) := by omega
        clear q1 q2
        go_upto_region 22 with (fail)
        clear r1 r2
        have hdies := CS.feed_dies (st := ⟨L, [], n, i, false⟩) (b := sizeB s) [1, 2, 3] rfl rfl (by rw [sizeB_val s hs]; exact HSR.out)
        obtain ⟨hA, sA, dA⟩ := lay (w := wr) (p := p) (S := S) (st := ⟨L, [], n, i, false⟩) I.out.ct (sizeB s ++ [1, 2, 3]) _ 5 (sizeB_cells s hs) 7
        have ok3 : Hid (⟨L, [], n, i, false⟩ : CS).Ok := ⟨hL7, hL6, fun _ h => by simp at h, fun h => by simp at h⟩
        have FEED := feed_any _ p S _ ⟨L, [], n, i, false⟩ (some ⟨wr.heap.size, 0, none⟩) 7 (sizeB s ++ [1, 2, 3]) (Nat.le_of_ble_eq_true rfl) (Nat.le_of_ble_eq_true rfl) (by decide) (by show n ≤ _; omega) ok3 sA dA hA
        rw [hdies.1, hdies.2] at FEED
        have FEEDh := Lib.hid FEED
        clear hdies FEED sA dA hA ok3
        go_wp2_with fail
        refine FEEDh.out.mono ?_
        rintro e w4 ⟨rfl, h4⟩
        obtain ⟨S4, c4, k4, s4⟩ := h4.ct ((Kept.refl [] wr).alloc _)
        have I4 : Hid (Sit w cs 66 p S4 ⟨L, sizeB s, n + 4, i, true⟩ w4) := I.out.next c4.out k4.out s4.out
        clear FEEDh h4 c4 k4 s4 I
        go_wp2_with fail
        go_loopw [15] (fun jv wr => ∃ (j lm : Nat) (S : List Nat), j ≤ ops.length ∧ jv = .int .i64 j ∧ 7 ≤ lm ∧ lm ≤ 65536 ∧ Hid (Sit w cs 66 p S ⟨lm, sizeB s, n + 4, i, true⟩ wr)) (fun jv _ => ops.length - (intOf jv).toNat)
        case atStart => exact ⟨0, L, S4, by omega, rfl, hL7, hL6, I4⟩
        case round =>
          clear I4
          obtain ⟨j, lm, S5, hj, rfl, hm7, hm6, I5⟩ := hrel
          have hn2 := h2.out.n
          have okd : Hid (⟨lm, sizeB s, n + 4, i, true⟩ : CS).Ok := ⟨hm7, hm6, fun h => by simp at h, fun _ => rfl⟩
          have e3 := HCh.out 3 _ rfl _ I5.out.box
          by_cases hjl : j < ops.length
          · have hO := h2.out.kept I5.out.kept (fun _ _ hm => by simp at hm)
            obtain ⟨rfl, hcap⟩ := hO.a (by omega)
            obtain ⟨-, h5, h6, h7, -, -⟩ := hO.at' j hjl
            obtain ⟨o, ho⟩ : ∃ o, o = ops[j] := ⟨_, rfl⟩
            rw [← ho] at h5 h6 h7
            obtain ⟨ba, bc, hv, -, -, hbl, -⟩ := h6
            have d3 : ∀ wz, Kept [] w wz → wz.cell? ⟨b2, o2 + j * 4 + 3, none⟩ = some (.int .u32 o.n) := fun wz hz => by
              have := ((h2.out.kept hz (fun _ _ hm => by simp at hm)).at' j hjl).2.1 3 (by decide)
              rw [← ho] at this
              exact this
            have d2 : ∀ wz, Kept [] w wz → wz.cell? ⟨b2, o2 + j * 4 + 2, none⟩ = some (.slice ba (bs j).length bc) := fun wz hz => by
              have := ((h2.out.kept hz (fun _ _ hm => by simp at hm)).at' j hjl).2.1 2 (by decide)
              rw [← ho] at this
              rw [← hv]
              exact this
            have D2 := Lib.hid d2
            have D3 := Lib.hid d3
            have g3 := d3 _ I5.out.kept
            have BYT : Hid (∀ wz, Kept [] w wz → Byt wz (.slice ba (bs j).length bc) (bs j) T2) := fun wz hz => by
              have := ((h2.out.kept hz (fun _ _ hm => by simp at hm)).at' j hjl).2.2.1
              rw [← ho, hv] at this
              exact this
            have j2 : (j : Int) < (ops.length : Int) := by omega
            have hc5 : Hid (Ct wr p S5 ⟨lm, sizeB s, n + 4, i, true⟩) := I5.out.ct
            have LIMIT := Lib.hid (limit_any wr p S5 ⟨lm, sizeB s, n + 4, i, true⟩ o.n o.n rfl hc5)
            clear hO h5 ho hv d2 d3
            go_wp2_with fail
            refine LIMIT.out.mono ?_
            rintro e w6 ⟨rfl, c6, k6⟩
            obtain ⟨l6, hl6⟩ : ∃ l6, l6 = (if limB o.n = true then o.n else lm) := ⟨_, rfl⟩
            have hlim6 : 7 ≤ l6 ∧ l6 ≤ 65536 := by
              rw [hl6]
              split
              · rename_i hb; exact of_decide_eq_true hb
              · exact ⟨hm7, hm6⟩
            have hst6 : CS.limit ⟨lm, sizeB s, n + 4, i, true⟩ o.n = ⟨l6, sizeB s, n + 4, i, true⟩ := by rw [hl6]; unfold CS.limit; split <;> rfl
            rw [hst6] at c6
            have I6 : Hid (Sit w cs 66 p S5 ⟨l6, sizeB s, n + 4, i, true⟩ w6) := I5.out.next c6.out k6 (fun k hk => Or.inl hk)
            have ok6 : Hid (⟨l6, sizeB s, n + 4, i, true⟩ : CS).Ok := ⟨hlim6.1, hlim6.2, fun h => by simp at h, fun _ => rfl⟩
            clear hl6 hst6 k6 LIMIT I5 g3 hc5 okd e3
            go_wp2_with fail
            refine (next_any w6 p S5 _ ok6 (by show i ≤ _; omega) c6).mono ?_
            rintro e w7 ⟨v7, S7, rfl, o7, c7, k7, s7⟩
            have n1 : (⟨l6, sizeB s, n + 4, i, true⟩ : CS).whole = false := rfl
            have n2 : (⟨l6, sizeB s, n + 4, i, true⟩ : CS).got = [] := rfl
            have n3 : (⟨l6, sizeB s, n + 4, i, true⟩ : CS).next = ⟨l6, sizeB s, n + 4, i, true⟩ := rfl
            rw [n1]
            rw [n2] at o7
            rw [n3] at c7
            obtain ⟨va, vc, rfl⟩ := own_slice o7.out
            rw [show (List.length ([] : List UInt8)) = 0 from rfl]
            have I7 : Hid (Sit w cs 66 p S7 ⟨l6, sizeB s, n + 4, i, true⟩ w7) := I6.out.next c7.out k7.out (fun k hk => Or.inl (s7.out k hk))
            clear n1 n2 n3 o7 k7 s7 I6 c6
            go_wp2_with fail
            refine (dead_any w7 p S7 _ (fun _ => ⟨by show 4 ≤ n + 4; omega, by show n + 4 ≤ _; omega⟩) c7).mono ?_
            rintro e w8 ⟨rfl, k8⟩
            rw [show CS.err ⟨l6, sizeB s, n + 4, i, true⟩ = 40 from rfl, show CS.place ⟨l6, sizeB s, n + 4, i, true⟩ = n from by show n + 4 - 4 = n; omega]
            have I8 : Hid (Sit w cs 66 p S7 ⟨l6, sizeB s, n + 4, i, true⟩ w8) := I7.out.pure k8
            have e3 := HCh.out 3 _ rfl _ I8.out.box
            have g2 := D2.out _ I8.out.kept
            have BY := BYT.out _ I8.out.kept
            have c8 : Hid (Ct w8 p S7 ⟨l6, sizeB s, n + 4, i, true⟩) := I8.out.ct
            have hd8 : Hid (∀ k ∈ T2, k ∉ S7) := fun k hk hm => by have a := h2.out.t k hk; have b := I8.out.far k hm; omega
            obtain ⟨ya, yc, hyv, hy1, hy2, hy3, hys⟩ := BY
            have hyv2 : ba = ya ∧ bc = yc := by simpa using hyv
            obtain ⟨rfl, rfl⟩ := hyv2
            have HYS := Lib.hid hys
            have FEED := feed_any w8 p S7 T2 ⟨l6, sizeB s, n + 4, i, true⟩ ba bc (bs j) (by omega) hy1 hy2 (by show n + 4 ≤ _; omega) ok6 HYS hd8 c8
            obtain ⟨f1, f2⟩ := CS.feed_dead (st := ⟨l6, sizeB s, n + 4, i, true⟩) (bs j) rfl rfl
            rw [f1, f2] at FEED
            have FEEDh2 := Lib.hid FEED
            clear hyv hys FEED f1 f2 c7 k8 I7 HYS hd8 c8
            go_wp2_with fail
            refine FEEDh2.out.mono ?_
            rintro e w9 ⟨rfl, S9, c9, k9, s9⟩
            have I9 : Hid (Sit w cs 66 p S9 ⟨l6, sizeB s, n + 4, i, true⟩ w9) := I8.out.next c9.out k9.out s9.out
            clear FEEDh2 c9 k9 s9 I8 e3 g2
            go_wp2_with fail
            go_roundw
            case rel => exact ⟨j + 1, l6, S9, by omega, by go_num, hlim6.1, hlim6.2, I9⟩
            case measure => simp [intOf]; omega
          · have j2 : ¬ (j : Int) < (ops.length : Int) := by omega
            have c5 : Hid (Ct wr p S5 ⟨lm, sizeB s, n + 4, i, true⟩) := I5.out.ct
            have eN : (i : Int) = (ls.length : Int) := by rw [HI.out]
            have EN := Lib.hid eN
            clear eN
            go_wp2_with fail
            refine (dead_any wr p S5 _ (fun _ => ⟨by show 4 ≤ n + 4; omega, by show n + 4 ≤ _; omega⟩) c5).mono ?_
            rintro e w6 ⟨rfl, k6⟩
            rw [show CS.err ⟨lm, sizeB s, n + 4, i, true⟩ = 40 from rfl, show CS.place ⟨lm, sizeB s, n + 4, i, true⟩ = n from by show n + 4 - 4 = n; omega]
            have I6 : Hid (Sit w cs 66 p S5 ⟨lm, sizeB s, n + 4, i, true⟩ w6) := I5.out.pure k6
            have c6 : Hid (Ct w6 p S5 ⟨lm, sizeB s, n + 4, i, true⟩) := I6.out.ct
            clear k6 c5 e3 I5
            go_wp2_with fail
            refine (whole_any w6 p S5 _ okd c6).mono ?_
            rintro e w7 ⟨rfl, k7⟩
            rw [show (⟨lm, sizeB s, n + 4, i, true⟩ : CS).whole = false from rfl]
            have I7 : Hid (Sit w cs 66 p S5 ⟨lm, sizeB s, n + 4, i, true⟩ w7) := I6.out.pure k7
            have c7 : Hid (Ct w7 p S5 ⟨lm, sizeB s, n + 4, i, true⟩) := I7.out.ct
            clear k7 I6 c6
            go_wp2_with fail
            refine (want_any w7 p S5 _ okd c7).mono ?_
            rintro e w8 ⟨rfl, k8⟩
            rw [show (⟨lm, sizeB s, n + 4, i, true⟩ : CS).want = 0 from rfl]
            have I8 : Hid (Sit w cs 66 p S5 ⟨lm, sizeB s, n + 4, i, true⟩ w8) := I7.out.pure k8
            have c8 : Hid (Ct w8 p S5 ⟨lm, sizeB s, n + 4, i, true⟩) := I8.out.ct
            clear k8 I7 c7
            go_wp2_with fail
            refine (taken_any w8 p S5 _ c8).mono ?_
            rintro e w9 ⟨rfl, rfl⟩
            rw [show (⟨lm, sizeB s, n + 4, i, true⟩ : CS).taken = i from rfl, EN.out]
            go_wp2_with fail
            go_ret
            exact ⟨rfl, I8.out.kept⟩
end Law
end Go.Proofs.Ytndhbegekicfaaa
