/- FrameAll walked: what All goes through is what the document says, to its end, left early, again and within. -/
import Derived.Test.YtgdaiajjnfnomaaGow
import Derived.Test.YtgdaiajjnfnomaaPik
import Derived.Test.YtgdaiajjnfnomaaKno
import Derived.Deep.Cut
import Derived.Deep.CutBlock
import Derived.IntWalk
namespace Go.Proofs.Ytgdaiajjnfnomaa
set_option linter.unusedVariables false
open Go.RowKit

/-- A new book. -/
theorem Bkd.new (w : World) (col : Nat → Nat) : Bkd (w.alloc (.cells #[.slice none 0 0, .slice none 0 0, .slice none 0 0, .slice none 0 0, .slice none 0 0, .slice none 0 0] 28 (0, 0))) w.heap.size (upd col w.heap.size 6) 0 := by
  have N : ∀ (v : Nat → Prop) (x : World), FrP x (.slice none 0 0) [] [] v 0 := fun v x => FrP.nil x v
  refine ⟨_, _, _, _, _, _, [], [], [], [], [], [], [], [], [], ⟨heap_alloc_new w _, N _ _, World.ownsRow_nil _ _ _ _, (fun b h => by cases h), rfl, ?_, N _ _, N _ _, N _ _, N _ _, (by unfold upd; simp), ?_, ?_⟩, (by simp), (fun x h => by cases h), (fun x h => by cases h), (fun x h => by cases h)⟩
  · intro i hi
    simp at hi
  · intro i j hi
    simp at hi
  · intro i j hi
    simp at hi
/-- A list of frames that is none of the book's. -/
theorem FrL.fr {w w' : World} {v : Value} {vs : List Value} {fs : List (List UInt8)} {T : List Nat} {c c' : Nat → Nat} (h : FrL w v vs fs T) (hc : ∀ b ∈ T, 7 ≤ c b) (f : Fr w c w' c' 0) : FrL w' v vs fs T ∧ ∀ b ∈ T, 7 ≤ c' b := by
  obtain ⟨S, k, hS⟩ := f.kept
  refine ⟨h.kept k (fun b hb hm => ?_), fun b hb => ?_⟩
  · have := hS b hm (h.lt b hb)
    have := hc b hb
    omega
  · rw [f.same b (h.lt b hb) (hc b hb)]; exact hc b hb
/-- What was there at the beginning. -/
theorem Fr.base {w0 w w' : World} {c c' : Nat → Nat} (h : Kept [] w0 w) (hc : ∀ b, b < w0.heap.size → 7 ≤ c b) (f : Fr w c w' c' 0) : Kept [] w0 w' ∧ ∀ b, b < w0.heap.size → 7 ≤ c' b := by
  obtain ⟨S, k, hS⟩ := f.kept
  have hz := h.size
  refine ⟨h.trans k (fun b hb => ?_) |>.mono (fun i hi => by cases hi), fun b hb => ?_⟩
  · by_cases hlt : b < w0.heap.size
    · have := hS b hb (by omega)
      have := hc b hlt
      omega
    · exact Or.inr (by omega)
  · rw [f.same b (by omega) (hc b hb)]; exact hc b hb
theorem FrL.take {w : World} {a : Option Addr} {m c n : Nat} {vs : List Value} {fs : List (List UInt8)} {T : List Nat} (h : FrL w (.slice a m c) vs fs T) (hn : n ≤ fs.length) (h0 : 0 < fs.length) : FrL w (.slice a n c) (vs.take n) (fs.take n) T := by
  have hl : (vs.take n).length = n := by rw [List.length_take]; have := h.len; omega
  refine ⟨by rw [List.length_take, List.length_take, h.len], ?_, fun i h1 h2 => ?_, fun k hk => h.blk k (by cases a with | none => simp [Value.ownBlock] at hk | some ad => simpa [Value.ownBlock] using hk), h.lt⟩
  · rw [hl]
    refine ⟨by rw [hl, Nat.mul_one], Or.inr ?_⟩
    rcases h.own.2 with ⟨_, h0'⟩ | ⟨g, cap, cur, e, hb, hg, hnc, hcm, hcs, ht⟩
    · have := h.len; omega
    · simp only [Value.slice.injEq] at e
      obtain ⟨rfl, -, rfl⟩ := e
      refine ⟨g, c, cur, rfl, hb, hg, by have := h.len; omega, hcm, hcs, ?_⟩
      rw [← ht, List.take_take, Nat.mul_one, Nat.mul_one]
      congr 1
      have := h.len
      omega
  · rw [List.getElem_take, List.getElem_take]
    exact h.el i (by rw [List.length_take] at h1; omega) (by rw [List.length_take] at h2; omega)

namespace Ref
/-- Bytes too few for a frame. -/
theorem all_short (w : World) (a : Option Addr) (cp : Nat) (bs : List UInt8) (x : Int) (n : Nat) (hx : x = n) (h4 : bs.length < 4) :
    Calls Try.prog 5 #[.slice a bs.length cp, .int .u32 x] w (AllR2 w n bs) := by
  subst hx
  have hF : framesOf n bs = [] := by
    unfold framesOf
    split
    · exact frames_none (fun h => by have := h.1; omega)
    · rfl
  have FIN : AllR2 w n bs (.returned (.slice none 0 0)) w := by
    unfold AllR2
    rw [hF]
    exact ⟨_, [], [], rfl, FrL.nil _, (fun k hk => by cases hk), Kept.refl _ _⟩
  have FINh := Lib.hid FIN
  have LIM := Lib.hid (fun w => right_any w n n rfl)
  have hnl : ¬ ((bs.length : Int) - 0 ≥ 4) := by omega
  have hnl2 : ¬ (4 ≤ (bs.length : Int)) := by omega
  clear hF FIN
  go_enter Try.func5, Try.ntmps5
  go_wp2_with fail
  refine (LIM.out _).mono ?_
  rintro e w1 ⟨rfl, rfl⟩
  cases limB n
  · go_wp2_with fail
    go_ret
    exact FINh.out
  · go_wp2_with fail
    go_loop [5, 6] (fun o v => o = .slice none 0 0 ∧ v = .int .i64 0) (fun _ _ => 0)
    case atStart => exact ⟨rfl, rfl⟩
    case round =>
      obtain ⟨rfl, rfl⟩ := hrel
      go_wp2_with fail
      go_ret
      exact FINh.out
theorem all_src (w : World) (a : Option Addr) (cp : Nat) (bs : List UInt8) (T : List Nat) (x : Int) (n : Nat) (hx : x = n) (hsz : bs.length ≤ 1048576) (hc : bs.length ≤ cp) (hb : Hid (Src w (.slice a bs.length cp) bs T)) :
    Calls Try.prog 5 #[.slice a bs.length cp, .int .u32 x] w (AllR2 w n bs) := by
  by_cases h4 : bs.length < 4
  · exact all_short w a cp bs x n hx h4
  · refine all_all w _ bs T x n hx hsz ?_
    obtain ⟨b, o, c, e, hcl⟩ := src_cells hb.out (by omega)
    simp only [Value.slice.injEq] at e
    obtain ⟨rfl, -, rfl⟩ := e
    obtain ⟨a', c', e, h2, h3⟩ := hb.out
    simp only [Value.slice.injEq] at e
    obtain ⟨rfl, -, rfl⟩ := e
    refine Or.inr ⟨b, o, cp, rfl, hc, fun hp => (h3 _ rfl).1 hp, fun j u hu => ?_⟩
    have := (h3 _ rfl).2 j u hu
    rwa [Addr.add_lit] at this
end Ref
namespace Law
open Cut
set_option maxHeartbeats 16000000 in
set_option maxRecDepth 100000 in
theorem all_walk (w : World) (n : Nat) (a : Option Addr) (cp : Nat) (bs : List UInt8) (T : List Nat) (most : Int) (hsz : bs.length ≤ 1048576) (hc : bs.length ≤ cp) (hn : n ≤ 4294967295) (hm1 : -9223372036854775808 ≤ most) (hm2 : most ≤ 9223372036854775807)
    (hb : Hid (Src w (.slice a bs.length cp) bs T)) (hT : Hid (∀ k ∈ T, k < w.heap.size)) :
    Calls Try.prog 3 #[.slice a bs.length cp, .int .u32 n, .int .i64 most] w fun e w' => e = .returned (.bool true) ∧ Kept [] w w' := by
  have j1 : ¬ (33554432 : Int) < (bs.length : Int) := by omega
  obtain ⟨F, hF⟩ : ∃ F, F = framesOf n bs := ⟨_, rfl⟩
  have FF : Hid ((∀ f ∈ F, 7 ≤ f.length ∧ f.length ≤ bs.length) ∧ F.length ≤ bs.length) := by rw [hF]; exact framesOf_facts n bs
  have HF := Lib.hid hF
  clear hF
  go_enter Try.func3, Try.ntmps3
  go_wp2_with fail
  refine (known_any w).mono ?_
  rintro e w1 ⟨rfl, k1⟩
  have K1 := Lib.hid k1
  clear k1
  go_wp2_with fail
  obtain ⟨k, hk⟩ : ∃ k, k = w1.heap.size := ⟨_, rfl⟩
  obtain ⟨w2, hw2⟩ : ∃ w2, w2 = w1.alloc (.cells #[.slice none 0 0, .slice none 0 0, .slice none 0 0, .slice none 0 0, .slice none 0 0, .slice none 0 0] 28) := ⟨_, rfl⟩
  obtain ⟨c0, hc0⟩ : ∃ c0 : Nat → Nat, c0 = upd (fun _ => 10) k 6 := ⟨_, rfl⟩
  have BK0 : Hid (Bkd w2 k c0 0) := by rw [hw2, hc0, hk]; exact Bkd.new w1 (fun _ => 10)
  have C0 : Hid (∀ b, b ≠ k → c0 b = 10) := fun b hb => by rw [hc0]; unfold upd; rw [if_neg hb]
  have k2 : Kept [] w1 w2 := by rw [hw2]; exact (Kept.refl _ _).alloc _
  have K2 : Hid (Kept [] w w2) := K1.out.trans k2 (fun i hi => by simp at hi)
  have hkw : w.heap.size ≤ k := by rw [hk]; exact K1.out.size
  have hk2 : k < w2.heap.size := by rw [hw2, hk]; simp
  rw [← hw2, ← hk]
  have hb2 : Hid (Src w2 (.slice a bs.length cp) bs T) := hb.out.kept K2.out (fun _ _ hm => by simp at hm)
  have REF := Lib.hid (Ref.all_src w2 a cp bs T n n rfl hsz hc hb2)
  clear hw2 hc0 hk k2 K1
  refine REF.out.mono ?_
  rintro e w3 ⟨ov0, vs0, Q0, rfl, fr0, q0, k3⟩
  rw [← HF.out] at fr0
  have BK3 : Hid (Bkd w3 k c0 0) := BK0.out.kept k3.out (fun b hb => by cases hb) (fun _ _ => rfl)
  have OK3 : Hid (Kept [] w w3 ∧ ∀ b, b < w.heap.size → 7 ≤ c0 b) := ⟨K2.out.trans k3.out (fun i hi => by simp at hi), fun b hb => by rw [C0.out b (by omega)]; decide⟩
  have WT3 : Hid (FrL w3 ov0 vs0 F Q0 ∧ ∀ b ∈ Q0, 7 ≤ c0 b) := ⟨fr0.out, fun b hb => by have := q0.out b hb; rw [C0.out b (by omega)]; decide⟩
  have hb3 : Hid (Src w3 (.slice a bs.length cp) bs T) := hb.out.kept OK3.out.1 (fun _ _ hm => by simp at hm)
  have GO := Lib.hid (goes_walk w3 k c0 0 n a cp bs T 0 (by omega) hsz hn (by omega) (by omega) hb3 BK3)
  rw [← HF.out] at GO
  clear REF fr0 q0 k3 BK0 C0 K2 hb2 hb3 BK3
  go_wp2_with fail
  refine GO.out.mono ?_
  rintro e w4 ⟨ov1, vs1, T1, c1, rfl, fr1, bk1, f1, t1⟩
  have OK4 := Lib.hid (Fr.base OK3.out.1 OK3.out.2 f1.out)
  have WT4 := Lib.hid (WT3.out.1.fr WT3.out.2 f1.out)
  have ON4 : Hid (FrL w4 ov1 vs1 F T1 ∧ ∀ b ∈ T1, 7 ≤ c1 b) := ⟨fr1.out, fun b hb => by rw [(t1.out b hb).2]; decide⟩
  have TU := Lib.hid (Bk.turn_any w4 k c1 (0 + 10 * F.length) (by have := FF.out.2; omega) bk1)
  clear GO fr1 bk1 f1 t1 OK3 WT3
  go_wp2_with fail
  refine TU.out.mono ?_
  rintro e w5 ⟨rfl, c2, bk2, f2⟩
  have OK5 := Lib.hid (Fr.base OK4.out.1 OK4.out.2 f2.out)
  have WT5 := Lib.hid (WT4.out.1.fr WT4.out.2 f2.out)
  have ON5 := Lib.hid (ON4.out.1.fr ON4.out.2 f2.out)
  clear TU f2 OK4 WT4 ON4
  obtain ⟨wa, wc, rfl⟩ := WT5.out.1.val
  obtain ⟨m, hm⟩ : ∃ m, m = F.length + 1 := ⟨_, rfl⟩
  have hmF : m ≤ 1048577 := by have := FF.out.2; omega
  have hmm : ((F.length : Int) + 1) = (m : Int) := by omega
  have PI := Lib.hid (fun w => pick_any w most (m : Int) m rfl (by omega) (by omega) hm1 hm2)
  have plt := pk_lt most m (by omega)
  obtain ⟨x, hx⟩ : ∃ x, x = pk most m := ⟨_, rfl⟩
  rw [← hx] at PI plt
  have HM := Lib.hid hm
  clear hm hx
  go_wp2_with fail
  refine (PI.out w5).mono ?_
  rintro e w6 ⟨rfl, rfl⟩
  obtain ⟨y, hy⟩ : ∃ y, y = x + 1 := ⟨_, rfl⟩
  have hxy : (1 : Int) + (x : Int) = (y : Int) := by omega
  have hy1 : 1 ≤ y := by omega
  have hym : y ≤ 1048577 := by omega
  have hsrc5 : Hid (Src w5 (.slice a bs.length cp) bs T) := hb.out.kept OK5.out.1 (fun _ _ hm => by simp at hm)
  have GO2 := Lib.hid (goes_walk w5 k c2 (0 + 10 * F.length) n a cp bs T (y : Int) (by have := FF.out.2; omega) hsz hn (by omega) (by omega) hsrc5 bk2)
  have tk : takeM (y : Int) F = F.take y := by unfold takeM; rw [if_neg (by omega), Int.toNat_natCast]
  rw [← HF.out] at GO2
  have TK := Lib.hid tk
  clear hy PI plt hsrc5 bk2 tk
  go_wp2_with fail
  refine GO2.out.mono ?_
  rintro e w6 ⟨ov2, vs2, T2, c3, rfl, fr2, bk3, f3, t2⟩
  rw [TK.out] at fr2
  have OK6 := Lib.hid (Fr.base OK5.out.1 OK5.out.2 f3.out)
  have WT6 := Lib.hid (WT5.out.1.fr WT5.out.2 f3.out)
  have ON6 := Lib.hid (ON5.out.1.fr ON5.out.2 f3.out)
  have TW6 : Hid (FrL w6 ov2 vs2 (F.take y) T2 ∧ ∀ b ∈ T2, 7 ≤ c3 b) := ⟨fr2.out, fun b hb => by rw [(t2.out b hb).2]; decide⟩
  have TU2 := Lib.hid (Bk.turn_any w6 k c3 (0 + 10 * F.length + 10 * F.length) (by have := FF.out.2; omega) bk3)
  clear GO2 fr2 bk3 f3 t2 OK5 WT5 ON5
  go_wp2_with fail
  refine TU2.out.mono ?_
  rintro e w7 ⟨rfl, c4, bk4, f4⟩
  have OK7 := Lib.hid (Fr.base OK6.out.1 OK6.out.2 f4.out)
  have WT7 := Lib.hid (WT6.out.1.fr WT6.out.2 f4.out)
  have ON7 := Lib.hid (ON6.out.1.fr ON6.out.2 f4.out)
  have TW7 := Lib.hid (TW6.out.1.fr TW6.out.2 f4.out)
  have hsrc7 : Hid (Src w7 (.slice a bs.length cp) bs T) := hb.out.kept OK7.out.1 (fun _ _ hm => by simp at hm)
  have GO3 := Lib.hid (goes_walk w7 k c4 (0 + 10 * F.length + 10 * F.length) n a cp bs T 0 (by have := FF.out.2; omega) hsz hn (by omega) (by omega) hsrc7 bk4)
  rw [← HF.out] at GO3
  clear TU2 bk4 f4 OK6 WT6 ON6 TW6 hsrc7
  go_wp2_with fail
  refine GO3.out.mono ?_
  rintro e w8 ⟨ov3, vs3, T3, c5, rfl, fr3, bk5, f5, t3⟩
  have OK8 := Lib.hid (Fr.base OK7.out.1 OK7.out.2 f5.out)
  have WT8 := Lib.hid (WT7.out.1.fr WT7.out.2 f5.out)
  have ON8 := Lib.hid (ON7.out.1.fr ON7.out.2 f5.out)
  have TW8 := Lib.hid (TW7.out.1.fr TW7.out.2 f5.out)
  have TH8 : Hid (FrL w8 ov3 vs3 F T3 ∧ ∀ b ∈ T3, 7 ≤ c5 b) := ⟨fr3.out, fun b hb => by rw [(t3.out b hb).2]; decide⟩
  have EN := Lib.hid (Bk.ends_any w8 k c5 (0 + 10 * F.length + 10 * F.length + 10 * F.length) (by have := FF.out.2; omega) bk5)
  clear GO3 fr3 bk5 f5 t3 OK7 WT7 ON7 TW7
  go_wp2_with fail
  refine EN.out.mono ?_
  rintro e w9 ⟨rfl, c6, bk6, f6⟩
  have OK9 := Lib.hid (Fr.base OK8.out.1 OK8.out.2 f6.out)
  have WT9 := Lib.hid (WT8.out.1.fr WT8.out.2 f6.out)
  have ON9 := Lib.hid (ON8.out.1.fr ON8.out.2 f6.out)
  have TW9 := Lib.hid (TW8.out.1.fr TW8.out.2 f6.out)
  have TH9 := Lib.hid (TH8.out.1.fr TH8.out.2 f6.out)
  clear EN bk6 f6 OK8 WT8 ON8 TW8 TH8
  have hlF : Hid (F.length ≤ 1152921504606 ∧ ∀ i (h : i < F.length), F[i].length ≤ 1152921504606) := ⟨by have := FF.out.2; omega, fun i h => by have := FF.out.1 F[i] (List.getElem_mem h); omega⟩
  have LAST : Hid (∀ W, Kept [] w9 W → Calls Try.prog 10 #[ov1, .slice wa F.length wc] W (fun e w' => e = .returned (.bool true) ∧ Kept [] W w') ∧ Calls Try.prog 10 #[ov3, .slice wa F.length wc] W (fun e w' => e = .returned (.bool true) ∧ Kept [] W w')) := fun W hk => by
    have nn : ∀ {U : List Nat}, ∀ i ∈ U, i ∉ ([] : List Nat) := fun i _ hm => by simp at hm
    have h1 := alike_any W ov1 (.slice wa F.length wc) vs1 vs0 F F T1 Q0 hlF.out.1 hlF.out.2 (ON9.out.1.kept hk nn) (WT9.out.1.kept hk nn)
    have h3 := alike_any W ov3 (.slice wa F.length wc) vs3 vs0 F F T3 Q0 hlF.out.1 hlF.out.2 (TH9.out.1.kept hk nn) (WT9.out.1.kept hk nn)
    rw [decide_eq_true (rfl : F = F)] at h1 h3
    exact ⟨h1, h3⟩
  by_cases hyF : y < F.length
  · have hyF' : (y : Int) < (F.length : Int) := by omega
    have hcap : F.length ≤ wc := by
      rcases WT9.out.1.own.2 with ⟨h, _⟩ | ⟨_, _, _, h, _, _, hc, _⟩
      · simp only [Value.slice.injEq] at h; omega
      · simp only [Value.slice.injEq] at h; have := WT9.out.1.len; omega
    have hycap : y ≤ wc := by omega
    have AL := Lib.hid (alike_any w9 ov2 (.slice wa y wc) vs2 (vs0.take y) (F.take y) (F.take y) T2 Q0 (by rw [List.length_take]; have := hlF.out.1; omega) (fun i h => by rw [List.getElem_take]; exact hlF.out.2 i (by rw [List.length_take] at h; omega)) TW9.out.1 (WT9.out.1.take (by omega) (by omega)))
    rw [decide_eq_true (rfl : F.take y = F.take y)] at AL
    clear TW9
    go_wp2_with fail
    refine AL.out.mono ?_
    rintro e w10 ⟨rfl, k10⟩
    have L1 := Lib.hid (LAST.out w10 k10)
    have K10 := Lib.hid k10
    clear k10
    go_wp2_with fail
    refine L1.out.1.mono ?_
    rintro e w11 ⟨rfl, k11⟩
    have K11 : Hid (Kept [] w9 w11) := K10.out.trans k11 (fun i hi => by simp at hi)
    have L2 := Lib.hid (LAST.out w11 K11.out)
    clear k11
    go_wp2_with fail
    refine L2.out.2.mono ?_
    rintro e w12 ⟨rfl, k12⟩
    have K12 : Hid (Kept [] w w12) := (OK9.out.1.trans K11.out (fun i hi => by simp at hi)).trans k12 (fun i hi => by simp at hi)
    clear k12
    go_wp2_with fail
    go_ret
    exact ⟨rfl, K12.out⟩
  · have hyF' : ¬ (y : Int) < (F.length : Int) := by omega
    have e : F.take y = F := List.take_of_length_le (by omega)
    have AL := alike_any w9 ov2 (.slice wa F.length wc) vs2 vs0 (F.take y) F T2 Q0 (by rw [List.length_take]; have := hlF.out.1; omega) (fun i h => by rw [List.getElem_take]; exact hlF.out.2 i (by rw [List.length_take] at h; omega)) TW9.out.1 WT9.out.1
    rw [e, decide_eq_true (rfl : F = F)] at AL
    have ALh := Lib.hid AL
    clear TW9 e AL
    go_wp2_with fail
    refine ALh.out.mono ?_
    rintro e w10 ⟨rfl, k10⟩
    have L1 := Lib.hid (LAST.out w10 k10)
    have K10 := Lib.hid k10
    clear k10
    go_wp2_with fail
    refine L1.out.1.mono ?_
    rintro e w11 ⟨rfl, k11⟩
    have K11 : Hid (Kept [] w9 w11) := K10.out.trans k11 (fun i hi => by simp at hi)
    have L2 := Lib.hid (LAST.out w11 K11.out)
    clear k11
    go_wp2_with fail
    refine L2.out.2.mono ?_
    rintro e w12 ⟨rfl, k12⟩
    have K12 : Hid (Kept [] w w12) := (OK9.out.1.trans K11.out (fun i hi => by simp at hi)).trans k12 (fun i hi => by simp at hi)
    clear k12
    go_wp2_with fail
    go_ret
    exact ⟨rfl, K12.out⟩
end Law
end Go.Proofs.Ytgdaiajjnfnomaa
