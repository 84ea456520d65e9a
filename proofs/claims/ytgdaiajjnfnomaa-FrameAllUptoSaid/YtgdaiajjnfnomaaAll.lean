/- All: its box, and what its iterator goes through. -/
import Derived.Test.YtgdaiajjnfnomaaAlf
import Derived.Test.YtgdaiajjnfnomaaMad
namespace Go.Proofs.Ytgdaiajjnfnomaa
set_option linter.unusedVariables false
open Go.RowKit Go.Shelf
attribute [local go_sem] Oper.semAt_some

/-- A fresh cutter's cells. -/
def freshC (L : Nat) : Array Value := #[.int .u32 L, .int .u8 0, .int .u8 0, .int .u8 0, .int .u8 0, .int .i64 0, .slice none 0 0, .int .i64 0, .int .i64 0, .bool false]
theorem freshC_ct {w : World} {p L : Nat} (h : w.heap[p]? = some (.cells (freshC L) 52 (0, 0))) : Ct w p [p] ⟨L, [], 0, 0, false⟩ :=
  ⟨0, 0, 0, 0, .slice none 0 0, h, rfl, World.ownsRow_nil _ _ _ _, rfl⟩

/-- What All captures: a fresh cutter's pointer (none, where the limit is none) in one box, bytes of its own in another one. -/
structure Caught (w : World) (B1 B2 : Nat) (L : Nat) (good : Bool) (bs : List UInt8) (p : Nat) (v : Value) : Prop where
  b1 : w.heap[B1]? = some (.cells #[.pointer (if good = true then some ⟨p, 0, none⟩ else none)] 35 (0, 0))
  b2 : w.heap[B2]? = some (.cells #[v] 22 (0, 0))
  pt : good = true → w.heap[p]? = some (.cells (freshC L) 52 (0, 0))
  own : Own w 0 v bs
theorem Caught.kept {w w' : World} {B1 B2 L p : Nat} {good : Bool} {bs : List UInt8} {v : Value} {S : List Nat} (h : Caught w B1 B2 L good bs p v) (k : Kept S w w') (h1 : B1 ∉ S) (h2 : B2 ∉ S) (h3 : p ∉ S) (h4 : ∀ i, v.ownBlock = some i → i ∉ S) : Caught w' B1 B2 L good bs p v :=
  ⟨(k.block _ (block_lt h.b1) h1).trans h.b1, (k.block _ (block_lt h.b2) h2).trans h.b2, fun hg => (k.block _ (block_lt (h.pt hg)) h3).trans (h.pt hg), ownsRow_kept h.own k h4⟩

namespace Cut
theorem new_block (w : World) (x : Int) (n : Nat) (hx : x = n) (h1 : 7 ≤ n) (h2 : n ≤ 65536) :
    Calls Try.prog 11 #[.int .u32 x] w fun e w' => e = .returned (.pointer (some ⟨w.heap.size, 0, none⟩)) ∧ Hid (w'.heap[w.heap.size]? = some (.cells (freshC n) 52 (0, 0))) ∧ Kept [] w w' := by
  subst hx
  have e : limB n = true := decide_eq_true ⟨h1, h2⟩
  have LIM := Lib.hid (fun w => islimit_any w n n rfl)
  rw [e] at LIM
  clear e
  go_enter Try.func11, Try.ntmps11
  go_wp2_with fail
  refine (LIM.out _).mono ?_
  rintro e w1 ⟨rfl, rfl⟩
  go_wp2_with fail
  go_ret
  exact ⟨rfl, heap_alloc_new w _, (Kept.refl _ _).alloc _⟩

/-- All. -/
def AllOut (w : World) (L : Nat) (good : Bool) (bs : List UInt8) (e : Ending) (w' : World) : Prop :=
  ∃ B1 B2 p v, e = .returned (.func (.func 30) #[] #[.pointer (some ⟨B1, 0, none⟩), .pointer (some ⟨B2, 0, none⟩)]) ∧ Hid (Caught w' B1 B2 L good bs p v) ∧ Kept [] w w' ∧ Hid (∀ k ∈ B1 :: B2 :: p :: v.ownBlock.toList, w.heap.size ≤ k)
set_option maxRecDepth 100000 in
theorem all_good (w : World) (v : Value) (bs : List UInt8) (T : List Nat) (x : Int) (n : Nat) (hx : x = n) (h1 : 7 ≤ n) (h2 : n ≤ 65536) (hsz : bs.length ≤ 1152921504606) (hb : Hid (Src w v bs T)) :
    Calls Try.prog 21 #[v, .int .u32 x] w (AllOut w n true bs) := by
  subst hx
  obtain ⟨a, c, rfl⟩ := src_slice hb.out
  go_enter Try.func21, Try.ntmps21
  go_wp2_with fail
  refine (new_block w n n rfl h1 h2).mono ?_
  rintro e w1 ⟨rfl, hp, k1⟩
  have hb1 : Hid (Src w1 (.slice a bs.length c) bs T) := hb.out.kept k1 (fun _ _ hm => by simp at hm)
  have K1 := Lib.hid k1
  clear k1
  go_wp2_with fail
  refine (clone_any w1 _ bs T hsz hb1).mono ?_
  rintro e w2 ⟨v2, rfl, own2, k2⟩
  obtain ⟨xa, xc, rfl⟩ := own_slice own2.out
  have P2 : Hid (w2.heap[w.heap.size]? = some (.cells (freshC n) 52 (0, 0))) := (k2.block _ (block_lt hp.out) (by simp)).trans hp.out
  have K2 : Hid (Kept [] w w2) := K1.out.trans k2 (fun i hi => by simp at hi)
  have O2 : Hid (Own w2 0 (.slice xa bs.length xc) bs) := World.ownsRow.mono own2.out (Nat.zero_le _)
  have zz := K2.out.size
  have z1 := K1.out.size
  have FAR : Hid (∀ k ∈ w2.heap.size :: (w2.heap.size + 1) :: w.heap.size :: (Value.slice xa bs.length xc).ownBlock.toList, w.heap.size ≤ k) := fun k hk => by
    simp only [List.mem_cons, Option.mem_toList] at hk
    rcases hk with rfl | rfl | rfl | hk
    · exact zz
    · omega
    · exact Nat.le_refl _
    · have := (own2.out.lt k hk).1; omega
  clear k2 hp own2 zz z1
  go_wp2_with fail
  go_ret
  have ka : Kept [] w2 ((w2.alloc (.cells #[.pointer (some ⟨w.heap.size, 0, none⟩)] 35)).alloc (.cells #[.slice xa bs.length xc] 22)) := ((Kept.refl [] w2).alloc _).alloc _
  have nn : ∀ i, i ∉ ([] : List Nat) := fun i hm => by simp at hm
  refine ⟨w2.heap.size, w2.heap.size + 1, w.heap.size, .slice xa bs.length xc, rfl, ⟨?_, ?_, fun _ => (ka.block _ (block_lt P2.out) (nn _)).trans P2.out, ownsRow_kept O2.out ka (fun i _ => nn i)⟩, K2.out.trans ka (fun i hi => by simp at hi), FAR⟩
  · exact (((Kept.refl [] (w2.alloc _)).alloc _).block _ (by simp) (nn _)).trans (heap_alloc_new w2 _)
  · have := heap_alloc_new (w2.alloc (.cells #[.pointer (some ⟨w.heap.size, 0, none⟩)] 35)) (.cells #[.slice xa bs.length xc] 22)
    rwa [World.size_alloc] at this
set_option maxRecDepth 100000 in
theorem all_bad (w : World) (v : Value) (bs : List UInt8) (T : List Nat) (x : Int) (n : Nat) (hx : x = n) (h1 : limB n = false) (hsz : bs.length ≤ 1152921504606) (hb : Hid (Src w v bs T)) :
    Calls Try.prog 21 #[v, .int .u32 x] w (AllOut w n false bs) := by
  subst hx
  obtain ⟨a, c, rfl⟩ := src_slice hb.out
  have NEW := Lib.hid (fun w => new_bad w n n rfl h1)
  clear h1
  go_enter Try.func21, Try.ntmps21
  go_wp2_with fail
  refine (NEW.out w).mono ?_
  rintro e w1 ⟨rfl, rfl⟩
  go_wp2_with fail
  refine (clone_any w _ bs T hsz hb).mono ?_
  rintro e w2 ⟨v2, rfl, own2, k2⟩
  obtain ⟨xa, xc, rfl⟩ := own_slice own2.out
  have K2 : Hid (Kept [] w w2) := k2
  have O2 : Hid (Own w2 0 (.slice xa bs.length xc) bs) := World.ownsRow.mono own2.out (Nat.zero_le _)
  have zz := K2.out.size
  have FAR : Hid (∀ k ∈ w2.heap.size :: (w2.heap.size + 1) :: w.heap.size :: (Value.slice xa bs.length xc).ownBlock.toList, w.heap.size ≤ k) := fun k hk => by
    simp only [List.mem_cons, Option.mem_toList] at hk
    rcases hk with rfl | rfl | rfl | hk
    · exact zz
    · omega
    · exact Nat.le_refl _
    · have := (own2.out.lt k hk).1; omega
  clear k2 own2 zz
  go_wp2_with fail
  go_ret
  have ka : Kept [] w2 ((w2.alloc (.cells #[.pointer none] 35)).alloc (.cells #[.slice xa bs.length xc] 22)) := ((Kept.refl [] w2).alloc _).alloc _
  have nn : ∀ i, i ∉ ([] : List Nat) := fun i hm => by simp at hm
  refine ⟨w2.heap.size, w2.heap.size + 1, w.heap.size, .slice xa bs.length xc, rfl, ⟨?_, ?_, (fun h => by cases h), ownsRow_kept O2.out ka (fun i _ => nn i)⟩, K2.out.trans ka (fun i hi => by simp at hi), FAR⟩
  · exact (((Kept.refl [] (w2.alloc _)).alloc _).block _ (by simp) (nn _)).trans (heap_alloc_new w2 _)
  · have := heap_alloc_new (w2.alloc (.cells #[.pointer none] 35)) (.cells #[.slice xa bs.length xc] 22)
    rwa [World.size_alloc] at this

/-- What a frame is that the iterator gives. -/
def GivF (Rs : List Nat) (A W : World) (x : Value × List UInt8) : Prop := Own W A.heap.size x.1 x.2 ∧ ∀ k, x.1.ownBlock = some k → k ∉ Rs

end Cut
theorem CS.Ok.fed {st : CS} (ok : st.Ok) (l : List UInt8) : (st.fedS l).Ok := by
  have o1 := ok.sized l
  by_cases h4 : (st.sized l).hand.length < 4
  · have hd : l.drop (st.sizeK l) = [] := CS.sized_short h4
    have e : st.fedS l = { st.sized l with fed := st.fed + st.feedK l } := by
      unfold CS.fedS CS.rested
      rw [hd]
      simp
    rw [e]
    exact ⟨o1.l1, o1.l2, o1.live, o1.died⟩
  · have hh : (st.fedS l).hand = (st.sized l).hand ++ (l.drop (st.sizeK l)).take ((st.sized l).restK (l.drop (st.sizeK l))) := rfl
    have hs : (st.fedS l).says = (st.sized l).says := by
      unfold CS.says
      rw [hh, List.take_append_of_le_length (by omega)]
    have hlen : (st.fedS l).hand.length ≤ (st.sized l).hand.length + (st.sized l).want := by
      rw [hh, List.length_append, List.length_take]
      unfold CS.restK
      omega
    refine ⟨o1.l1, o1.l2, fun hd _ => ?_, fun hd => ?_⟩
    · have hd' : (st.sized l).dead = false := hd
      obtain ⟨a1, a2, a3⟩ := o1.live hd' (by omega)
      have hw : (st.sized l).want = (st.sized l).says - (st.sized l).hand.length := by unfold CS.want; rw [if_neg (by rw [hd']; simp), if_neg h4]
      rw [hs]
      exact ⟨a1, a2, by omega⟩
    · have hd' : (st.sized l).dead = true := hd
      have hw : (st.sized l).want = 0 := by unfold CS.want; rw [if_pos hd']
      have h5 := o1.died hd'
      have h6 : (st.sized l).hand.length ≤ (st.fedS l).hand.length := by rw [hh, List.length_append]; omega
      omega
namespace Cut

/-- What is left to be cut. -/
def Rst (w : World) (v : Value) (r : List UInt8) (T : List Nat) : Prop := ∃ a c, v = .slice a r.length c ∧ r.length ≤ c ∧ c ≤ 9223372036854775807 ∧ Src w v r T
theorem Rst.kept {w w' : World} {v : Value} {r : List UInt8} {T S : List Nat} (h : Rst w v r T) (hk : Kept S w w') (hd : ∀ k ∈ T, k ∉ S) : Rst w' v r T := by
  obtain ⟨a, c, h1, h2, h3, h4⟩ := h
  exact ⟨a, c, h1, h2, h3, h4.kept hk hd⟩
theorem Rst.of_own {w : World} {B : Nat} {v : Value} {l : List UInt8} (h : Own w B v l) : Rst w v l v.ownBlock.toList := by
  have hs := Src.of_own h
  rcases h.2 with ⟨rfl, h0⟩ | ⟨g, cap, cur, rfl, _, _, hc, hm, _⟩
  · exact ⟨none, 0, by rw [h0], by omega, by omega, hs⟩
  · exact ⟨_, cap, rfl, hc, by unfold maxLen at hm; omega, hs⟩
/-- Its tail, in the two spellings that a cut has. -/
theorem Rst.drop {w : World} {ad : Addr} {c k : Nat} {r : List UInt8} {T : List Nat} (h : Rst w (.slice (some ad) r.length c) r T) (hk : k ≤ r.length) : Rst w (.slice (some (ad.add k)) (r.length - k) (c - k)) (r.drop k) T := by
  obtain ⟨a', c', e1, h2, h3, a2, c2, e2, -, h5⟩ := h
  cases e1
  cases e2
  rw [← List.length_drop]
  refine ⟨_, _, rfl, by rw [List.length_drop]; omega, by omega, _, _, rfl, (fun e => by cases e), fun ad' e => ?_⟩
  cases e
  refine ⟨fun hp => by rw [add_block]; exact (h5 ad rfl).1 (by rw [List.length_drop] at hp; omega), fun j u hu => ?_⟩
  rw [List.map_drop, List.getElem?_drop] at hu
  rw [Addr.add_add]
  exact (h5 ad rfl).2 (k + j) u hu
theorem Rst.none {w : World} {a : Option Addr} {r : List UInt8} {T : List Nat} (hr : r = []) : Rst w (.slice a 0 0) r T ∨ a = Option.none := by
  subst hr
  cases a with
  | none => exact Or.inr rfl
  | some ad => exact Or.inl ⟨some ad, 0, rfl, Nat.le_refl _, by decide, some ad, 0, rfl, (fun e => by cases e), fun ad' e => ⟨fun hp => by simp at hp, fun j u hu => by simp at hu⟩⟩

set_option maxHeartbeats 8000000 in
set_option maxRecDepth 100000 in
theorem all1_iter (m0 : Nat) (w0 : World) (B1 B2 L p : Nat) (bs : List UInt8) (v : Value) (h7 : 7 ≤ L) (hL : L ≤ 65536) (hsz : bs.length ≤ 1152921504) (hc : Hid (Caught w0 B1 B2 L true bs p v)) :
    IterSt Fence.wide (m0 + 3) Try.prog 30 #[.pointer (some ⟨B1, 0, none⟩), .pointer (some ⟨B2, 0, none⟩)] (fun x : Value × List UInt8 => #[x.1]) (fun xs => xs.map (·.2) <+: frames L bs) (fun xs => xs.map (·.2) = frames L bs) GivF v.ownBlock.toList w0 := by
  intro l J Jx W hW hJ hY hS
  have hc1 : Hid (Caught W B1 B2 L true bs p v) := hc.out.kept hW (by simp) (by simp) (by simp) (fun _ _ hm => by simp at hm)
  have e1 : W.cell? ⟨B1, 0, none⟩ = some (.pointer (some ⟨p, 0, none⟩)) := by rw [cell_of_row W B1 0 _ _ (0, 0) hc1.out.b1]; rfl
  have e2 : W.cell? ⟨B2, 0, none⟩ = some v := by rw [cell_of_row W B2 0 _ _ (0, 0) hc1.out.b2]; rfl
  obtain ⟨c0, c1, c2, c3, c4, c5, c6, c7, c8, c9, -⟩ := ten (hc1.out.pt rfl)
  have hR0 : Hid (Rst W v bs v.ownBlock.toList) := Rst.of_own hc1.out.own
  have hvT : Hid (∀ k ∈ v.ownBlock.toList, k < W.heap.size) := fun k hk => (hc1.out.own.lt k (by simpa using hk)).2
  obtain ⟨T, hT⟩ : ∃ T, T = v.ownBlock.toList := ⟨_, rfl⟩
  rw [← hT] at hR0 hvT hY
  obtain ⟨va, vc, hv⟩ := own_slice hc1.out.own
  subst hv
  clear hT
  refine callsIn_of_wp Try.func30 rfl trivial ?_ rfl
  simp only [Try.ntmps30, List.size_toArray, List.length_cons, List.length_nil, Nat.reduceAdd, Nat.reduceSub, Array.replicate_succ, Array.replicate_zero, List.push_toArray, List.append_toArray, List.nil_append, List.cons_append]
  refine wpIn_scope ?_
  have HY := Lib.hid hY
  have HJ := Lib.hid hJ
  have HS := Lib.hid hS
  have z1 : B1 < W.heap.size := block_lt hc1.out.b1
  have z2 : B2 < W.heap.size := block_lt hc1.out.b2
  have z3 : p < W.heap.size := block_lt (hc1.out.pt rfl)
  clear hY hJ hS hc hc1
  gi_wp2_with fail
  gi_region
  gi_wp2_with fail
  refine wpIn_label ?_
  obtain ⟨w1, hw1⟩ : ∃ w1, w1 = (W.alloc (.cells #[.int .u32 L, .int .u8 0, .int .u8 0, .int .u8 0, .int .u8 0, .int .i64 0, .slice none 0 0, .int .i64 0, .int .i64 0, .bool false] 52)).drew := ⟨_, rfl⟩
  have K1 : Kept [] W w1 := by rw [hw1]; exact ((Kept.refl [] W).alloc _).drew
  have P1 : w1.heap[W.heap.size]? = some (.cells (freshC L) 52 (0, 0)) := by rw [hw1]; exact heap_alloc_new W _
  rw [← hw1]
  clear hw1 e1 e2 c0 c1 c2 c3 c4 c5 c6 c7 c8 c9 z1 z2 z3
  obtain ⟨q, hq⟩ : ∃ q, q = W.heap.size := ⟨_, rfl⟩
  have hj0 := HS.out [q] w1 (fun i hi => by simp at hi; have := block_lt P1; omega) K1
  have C1 : Hid (Ct w1 q [q] ⟨L, [], 0, 0, false⟩) := by rw [hq]; exact freshC_ct P1
  have R1 : Hid (Rst w1 (.slice va bs.length vc) bs T) := hR0.out.kept K1 (fun _ _ hm => by simp at hm)
  have HJ0 := Lib.hid hj0
  have hvq : Hid (∀ k ∈ T, k < q) := by rw [hq]; exact hvT.out
  rw [← hq]
  clear hj0 HS K1 P1 hR0 hvT hW hq
  gi_wp2_with fail
  gi_loopw [5] (fun rv wr => ∃ (S : List Nat) (pre : List (Value × List UInt8)) (r : List UInt8) (fd : Nat), Hid (frames L bs = pre.map (·.2) ++ frames L r) ∧ fd + r.length = bs.length ∧ pre.length ≤ fd ∧ Hid (Ct wr q S ⟨L, [], fd, pre.length, false⟩) ∧ Hid (Rst wr rv r T) ∧ Hid (J S pre wr) ∧ Hid (∀ i ∈ S, q ≤ i)) (fun rv _ => lenOf rv)
  case atStart => exact ⟨[q], [], bs, 0, rfl, by omega, Nat.le_refl _, C1, R1, HJ0.out, fun i hi => by simp at hi; omega⟩
  case round =>
    clear C1 R1 HJ0
    obtain ⟨S, pre, r, fd, hfr, hfd, hpl, hct, hrst, hj, hSq⟩ := hrel
    have hpf : pre.length ≤ 1152921504606846976 := by omega
    have ok : Hid (⟨L, [], fd, pre.length, false⟩ : CS).Ok := ⟨h7, hL, fun _ h => by simp at h, fun h => by simp at h⟩
    have hTS : Hid (∀ k ∈ T, k ∉ S) := fun k hk hm => by have := hvq.out k hk; have := hSq.out k hm; omega
    obtain ⟨a, c, rfl, hrc, hc2, -⟩ := id hrst.out
    -- CASES
    by_cases hf : hasFrame L r
    · obtain ⟨s, hs⟩ : ∃ s, s = leval (r.take 4) := ⟨_, rfl⟩
      obtain ⟨q1, q2, q3⟩ := hf
      have q4 := (rightB_iff _ _).1 q2
      rw [← hs] at q3 q4
      have hFrm := hasFrame_frm (L := L) (bs := r) ⟨q1, q2, by rw [← hs]; exact q3⟩
      have hFS := frames_some (L := L) (bs := r) ⟨q1, q2, by rw [← hs]; exact q3⟩
      rw [← hs] at hFrm hFS
      obtain ⟨f, hfe⟩ : ∃ f, f = r.take s := ⟨_, rfl⟩
      obtain ⟨r', hre⟩ : ∃ r', r' = r.drop s := ⟨_, rfl⟩
      have hfl : f.length = s := by rw [hfe, List.length_take]; omega
      have hrl : r'.length = r.length - s := by rw [hre, List.length_drop]
      rw [← hfe] at hFrm hFS
      rw [← hre] at hFS
      have hFF := CS.feed_frame (st := ⟨L, [], fd, pre.length, false⟩) r' rfl rfl hFrm
      rw [show f ++ r' = r by rw [hfe, hre, List.take_append_drop], hfl] at hFF
      have HFRM := Lib.hid hFrm
      have HF1 := Lib.hid hFF.1
      have HF2 : Hid (CS.fedS ⟨L, [], fd, pre.length, false⟩ r = ⟨L, f, fd + s, pre.length, false⟩) := hFF.2
      have HFL := Lib.hid hfl
      have HRE := Lib.hid hre
      have HRL := Lib.hid hrl
      have hfr2 : Hid (frames L bs = (pre.map (·.2) ++ [f]) ++ frames L r') := by
        have := hfr.out
        rw [hFS] at this
        show _ = _
        rw [this]
        simp
      have hs0 : ((s : Int) == 0) = false := by rw [beq_eq_false_iff_ne]; omega
      have q7 : 7 ≤ s := q4.1
      clear hs q1 q2 q4 hFrm hFS hfe hre hfl hrl hFF hfr
      obtain ⟨ad, rfl⟩ : ∃ ad, a = some ad := by
        obtain ⟨a', c', e1, -, -, a2, c3, e2, h5, -⟩ := hrst.out
        cases e1
        cases e2
        cases a with
        | none => have := (h5 rfl).1; rw [this] at q3; simp at q3; omega
        | some ad => exact ⟨ad, rfl⟩
      gi_wp2_with fail
      refine wpIn_loop_rounds 2 ?_
      rw [roundsIn_succ]
      gi_wp2_with fail
      refine ⟨trivial, (callsIn_wide.2 (whole_any wr q S _ ok hct)).mono ?_⟩
      rintro e w2 ⟨rfl, k2⟩
      rw [show (⟨L, [], fd, pre.length, false⟩ : CS).whole = false from rfl]
      have hct2 : Hid (Ct w2 q S ⟨L, [], fd, pre.length, false⟩) := hct.out.kept k2 (fun _ _ hm => by simp at hm)
      have hj2 : Hid (J S pre w2) := HJ.out _ _ _ _ _ hj.out (k2.mono (fun i hi => by simp at hi)) (fun i hi => Or.inl hi)
      have hrst2 : Hid (Rst w2 (.slice (some ad) r.length c) r T) := hrst.out.kept k2 (fun _ _ hm => by simp at hm)
      have hsrc2 : Hid (Src w2 (.slice (some ad) r.length c) r T) := by
        obtain ⟨a', c', e1, -, -, h5⟩ := hrst2.out
        exact h5
      have FEED := feed_any w2 q S T ⟨L, [], fd, pre.length, false⟩ (some ad) c r (by omega) hrc hc2 (by show fd ≤ _; omega) ok hsrc2 hTS hct2
      rw [HF1.out, HF2.out] at FEED
      have FEEDh := Lib.hid FEED
      clear FEED hct hj hrst hsrc2 k2
      gi_wp2_with fail
      refine ⟨trivial, (callsIn_wide.2 FEEDh.out).mono ?_⟩
      rintro e w3 ⟨rfl, S3, c3, k3, s3⟩
      have hj3 : Hid (J S3 pre w3) := HJ.out _ _ _ _ _ hj2.out k3.out (fun i hi => (s3.out i hi).imp id (fun h => ⟨h, c3.out.lt i hi⟩))
      have hrst3 : Hid (Rst w3 (.slice (some ad) r.length c) r T) := hrst2.out.kept k3.out hTS.out
      have hS3q : Hid (∀ i ∈ S3, q ≤ i) := fun i hi => by
        rcases s3.out i hi with h | h
        · exact hSq.out i h
        · obtain ⟨_, _, _, _, _, h8, _⟩ := hct2.out
          have := block_lt h8
          omega
      have ok3 : Hid (⟨L, f, fd + s, pre.length, false⟩ : CS).Ok := ⟨h7, hL, fun _ h => ⟨by show 7 ≤ leval (f.take 4); rw [HFRM.out.says, HFL.out]; exact q7, by show leval (f.take 4) ≤ _; rw [HFRM.out.says]; have := HFRM.out.nL; omega, by show f.length ≤ leval (f.take 4); rw [HFRM.out.says]; omega⟩, fun h => by simp at h⟩
      obtain ⟨n1, n2, n3⟩ := CS.next_frame (st := ⟨L, f, fd + s, pre.length, false⟩) (L := L) rfl rfl HFRM.out
      have N1 := Lib.hid n1
      have N2 := Lib.hid n2
      have N3 := Lib.hid n3
      have hd1 := hrst3.out.drop q3
      have HD1 := Lib.hid hd1
      have hsc : s ≤ c := by omega
      clear n1 n2 n3 FEEDh hd1 k3 s3 hj2 hct2 hrst2
      have hcase : ∃ a' c', ((c = s ∧ a' = some ad ∧ c' = 0) ∨ (s < c ∧ a' = some (ad.add s) ∧ c' = c - s)) ∧ Hid (Rst w3 (.slice a' (r.length - s) c') r' T) := by
        by_cases hcap : c = s
        · refine ⟨some ad, 0, Or.inl ⟨hcap, rfl, rfl⟩, ?_⟩
          have h0 : r' = [] := List.eq_nil_of_length_eq_zero (by rw [HRL.out]; omega)
          rcases Rst.none (w := w3) (a := some ad) (T := T) h0 with h | h
          · rw [show r.length - s = 0 by omega]; exact h
          · cases h
        · exact ⟨_, _, Or.inr ⟨by omega, rfl, rfl⟩, by rw [HRE.out]; exact HD1.out⟩
      obtain ⟨a', c', hcase, hrst4⟩ := hcase
      rcases hcase with ⟨rfl, rfl, rfl⟩ | ⟨hcap, ha, hc'⟩
      · have hl0 : r.length - c = 0 := by omega
        rw [hl0] at hrst4
        gi_wp2_with fail
        rw [roundsIn_succ]
        gi_wp2_with fail
        refine ⟨trivial, (callsIn_wide.2 (whole_any w3 q S3 _ ok3 c3)).mono ?_⟩
        rintro e w4 ⟨rfl, k4⟩
        rw [N1.out]
        have c4 : Hid (Ct w4 q S3 ⟨L, f, fd + c, pre.length, false⟩) := c3.out.kept k4 (fun _ _ hm => by simp at hm)
        have hj4 : Hid (J S3 pre w4) := HJ.out _ _ _ _ _ hj3.out (k4.mono (fun i hi => by simp at hi)) (fun i hi => Or.inl hi)
        have K4 := Lib.hid k4
        clear k4
        gi_wp2_with fail
        refine ⟨trivial, (callsIn_wide.2 (next_any w4 q S3 _ ok3 (by show pre.length ≤ _; omega) c4)).mono ?_⟩
        rintro e w5 ⟨v5, S5, rfl, o5, c5, k5, s5⟩
        rw [N1.out]
        rw [N2.out] at o5
        rw [N3.out] at c5
        have hj5 : Hid (J S3 pre w5) := HJ.out _ _ _ _ _ hj4.out k5.out (fun i hi => Or.inl hi)
        have hgiv : Hid (GivF S3 w4 w5 (v5, f)) := ⟨o5.out, fun k hk hm => by have a := (o5.out.lt k hk).1; have b := c4.out.lt k hm; omega⟩
        have hC : Hid (((pre ++ [(v5, f)]).map (·.2)) <+: frames L bs) := ⟨frames L r', by rw [hfr2.out]; simp⟩
        obtain ⟨fn, tmps, assign, body, hy, hR⟩ := HY.out S3 pre (v5, f) w4 w5 hj4.out hj5.out k5.out hgiv.out hC.out
        dsimp only at hy
        have hRh := Lib.hid hR
        have K5 := Lib.hid k5.out
        obtain ⟨v5a, v5c, rfl⟩ := own_slice o5.out
        have hrst5 : Hid (Rst w5 (.slice (some ad) 0 0) r' T) := (hrst4.out.kept K4.out (fun _ _ hm => by simp at hm)).kept K5.out (fun k hk hm => by have := hvq.out k hk; have := hS3q.out k hm; omega)
        clear hR hj3 hj4 hj5 K4 k5 hrst4 hrst3
        gi_wp2_with fail
        refine hRh.out.mono ?_
        rintro e W6 (⟨rfl, hj6, S6, k6, hS6⟩ | ⟨rfl, hx⟩)
        · have c6 : Hid (Ct W6 q S5 ⟨L, [], fd + c, pre.length + 1, false⟩) := c5.out.kept k6 (fun k hk hm => (hS6 _ hm).1 (s5.out k hk))
          have hrst6 : Hid (Rst W6 (.slice (some ad) 0 0) r' T) := hrst5.out.kept k6 (fun k hk hm => (hS6 _ hm).2 hk)
          have hj7 : Hid (J S5 (pre ++ [(.slice v5a f.length v5c, f)]) W6) := HJ.out _ _ _ _ _ hj6 (Kept.refl _ _) (fun i hi => Or.inl (s5.out i hi))
          have hl6 := HRL.out
          clear hy hj6 k6 hS6 hrst5 c5 hgiv o5
          gi_wp2_with fail
          go_roundw
          case rel => exact ⟨S5, pre ++ [(.slice v5a f.length v5c, f)], r', fd + c, by show _ = _; rw [hfr2.out]; simp, by omega, by rw [List.length_append]; simp; omega, by rw [List.length_append]; exact c6, hrst6, hj7, fun i hi => hS3q.out i (s5.out i hi)⟩
          case measure => simp [lenOf]; omega
        · have hfin : Hid (((∃ Rs xs, (fun xs : List (Value × List UInt8) => xs.map (·.2) = frames L bs) xs ∧ J Rs xs W6) ∨ ∃ Rs pre, (fun xs : List (Value × List UInt8) => xs.map (·.2) <+: frames L bs) pre ∧ Jx Rs pre W6)) := Or.inr ⟨_, _, hC.out, hx⟩
          clear hy
          gi_wp2_with fail
          rw [Exit.noGoto_ret]
          refine bodyPost_ret (results_none rfl _ _ _) rfl ?_
          exact ⟨⟨_, rfl⟩, hfin.out⟩
      · subst ha hc'
        gi_wp2_with fail
        rw [roundsIn_succ]
        gi_wp2_with fail
        refine ⟨trivial, (callsIn_wide.2 (whole_any w3 q S3 _ ok3 c3)).mono ?_⟩
        rintro e w4 ⟨rfl, k4⟩
        rw [N1.out]
        have c4 : Hid (Ct w4 q S3 ⟨L, f, fd + s, pre.length, false⟩) := c3.out.kept k4 (fun _ _ hm => by simp at hm)
        have hj4 : Hid (J S3 pre w4) := HJ.out _ _ _ _ _ hj3.out (k4.mono (fun i hi => by simp at hi)) (fun i hi => Or.inl hi)
        have K4 := Lib.hid k4
        clear k4
        gi_wp2_with fail
        refine ⟨trivial, (callsIn_wide.2 (next_any w4 q S3 _ ok3 (by show pre.length ≤ _; omega) c4)).mono ?_⟩
        rintro e w5 ⟨v5, S5, rfl, o5, c5, k5, s5⟩
        rw [N1.out]
        rw [N2.out] at o5
        rw [N3.out] at c5
        have hj5 : Hid (J S3 pre w5) := HJ.out _ _ _ _ _ hj4.out k5.out (fun i hi => Or.inl hi)
        have hgiv : Hid (GivF S3 w4 w5 (v5, f)) := ⟨o5.out, fun k hk hm => by have a := (o5.out.lt k hk).1; have b := c4.out.lt k hm; omega⟩
        have hC : Hid (((pre ++ [(v5, f)]).map (·.2)) <+: frames L bs) := ⟨frames L r', by rw [hfr2.out]; simp⟩
        obtain ⟨fn, tmps, assign, body, hy, hR⟩ := HY.out S3 pre (v5, f) w4 w5 hj4.out hj5.out k5.out hgiv.out hC.out
        dsimp only at hy
        have hRh := Lib.hid hR
        have K5 := Lib.hid k5.out
        obtain ⟨v5a, v5c, rfl⟩ := own_slice o5.out
        have hrst5 : Hid (Rst w5 (.slice (some (ad.add s)) (r.length - s) (c - s)) r' T) := (hrst4.out.kept K4.out (fun _ _ hm => by simp at hm)).kept K5.out (fun k hk hm => by have := hvq.out k hk; have := hS3q.out k hm; omega)
        clear hR hj3 hj4 hj5 K4 k5 hrst4 hrst3
        gi_wp2_with fail
        refine hRh.out.mono ?_
        rintro e W6 (⟨rfl, hj6, S6, k6, hS6⟩ | ⟨rfl, hx⟩)
        · have c6 : Hid (Ct W6 q S5 ⟨L, [], fd + s, pre.length + 1, false⟩) := c5.out.kept k6 (fun k hk hm => (hS6 _ hm).1 (s5.out k hk))
          have hrst6 : Hid (Rst W6 (.slice (some (ad.add s)) (r.length - s) (c - s)) r' T) := hrst5.out.kept k6 (fun k hk hm => (hS6 _ hm).2 hk)
          have hj7 : Hid (J S5 (pre ++ [(.slice v5a f.length v5c, f)]) W6) := HJ.out _ _ _ _ _ hj6 (Kept.refl _ _) (fun i hi => Or.inl (s5.out i hi))
          have hl6 := HRL.out
          clear hy hj6 k6 hS6 hrst5 c5 hgiv o5
          gi_wp2_with fail
          go_roundw
          case rel => exact ⟨S5, pre ++ [(.slice v5a f.length v5c, f)], r', fd + s, by show _ = _; rw [hfr2.out]; simp, by omega, by rw [List.length_append]; simp; omega, by rw [List.length_append]; exact c6, hrst6, hj7, fun i hi => hS3q.out i (s5.out i hi)⟩
          case measure => simp [lenOf]; omega
        · have hfin : Hid (((∃ Rs xs, (fun xs : List (Value × List UInt8) => xs.map (·.2) = frames L bs) xs ∧ J Rs xs W6) ∨ ∃ Rs pre, (fun xs : List (Value × List UInt8) => xs.map (·.2) <+: frames L bs) pre ∧ Jx Rs pre W6)) := Or.inr ⟨_, _, hC.out, hx⟩
          clear hy
          gi_wp2_with fail
          rw [Exit.noGoto_ret]
          refine bodyPost_ret (results_none rfl _ _ _) rfl ?_
          exact ⟨⟨_, rfl⟩, hfin.out⟩
    · obtain ⟨t1, t2, t3, t4⟩ := CS.feed_stuck (st := ⟨L, [], fd, pre.length, false⟩) (bs := r) rfl rfl hf
      have hFN : Hid (pre.map (·.2) = frames L bs) := by
        have := hfr.out
        rw [frames_none hf, List.append_nil] at this
        exact this.symm
      clear hf hfr
      obtain ⟨k, hk⟩ : ∃ k, k = CS.feedK ⟨L, [], fd, pre.length, false⟩ r := ⟨_, rfl⟩
      obtain ⟨st1, hst1⟩ : ∃ s, s = CS.fedS ⟨L, [], fd, pre.length, false⟩ r := ⟨_, rfl⟩
      have ok1 : Hid st1.Ok := by rw [hst1]; exact ok.out.fed r
      have hfd1 : st1.fed = fd + k := by rw [hst1, hk]; rfl
      rw [← hk] at t2 t3 t4
      rw [← hst1] at t1 t2
      have T1 := Lib.hid t1
      have T2 := Lib.hid t2
      have hkh := Lib.hid hk
      have hsth := Lib.hid hst1
      have hfdh := Lib.hid hfd1
      clear t1 t2 hk hst1 hfd1
      gi_wp2_with fail
      refine wpIn_loop_rounds 3 ?_
      rw [roundsIn_succ]
      gi_wp2_with fail
      refine ⟨trivial, (callsIn_wide.2 (whole_any wr q S _ ok hct)).mono ?_⟩
      rintro e w2 ⟨rfl, k2⟩
      rw [show (⟨L, [], fd, pre.length, false⟩ : CS).whole = false from rfl]
      have hct2 : Hid (Ct w2 q S ⟨L, [], fd, pre.length, false⟩) := hct.out.kept k2 (fun _ _ hm => by simp at hm)
      have hj2 : Hid (J S pre w2) := HJ.out _ _ _ _ _ hj.out (k2.mono (fun i hi => by simp at hi)) (fun i hi => Or.inl hi)
      have hrst2 : Hid (Rst w2 (.slice a r.length c) r T) := hrst.out.kept k2 (fun _ _ hm => by simp at hm)
      have hsrc2 : Hid (Src w2 (.slice a r.length c) r T) := by
        obtain ⟨a', c', e1, -, -, h5⟩ := hrst2.out
        exact h5
      have FEED := feed_any w2 q S T ⟨L, [], fd, pre.length, false⟩ a c r (by omega) hrc hc2 (by show fd ≤ _; omega) ok hsrc2 hTS hct2
      rw [← hkh.out, ← hsth.out] at FEED
      have FEEDh := Lib.hid FEED
      clear FEED hct hj hrst hsrc2 k2
      by_cases hk0 : k = 0
      · have hz : ((k : Int) == 0) = true := by rw [hk0]; rfl
        clear hk0 t4
        gi_wp2_with fail
        refine ⟨trivial, (callsIn_wide.2 FEEDh.out).mono ?_⟩
        rintro e w3 ⟨rfl, S3, c3, k3, s3⟩
        have hj3 : Hid (J S3 pre w3) := HJ.out _ _ _ _ _ hj2.out k3.out (fun i hi => (s3.out i hi).imp id (fun h => ⟨h, c3.out.lt i hi⟩))
        have hfin : Hid (((∃ Rs xs, (fun xs : List (Value × List UInt8) => xs.map (·.2) = frames L bs) xs ∧ J Rs xs w3) ∨ ∃ Rs pre, (fun xs : List (Value × List UInt8) => xs.map (·.2) <+: frames L bs) pre ∧ Jx Rs pre w3)) := Or.inl ⟨_, _, hFN.out, hj3.out⟩
        gi_wp2_with fail
        (rw [Exit.noGoto_normal]; go_end0; exact ⟨⟨_, rfl⟩, hfin.out⟩)
      · have hz : ((k : Int) == 0) = false := by rw [beq_eq_false_iff_ne]; omega
        obtain ⟨ad, rfl⟩ : ∃ ad, a = some ad := by
          obtain ⟨a', c', e1, -, -, a2, c3, e2, h5, -⟩ := hrst2.out
          cases e1
          cases e2
          cases a with
          | none => have := (h5 rfl).1; rw [this] at t3; simp at t3; omega
          | some ad => exact ⟨ad, rfl⟩
        gi_wp2_with fail
        refine ⟨trivial, (callsIn_wide.2 FEEDh.out).mono ?_⟩
        rintro e w3 ⟨rfl, S3, c3, k3, s3⟩
        have hj3 : Hid (J S3 pre w3) := HJ.out _ _ _ _ _ hj2.out k3.out (fun i hi => (s3.out i hi).imp id (fun h => ⟨h, c3.out.lt i hi⟩))
        have hrst3 : Hid (Rst w3 (.slice (some ad) r.length c) r T) := hrst2.out.kept k3.out hTS.out
        have hS3q : Hid (∀ i ∈ S3, q ≤ i) := fun i hi => by
          rcases s3.out i hi with h | h
          · exact hSq.out i h
          · obtain ⟨_, _, _, _, _, h8, _⟩ := hct2.out
            have := block_lt h8
            omega
        have HD1 := Lib.hid (hrst3.out.drop t3)
        obtain ⟨r', hre⟩ : ∃ r', r' = r.drop k := ⟨_, rfl⟩
        have hrl : r'.length = r.length - k := by rw [hre, List.length_drop]
        rw [← hre] at T2 HD1
        have HRL := Lib.hid hrl
        have hkc : k ≤ c := by omega
        have hTS3 : Hid (∀ i ∈ T, i ∉ S3) := fun i hi hm => by have := hvq.out i hi; have := hS3q.out i hm; omega
        clear hre hrl FEEDh k3 s3 hj2 hct2 hrst2
        have hcase : ∃ a' c', ((c = k ∧ a' = some ad ∧ c' = 0) ∨ (k < c ∧ a' = some (ad.add k) ∧ c' = c - k)) ∧ Hid (Rst w3 (.slice a' (r.length - k) c') r' T) := by
          by_cases hcap : c = k
          · refine ⟨some ad, 0, Or.inl ⟨hcap, rfl, rfl⟩, ?_⟩
            have h0 : r' = [] := List.eq_nil_of_length_eq_zero (by rw [HRL.out]; omega)
            rcases Rst.none (w := w3) (a := some ad) (T := T) h0 with h | h
            · rw [show r.length - k = 0 by omega]; exact h
            · cases h
          · exact ⟨_, _, Or.inr ⟨by omega, rfl, rfl⟩, HD1.out⟩
        obtain ⟨a', c', hcase, hrst4⟩ := hcase
        have hc'2 : r.length - k ≤ c' ∧ c' ≤ 9223372036854775807 := by
          rcases hcase with ⟨h1, h2, h3⟩ | ⟨h1, h2, h3⟩ <;> omega
        rcases hcase with ⟨rfl, rfl, rfl⟩ | ⟨hcap, ha, hc'⟩
        · have hl0 : r.length - c = 0 := by omega
          rw [hl0] at hrst4
          gi_wp2_with fail
          rw [roundsIn_succ]
          gi_wp2_with fail
          refine ⟨trivial, (callsIn_wide.2 (whole_any w3 q S3 _ ok1 c3)).mono ?_⟩
          rintro e w4 ⟨rfl, k4⟩
          rw [T1.out]
          have c4 : Hid (Ct w4 q S3 st1) := c3.out.kept k4 (fun _ _ hm => by simp at hm)
          have hj4 : Hid (J S3 pre w4) := HJ.out _ _ _ _ _ hj3.out (k4.mono (fun i hi => by simp at hi)) (fun i hi => Or.inl hi)
          have hsrc4 : Hid (Src w4 (.slice (some ad) r'.length 0) r' T) := by
            obtain ⟨_, _, e1, -, -, h5⟩ := hrst4.out
            rw [HRL.out]
            have := h5.kept k4 (fun _ _ hm => by simp at hm)
            rw [hl0]; exact this
          have FEED2 := feed_any w4 q S3 T st1 (some ad) 0 r' (by rw [HRL.out]; omega) (by rw [HRL.out]; exact hc'2.1) hc'2.2 (by rw [hfdh.out]; omega) ok1 hsrc4 hTS3 c4
          rw [T2.out, HRL.out] at FEED2
          rw [hl0] at FEED2
          have FEED2h := Lib.hid FEED2
          clear FEED2 k4 hrst3 hrst4 hsrc4
          gi_wp2_with fail
          refine ⟨trivial, (callsIn_wide.2 FEED2h.out).mono ?_⟩
          rintro e w5 ⟨rfl, S5, c5, k5, s5⟩
          have hj5 : Hid (J S5 pre w5) := HJ.out _ _ _ _ _ hj4.out k5.out (fun i hi => (s5.out i hi).imp id (fun h => ⟨h, c5.out.lt i hi⟩))
          have hfin : Hid (((∃ Rs xs, (fun xs : List (Value × List UInt8) => xs.map (·.2) = frames L bs) xs ∧ J Rs xs w5) ∨ ∃ Rs pre, (fun xs : List (Value × List UInt8) => xs.map (·.2) <+: frames L bs) pre ∧ Jx Rs pre w5)) := Or.inl ⟨_, _, hFN.out, hj5.out⟩
          gi_wp2_with fail
          (rw [Exit.noGoto_normal]; go_end0; exact ⟨⟨_, rfl⟩, hfin.out⟩)
        · subst ha hc'
          gi_wp2_with fail
          rw [roundsIn_succ]
          gi_wp2_with fail
          refine ⟨trivial, (callsIn_wide.2 (whole_any w3 q S3 _ ok1 c3)).mono ?_⟩
          rintro e w4 ⟨rfl, k4⟩
          rw [T1.out]
          have c4 : Hid (Ct w4 q S3 st1) := c3.out.kept k4 (fun _ _ hm => by simp at hm)
          have hj4 : Hid (J S3 pre w4) := HJ.out _ _ _ _ _ hj3.out (k4.mono (fun i hi => by simp at hi)) (fun i hi => Or.inl hi)
          have hsrc4 : Hid (Src w4 (.slice (some (ad.add k)) r'.length (c - k)) r' T) := by
            obtain ⟨_, _, e1, -, -, h5⟩ := hrst4.out
            rw [HRL.out]
            have := h5.kept k4 (fun _ _ hm => by simp at hm)
            exact this
          have FEED2 := feed_any w4 q S3 T st1 (some (ad.add k)) (c - k) r' (by rw [HRL.out]; omega) (by rw [HRL.out]; exact hc'2.1) hc'2.2 (by rw [hfdh.out]; omega) ok1 hsrc4 hTS3 c4
          rw [T2.out, HRL.out] at FEED2
          have FEED2h := Lib.hid FEED2
          clear FEED2 k4 hrst3 hrst4 hsrc4
          gi_wp2_with fail
          refine ⟨trivial, (callsIn_wide.2 FEED2h.out).mono ?_⟩
          rintro e w5 ⟨rfl, S5, c5, k5, s5⟩
          have hj5 : Hid (J S5 pre w5) := HJ.out _ _ _ _ _ hj4.out k5.out (fun i hi => (s5.out i hi).imp id (fun h => ⟨h, c5.out.lt i hi⟩))
          have hfin : Hid (((∃ Rs xs, (fun xs : List (Value × List UInt8) => xs.map (·.2) = frames L bs) xs ∧ J Rs xs w5) ∨ ∃ Rs pre, (fun xs : List (Value × List UInt8) => xs.map (·.2) <+: frames L bs) pre ∧ Jx Rs pre w5)) := Or.inl ⟨_, _, hFN.out, hj5.out⟩
          gi_wp2_with fail
          (rw [Exit.noGoto_normal]; go_end0; exact ⟨⟨_, rfl⟩, hfin.out⟩)
end Cut
end Go.Proofs.Ytgdaiajjnfnomaa
