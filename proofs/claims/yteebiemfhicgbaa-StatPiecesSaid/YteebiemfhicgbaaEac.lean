/- Each: the iterator over records, and what it goes through. -/
import Derived.Test.YteebiemfhicgbaaRcs
import Derived.Test.YteebiemfhicgbaaRdc
import Derived.Test.YteebiemfhicgbaaRgf
import Derived.RangeFuncNested
import Derived.RangeFuncBound
import Derived.RangeFuncCalls
import Derived.RangeFuncLeaves
import Derived.Shelf.Abstract
import Derived.Shelf.RegionOpen
import Derived.WalkKit
import Derived.OwnWalkIn
import Derived.TacticsInMore
import Derived.LoopNIn
import Derived.LoopIn
namespace Go.Proofs.Yteebiemfhicgbaa
set_option linter.unusedVariables false
open Go.RowKit Go.Shelf
attribute [local go_sem] Oper.semAt_some

/-- How far a reader still has to go, read off the world. -/
def leftOf (n r : Nat) (w : World) : Nat := match w.cell? ⟨r, 1, none⟩ with | some (.int _ x) => n - x.toNat | _ => 0
theorem leftOf_eq {n r : Nat} {w : World} {T : List Nat} {st : RS} (h : Rd w r T st) : leftOf n r w = n - st.pos := by
  obtain ⟨v, c0, c1, -⟩ := h.parts
  unfold leftOf
  rw [c1]
  simp

namespace Stt
open Go.Proofs.Yteebiemfhicgbaa.Txt

set_option maxRecDepth 100000 in
theorem each_any (w : World) (v : Value) (bs : List UInt8) (T : List Nat) (hsz : bs.length ≤ 1152921504606) (hb : Hid (Src w v bs T)) :
    Calls Try.prog 46 #[v] w fun e w' => ∃ B v' T', e = .returned (.func (.func 95) #[] #[.pointer (some ⟨B, 0, none⟩)]) ∧ w'.heap[B]? = some (.cells #[v'] 22 (0, 0)) ∧ Hid (Src w' v' bs T') ∧ Kept [] w w' ∧ w.heap.size ≤ B ∧ Hid (∀ k ∈ T', w.heap.size ≤ k ∧ k < w'.heap.size) := by
  go_enter Try.func46, Try.ntmps46
  go_wp2_with fail
  refine (Wrt.clone_any _ v bs T hsz hb).mono ?_
  rintro e w1 ⟨v', rfl, h1, k1⟩
  have h1' : w1.ownsRow w.heap.size 5 1 v' bs.length (bs.map bv) := h1.out
  obtain ⟨a, c, rfl⟩ := own_slice_b h1'
  have H1 := Lib.hid h1'
  clear h1'
  go_wp2_with fail
  go_ret
  have hk : Kept [] w1 (w1.alloc (.cells #[.slice a bs.length c] 22)) := (Kept.refl _ _).alloc _
  have hl := H1.out.lt
  refine ⟨w1.heap.size, .slice a bs.length c, (Value.slice a bs.length c).ownBlock.toList, rfl, heap_alloc_new w1 _, ?_, k1.trans hk (fun i hi => Or.inl hi), k1.size, fun k hm => ?_⟩
  · exact ((Seg.of_own H1.out).kept hk (fun k _ hm => by simp at hm)).src
  · have := hl _ (by simpa using hm); simp; omega

set_option maxHeartbeats 1000000 in
set_option maxRecDepth 100000 in
theorem each1_iter (w0 : World) (B : Nat) (v : Value) (bs : List UInt8) (T : List Nat) (hsz : bs.length ≤ 1152921504606) (hB : w0.heap[B]? = some (.cells #[v] 22 (0, 0))) (hs : Hid (Src w0 v bs T)) (hT : Hid (∀ k ∈ T, k < w0.heap.size)) :
    IterAt Fence.wide 3 Try.prog 95 #[.pointer (some ⟨B, 0, none⟩)] (fun p : Nat × Rec => #[.int .i64 p.1, p.2.val]) (allRecs bs) w0 := by
  intro l J W hW hJ hY hS
  have hB' : W.heap[B]? = some (.cells #[v] 22 (0, 0)) := (hW.block _ (block_lt hB) (by simp)).trans hB
  have hs' : Hid (Src W v bs T) := hs.out.kept hW (fun _ _ hm => by simp at hm)
  have hc : W.cell? ⟨B, 0, none⟩ = some v := by rw [cell_of_row W B 0 _ 22 (0, 0) hB']; rfl
  refine callsIn_of_wp Try.func95 rfl trivial ?_ rfl
  simp only [Try.ntmps95, List.size_toArray, List.length_cons, List.length_nil, Nat.reduceAdd, Nat.reduceSub, Array.replicate_succ, Array.replicate_zero, List.push_toArray, List.append_toArray, List.nil_append, List.cons_append]
  clear hB hs hT hB'
  gi_wp2_with (refine ⟨trivial, ?_⟩; gi_at_call 31; refine (callsIn_wide.2 (Rdr.new_any _ v bs T hsz hs')).mono ?_; rintro e w1 ⟨r, T', rfl, h1, k1, hr, hT'⟩)
  have hj0 := hS (r :: T') w1 (fun i hi => by
    rcases List.mem_cons.1 hi with rfl | hi
    · exact ⟨hr, h1.out.lt⟩
    · exact hT'.out i hi) k1
  clear hS hs' hc
  gi_loopw [] (fun wr => ∃ (pre : List (Nat × Rec)) (k : Nat) (st : RS), allRecs bs = pre ++ recs k st ∧ st.left.length ≤ k ∧ Hid (Rd wr r T' st) ∧ st.err = 0 ∧ st.bad = 0 ∧ st.pos + st.left.length = bs.length ∧ J (r :: T') pre wr ∧ Hid (∀ k ∈ T', k < wr.heap.size)) (fun wr => leftOf bs.length r wr)
  case atStart => exact ⟨[], bs.length, ⟨bs, 0, 0, 0⟩, rfl, Nat.le_refl _, h1, rfl, rfl, by show 0 + bs.length = _; omega, hj0, fun k hk => (hT'.out k hk).2⟩
  case round =>
    obtain ⟨pre, k, st, hall, hk, hrd, he, hbad, hpos, hJp, hT2⟩ := hrel
    have LEFT := Rdr.left_any wr r T' st hrd
    rw [if_pos he] at LEFT
    by_cases hl : st.left.length = 0
    · have hrec : recs k st = [] := by
        cases k with
        | zero => rfl
        | succ k => unfold recs; rw [if_pos hl]
      rw [hl] at LEFT
      have hfin : Hid (J (r :: T') (allRecs bs) wr) := by rw [hall, hrec, List.append_nil]; exact hJp
      clear hrec hall hl hk hpos hJ hY hJp
      gi_wp2_with fail
      refine ⟨trivial, (callsIn_wide.2 LEFT).mono ?_⟩
      rintro e w2 ⟨rfl, rfl⟩
      gi_wp2_with fail
      go_end0
      exact ⟨⟨_, rfl⟩, r :: T', hfin.out⟩
    · obtain ⟨k', rfl⟩ : ∃ k', k = k' + 1 := ⟨k - 1, by omega⟩
      have AT := Rdr.at_any wr r T' st hrd
      have okst : Hid st.Ok := ⟨by omega, by rw [he]; decide, by rw [he]; decide⟩
      have TAKE := take_any wr r T' st hT2 okst (by omega) hrd
      have hrecs : recs (k' + 1) st = if st.took.err = 0 then (st.pos, st.rec') :: recs k' st.took else [] := by
        show (if st.left.length = 0 then [] else _) = _
        rw [if_neg hl]
      obtain ⟨m, hm⟩ : ∃ m : Nat, m = st.left.length := ⟨_, rfl⟩
      rw [← hm] at LEFT hl
      have hm0 : 0 < (m : Int) := by omega
      have hz := fun h => took_zero (st := st) h
      have hpos2 := Lib.hid hpos
      have hmh := Lib.hid hm
      have hkh := Lib.hid hk
      have hlh := Lib.hid hl
      obtain ⟨tk, htk⟩ : ∃ t : RS, t = st.took := ⟨_, rfl⟩
      obtain ⟨p, hp⟩ : ∃ t : Nat, t = st.pos := ⟨_, rfl⟩
      obtain ⟨s, hs⟩ : ∃ t : Rec, t = st.rec' := ⟨_, rfl⟩
      rw [← htk, ← hs] at TAKE
      rw [← hp] at AT
      rw [← htk, ← hp, ← hs] at hrecs
      rw [← htk, ← hs] at hz
      have hph := Lib.hid hp
      clear hpos hm hk hl okst hp htk hs
      have hJ2 := Lib.hid hJp
      clear hJp
      obtain ⟨ty, dev, kind, vers, path, mode, atime, mtime, len, name, uid, gid, muid⟩ := s
      unfold Rec.val Rec.cells at TAKE
      simp only [] at TAKE
      have TAKEh := Lib.hid TAKE
      have hzh := Lib.hid hz
      have hrh := Lib.hid hrecs
      have hallh := Lib.hid hall
      clear TAKE hz hrecs hall
      gi_wp2_with fail
      refine ⟨trivial, (callsIn_wide.2 LEFT).mono ?_⟩
      rintro e w2 ⟨rfl, rfl⟩
      gi_wp2_with fail
      refine ⟨trivial, (callsIn_wide.2 AT).mono ?_⟩
      rintro e w2 ⟨rfl, rfl⟩
      gi_wp2_with fail
      refine ⟨trivial, (callsIn_wide.2 TAKEh.out).mono ?_⟩
      rintro e w2 ⟨rfl, h2, k2⟩
      have K3 : Hid (Kept [r] wr (w2.alloc (.cells #[.int .u16 ty, .int .u32 dev, .int .u8 kind, .int .u32 vers, .int .u64 path, .int .u32 mode, .int .u32 atime, .int .u32 mtime, .int .u64 len, .string name, .string uid, .string gid, .string muid] 30 (0, 0)))) := k2.alloc _
      have R3 : Hid (Rd (w2.alloc (.cells #[.int .u16 ty, .int .u32 dev, .int .u8 kind, .int .u32 vers, .int .u64 path, .int .u32 mode, .int .u32 atime, .int .u32 mtime, .int .u64 len, .string name, .string uid, .string gid, .string muid] 30 (0, 0))) r T' tk) := h2.out.kept ((Kept.refl [] _).alloc _) (by simp) (fun _ _ hm => by simp at hm)
      have L3 : Hid ((w2.alloc (.cells #[.int .u16 ty, .int .u32 dev, .int .u8 kind, .int .u32 vers, .int .u64 path, .int .u32 mode, .int .u32 atime, .int .u32 mtime, .int .u64 len, .string name, .string uid, .string gid, .string muid] 30 (0, 0))).heap[w2.heap.size]? = some (.cells #[.int .u16 ty, .int .u32 dev, .int .u8 kind, .int .u32 vers, .int .u64 path, .int .u32 mode, .int .u32 atime, .int .u32 mtime, .int .u64 len, .string name, .string uid, .string gid, .string muid] 30 (0, 0))) := heap_alloc_new w2 _
      have RIGHT := right_any _ r T' tk R3
      by_cases ht : tk.err = 0
      · have hall' : Hid (allRecs bs = (pre ++ [(p, ⟨ty, dev, kind, vers, path, mode, atime, mtime, len, name, uid, gid, muid⟩)]) ++ recs k' tk) := by
          have h1 := hallh.out
          rw [hrh.out, if_pos ht] at h1
          show _ = _
          rw [h1]
          simp
        have htb : (tk.err == 0) = true := by rw [ht]; rfl
        rw [htb] at RIGHT
        have hth := Lib.hid ht
        clear ht htb
        gi_wp2_with fail
        refine ⟨trivial, (callsIn_wide.2 RIGHT).mono ?_⟩
        rintro e w3 ⟨rfl, k3⟩
        have K4 : Hid (Kept [r] wr w3) := K3.out.trans k3 (fun i hi => by simp at hi)
        have R4 : Hid (Rd w3 r T' tk) := R3.out.kept k3 (by simp) (fun _ _ hm => by simp at hm)
        have L4 : Hid (w3.heap[w2.heap.size]? = some (.cells #[.int .u16 ty, .int .u32 dev, .int .u8 kind, .int .u32 vers, .int .u64 path, .int .u32 mode, .int .u32 atime, .int .u32 mtime, .int .u64 len, .string name, .string uid, .string gid, .string muid] 30 (0, 0))) := (k3.block _ (block_lt L3.out) (by simp)).trans L3.out
        have J4 := hJ _ _ _ _ hJ2.out (K4.out.mono (T := r :: T') (fun i hi => Or.inl (by simp at hi; simp [hi])))
        obtain ⟨fn, tmps, assign, body, hy, hR⟩ := hY (r :: T') pre (p, ⟨ty, dev, kind, vers, path, mode, atime, mtime, len, name, uid, gid, muid⟩) _ J4 ⟨_, hall'.out.symm⟩
        dsimp only [Rec.val, Rec.cells] at hy
        have hRh := Lib.hid hR
        obtain ⟨c0, c1, c2, c3, c4, c5, c6, c7, c8, c9, c10, c11, c12, -⟩ := thirteen L4.out
        clear hR J4
        gi_wp2_with fail
        refine hRh.out.mono ?_
        rintro e W4 ⟨rfl, hJ4, S, k4, hS4⟩
        have hz := hzh.out hth.out
        have hsz2 : 49 ≤ (⟨ty, dev, kind, vers, path, mode, atime, mtime, len, name, uid, gid, muid⟩ : Rec).size := by unfold Rec.size; omega
        have hpp := hpos2.out
        have hp := hph.out
        have hkk := hkh.out
        have hmm := hmh.out
        have R5 : Rd W4 r T' tk := R4.out.kept k4 (fun hm => hS4 _ hm (by simp)) (fun k hk hm => hS4 _ hm (by simp [hk]))
        have hposle : p + (⟨ty, dev, kind, vers, path, mode, atime, mtime, len, name, uid, gid, muid⟩ : Rec).size ≤ bs.length := by
          refine allRecs_pos (p := (p, ⟨ty, dev, kind, vers, path, mode, atime, mtime, len, name, uid, gid, muid⟩)) ?_
          rw [hall'.out]
          simp
        have e1 : tk.pos = p + (⟨ty, dev, kind, vers, path, mode, atime, mtime, len, name, uid, gid, muid⟩ : Rec).size := by rw [hz, hph.out]
        have e2 : tk.left.length = st.left.length - (⟨ty, dev, kind, vers, path, mode, atime, mtime, len, name, uid, gid, muid⟩ : Rec).size := by rw [hz]; simp
        have e3 : tk.bad = 0 := by rw [hz]; exact hbad
        have m1 := leftOf_eq (n := bs.length) R5
        have m2 := leftOf_eq (n := bs.length) hrd.out
        have hsz4 : Hid (∀ k ∈ T', k < W4.heap.size) := fun k hk => by have := hT2.out k hk; have := K4.out.size; have := k4.size; omega
        generalize (⟨ty, dev, kind, vers, path, mode, atime, mtime, len, name, uid, gid, muid⟩ : Rec) = sr at *
        clear hz c0 c1 c2 c3 c4 c5 c6 c7 c8 c9 c10 c11 c12 hy
        gi_wp2_with fail
        go_roundw
        case rel => exact ⟨pre ++ [(p, sr)], k', tk, hall'.out, by omega, R5, hth.out, e3, by omega, hJ4, hsz4⟩
        case measure =>
          rw [m1, m2]
          omega
      · have htb : (tk.err == 0) = false := by rw [beq_eq_false_iff_ne]; exact ht
        rw [htb] at RIGHT
        have hfin : Hid (allRecs bs = pre) := by
          have h1 := hallh.out
          rw [hrh.out, if_neg ht, List.append_nil] at h1
          exact h1
        clear ht htb
        gi_wp2_with fail
        refine ⟨trivial, (callsIn_wide.2 RIGHT).mono ?_⟩
        rintro e w3 ⟨rfl, k3⟩
        have K4 : Hid (Kept [r] wr w3) := K3.out.trans k3 (fun i hi => by simp at hi)
        have J4 := hJ _ _ _ _ hJ2.out (K4.out.mono (T := r :: T') (fun i hi => Or.inl (by simp at hi; simp [hi])))
        have J4' : Hid (J (r :: T') (allRecs bs) w3) := by rw [hfin.out]; exact J4
        clear J4 hJ hY
        gi_wp2_with fail
        refine ⟨fun _ h => (by cases h), ?_⟩
        gi_wp2_with fail
        refine bodyPost_ret (results_none rfl _ _ _) rfl ?_
        exact ⟨⟨_, rfl⟩, r :: T', J4'.out⟩

end Stt
end Go.Proofs.Yteebiemfhicgbaa
