/- FrameChunks walked: chunks do not matter. -/
import Derived.Test.YtamienlndingnaaAll
import Derived.Test.YtamienlndingnaaGen
import Derived.Test.YtamienlndingnaaFrl
import Derived.Test.YtamienlndingnaaKno
import Derived.Sort.CutIn
import Derived.Outline
namespace Go.Proofs.Ytamienlndingnaa
set_option linter.unusedVariables false
open Go.RowKit Go.Shelf
attribute [local go_sem] Oper.semAt_some

/-- Which of m things a raw number speaks of. -/
def pk (x : Int) (m : Nat) : Nat := ((if x < 0 then -(x + 1) else x) % (m : Int)).toNat
theorem pk_lt (x : Int) (m : Nat) (h : 0 < m) : pk x m < m := by
  unfold pk
  have h1 := Int.emod_lt_of_pos (if x < 0 then -(x + 1) else x) (show (0 : Int) < (m : Int) by omega)
  have h2 := Int.emod_nonneg (if x < 0 then -(x + 1) else x) (show (m : Int) ≠ 0 by omega)
  omega
/-- Numbers that came in. -/
structure Nms (w : World) (a : Option Addr) (cap b off : Nat) (zs : List Int) (T : List Nat) : Prop where
  a : 0 < zs.length → a = some ⟨b, off, none⟩ ∧ zs.length ≤ cap
  t : ∀ i ∈ T, i < w.heap.size
  at' : ∀ i (hi : i < zs.length), b ∈ T ∧ w.cell? ⟨b, off + i, none⟩ = some (.int .i64 zs[i]) ∧ -9223372036854775808 ≤ zs[i] ∧ zs[i] ≤ 9223372036854775807
theorem Nms.kept {w w' : World} {a : Option Addr} {cap b off : Nat} {zs : List Int} {T S : List Nat} (h : Nms w a cap b off zs T) (hk : Kept S w w') (hd : ∀ i ∈ T, i ∉ S) : Nms w' a cap b off zs T := by
  refine ⟨h.a, fun i hi => Nat.lt_of_lt_of_le (h.t i hi) hk.size, fun i hi => ?_⟩
  obtain ⟨h1, h2, h3⟩ := h.at' i hi
  refine ⟨h1, ?_, h3⟩
  rw [← h2]
  exact World.cell?_of_block (hk.block b (h.t b h1) (hd b h1))

/-- What stands while the law's first loop goes on. -/
structure ChI (w w3 : World) (p L : Nat) (b : List UInt8) (B1 B2 pf : Nat) (va : Value) (at' : Nat) (fr : List (List UInt8)) (st : CS) (S : List Nat) (gv : Value) (vs : List Value) (T : List Nat) (wr : World) : Prop where
  str : Str L b at' fr st
  ct : Ct wr p S st
  got : FrL wr gv vs fr T
  sep : ∀ k ∈ T, k ∉ S
  cs : ∀ k ∈ S, k = p ∨ w3.heap.size ≤ k
  ts : ∀ k ∈ T, w3.heap.size ≤ k
  cau : Caught wr B1 B2 L true b pf va
  kept : Kept [] w wr
  big : w3.heap.size ≤ wr.heap.size
theorem ChI.pure {w w3 wr w' : World} {p L B1 B2 pf at' : Nat} {b : List UInt8} {va gv : Value} {fr : List (List UInt8)} {st : CS} {S T : List Nat} {vs : List Value} (h : ChI w w3 p L b B1 B2 pf va at' fr st S gv vs T wr) (k : Kept [] wr w') : ChI w w3 p L b B1 B2 pf va at' fr st S gv vs T w' := by
  have nn : ∀ {X : List Nat}, ∀ i ∈ X, i ∉ ([] : List Nat) := fun i _ hm => by simp at hm
  exact ⟨h.str, h.ct.kept k nn, h.got.kept k nn, h.sep, h.cs, h.ts, h.cau.kept k (by simp) (by simp) (by simp) (fun i _ hm => by simp at hm), h.kept.trans k (fun i hi => by simp at hi), Nat.le_trans h.big k.size⟩
/-- The cutter turns. -/
theorem ChI.turn {w w3 wr w' : World} {p L B1 B2 pf at' at2 : Nat} {b : List UInt8} {va gv : Value} {fr : List (List UInt8)} {st st' : CS} {S S' T : List Nat} {vs : List Value} (hp : w.heap.size ≤ p) (hC : ∀ k ∈ B1 :: B2 :: pf :: va.ownBlock.toList, p < k ∧ k < w3.heap.size) (hw : w.heap.size ≤ w3.heap.size)
    (h : ChI w w3 p L b B1 B2 pf va at' fr st S gv vs T wr) (hs : Str L b at2 fr st') (c : Ct w' p S' st') (k : Kept S wr w') (s : ∀ i ∈ S', i ∈ S ∨ wr.heap.size ≤ i) : ChI w w3 p L b B1 B2 pf va at2 fr st' S' gv vs T w' := by
  have nc : ∀ i ∈ B1 :: B2 :: pf :: va.ownBlock.toList, i ∉ S := fun i hi hm => by
    have a := hC i hi
    rcases h.cs i hm with q | q <;> omega
  refine ⟨hs, c, h.got.kept k h.sep, fun i hi hm => ?_, fun i hi => ?_, h.ts, h.cau.kept k (nc _ (by simp)) (nc _ (by simp)) (nc _ (by simp)) (fun i e => nc i (by simp [e])), h.kept.trans k (fun i hi => Or.inr ?_), Nat.le_trans h.big k.size⟩
  · rcases s i hm with q | q
    · exact h.sep i hi q
    · have := h.got.lt i hi; omega
  · rcases s i hi with q | q
    · exact h.cs i q
    · have := h.big; omega
  · rcases h.cs i hi with q | q <;> omega
/-- Next gave its frame, and the list was appended to. -/
theorem ChI.nexted {w w3 wr w6 W w' : World} {p L B1 B2 pf at' n : Nat} {b : List UInt8} {va gv gv' x : Value} {fr : List (List UInt8)} {st : CS} {S S6 T : List Nat} {vs : List Value} (hp : w.heap.size ≤ p) (hC : ∀ k ∈ B1 :: B2 :: pf :: va.ownBlock.toList, p < k ∧ k < w3.heap.size) (hw : w.heap.size ≤ w3.heap.size)
    (h : ChI w w3 p L b B1 B2 pf va at' fr st S gv vs T wr) (hwh : st.whole = true) (c : Ct w6 p S6 st.next) (k6 : Kept S wr w6) (s6 : ∀ i ∈ S6, i ∈ S) (hx : Own w6 wr.heap.size x st.hand) (hW : Kept [] w6 W) (hn : n = vs.length)
    (hown : w'.ownsRow 0 22 1 gv' (n + 1) (vs ++ [x])) (hgrow : W.grownBy w' gv.ownBlock) (hat : gv'.ownBlock = gv.ownBlock ∨ gv'.ownBlock = some W.heap.size) :
    ChI w w3 p L b B1 B2 pf va at' (fr ++ [st.hand]) st.next S6 gv' (vs ++ [x]) (T ++ (x.ownBlock.toList ++ gv'.ownBlock.toList)) w' := by
  have hx0 : Own W 0 x st.hand := World.ownsRow.mono (ownsRow_kept hx hW (fun i _ hm => by simp at hm)) (Nat.zero_le _)
  have got6 := h.got.kept k6 h.sep
  obtain ⟨g1, k1, k2⟩ := got6.push hW hx0 hn hown hgrow hat
  have hgt : ∀ k ∈ gv.ownBlock.toList, k ∈ T := fun k hk => h.got.blk k (by simpa using hk)
  have nc : ∀ i ∈ B1 :: B2 :: pf :: va.ownBlock.toList, i ∉ S := fun i hi hm => by
    have a := hC i hi
    rcases h.cs i hm with q | q <;> omega
  have nc2 : ∀ i ∈ B1 :: B2 :: pf :: va.ownBlock.toList, i ∉ gv.ownBlock.toList := fun i hi hm => by
    have a := hC i hi
    have := h.ts i (hgt i hm)
    omega
  have hbig := h.big
  have h6 := k6.size
  have hnew : ∀ k ∈ x.ownBlock.toList ++ gv'.ownBlock.toList, w3.heap.size ≤ k ∧ k ∉ S6 := fun k hk => by
    rcases List.mem_append.1 hk with hk | hk
    · have := (hx.lt k (by simpa using hk)).1
      exact ⟨by omega, fun hm => by have := h.ct.lt k (s6 k hm); omega⟩
    · rcases hat with q | q
      · rw [q] at hk
        exact ⟨h.ts k (hgt k hk), fun hm => h.sep k (hgt k hk) (s6 k hm)⟩
      · rw [q] at hk
        simp at hk
        have := hW.size
        exact ⟨by omega, fun hm => by have := h.ct.lt k (s6 k hm); omega⟩
  have cau6 := h.cau.kept k6 (nc _ (by simp)) (nc _ (by simp)) (nc _ (by simp)) (fun i e => nc i (by simp [e]))
  have kept6 : Kept [] w w6 := h.kept.trans k6 (fun i hi => Or.inr (by rcases h.cs i hi with q | q <;> omega))
  refine ⟨(h.str.next hwh).1, c.kept k1 (fun i hi hm => h.sep i (hgt i hm) (s6 i hi)), g1, fun i hi => ?_, fun i hi => h.cs i (s6 i hi), fun i hi => ?_, cau6.kept k1 (nc2 _ (by simp)) (nc2 _ (by simp)) (nc2 _ (by simp)) (fun i e => nc2 i (by simp [e])), kept6.trans k1 (fun i hi => Or.inr ?_), by have := k1.size; omega⟩
  · rcases List.mem_append.1 hi with q | q
    · exact fun hm => h.sep i q (s6 i hm)
    · exact (hnew i q).2
  · rcases List.mem_append.1 hi with q | q
    · exact h.ts i q
    · exact (hnew i q).1
  · have := h.ts i (hgt i hi); omega

namespace Law
open Cut
theorem pick_any (w : World) (x y : Int) (m : Nat) (hy : y = m) (hm : 0 < m) (hm2 : m ≤ 9223372036854775807) (h1 : -9223372036854775808 ≤ x) (h2 : x ≤ 9223372036854775807) :
    Calls Try.prog 10 #[.int .i64 x, .int .i64 y] w fun e w' => e = .returned (.int .i64 (pk x m)) ∧ w = w' := by
  subst hy
  have hlt := pk_lt x m hm
  have hm0 : (0 : Int) < (m : Int) := by omega
  have hmne : (m : Int) ≠ 0 := by omega
  by_cases hx : x < 0
  · have e : (pk x m : Int) = -((x + 1).tmod (m : Int)) := by
      unfold pk
      rw [if_pos hx, ← Int.neg_tmod, Int.tmod_eq_emod_of_nonneg (by omega)]
      exact Int.toNat_of_nonneg (Int.emod_nonneg _ hmne)
    have E := Lib.hid e
    clear e
    go_enter Try.func10, Try.ntmps10
    go_wp2_with fail
    go_ret
    exact ⟨ret_int E.out.symm, rfl⟩
  · have e : (pk x m : Int) = x % (m : Int) := by
      unfold pk
      rw [if_neg hx]
      exact Int.toNat_of_nonneg (Int.emod_nonneg _ hmne)
    have E := Lib.hid e
    clear e
    go_enter Try.func10, Try.ntmps10
    go_wp2_with fail
    go_ret
    exact ⟨ret_int E.out.symm, rfl⟩

end Law
end Go.Proofs.Ytamienlndingnaa
