/- names' Split: what stands between two of its rounds. -/
import Derived.Test.YtjdhgeikbkjnoaaDoorChk
import Derived.Deep.AppendLies
import Derived.Maps.AppendAt
import Derived.Lib.SlicesS
namespace Go.Proofs.YtjdhgeikbkjnoaaDoor
set_option linter.unusedVariables false
open Go.RowKit Go.Shelf
namespace Nm
open Go.Proofs.YtjdhgeikbkjnoaaDoor.Utf Go.Proofs.YtjdhgeikbkjnoaaDoor.Txt Go.PlainAid

/-- Does a piece say something? -/
def keep (p : List UInt8) : Bool := !(p.isEmpty || p == [46])
def parts (l : List UInt8) : List (List UInt8) := (cut l).filter keep
/-- May a part be so? -/
def okp (p : List UInt8) : Bool := p == [46, 46] || chk ⟨p.toArray⟩
def okl (l : List UInt8) : Bool := (parts l).all okp
def rooted (l : List UInt8) : Bool := Lib.hasPrefix l [47]
theorem of_dl (x : ByteArray) : (⟨(dl x).toArray⟩ : ByteArray) = x := by
  unfold dl
  rw [Array.toArray_toList]

def sv (x : ByteArray) : Value := .string x
/-- Texts of the call's own. -/
def Row (w : World) (B : Nat) (v : Value) (xs : List ByteArray) : Prop := w.ownsRow B 9 1 v xs.length (xs.map sv)

/-- Between two rounds; Pb: the box of what comes out, R2 and R3: those of the results. -/
structure SpI (w w8 : World) (B1 B2 B3 Pb R2 R3 : Nat) (r : Bool) (pre : List ByteArray) (pv : Value) (xs : List ByteArray) (W : World) : Prop where
  box : W.heap[Pb]? = some (.cells #[.bool r, pv] 28 (0, 0))
  row : Row W w.heap.size pv xs
  eq : xs.map dl = (pre.map dl).filter keep
  ok : ((pre.map dl).filter keep).all okp = true
  far : ∀ b, pv.ownBlock = some b → w8.heap.size + 2 ≤ b
  r2 : W.heap[R2]? = some (.cells #[.bool false, .slice none 0 0] 28 (0, 0))
  r3 : W.heap[R3]? = some (.cells #[.int .i64 0] 23 (0, 0))
  kept : Kept [] w W
  big : w8.heap.size + 2 ≤ W.heap.size
  len : xs.length ≤ pre.length
/-- Where the blocks lie. -/
structure SpB (w w8 : World) (B1 B2 B3 Pb R2 R3 : Nat) : Prop where
  p : w.heap.size ≤ Pb ∧ Pb < w8.heap.size
  r2 : w.heap.size ≤ R2 ∧ R2 < w8.heap.size
  r3 : w.heap.size ≤ R3 ∧ R3 < w8.heap.size
  b : ∀ i ∈ [B1, B2, B3], w.heap.size ≤ i ∧ i < w8.heap.size ∧ i ≠ Pb ∧ i ≠ R2 ∧ i ≠ R3
  ne : Pb ≠ R2 ∧ Pb ≠ R3 ∧ R2 ≠ R3
  z : w.heap.size ≤ w8.heap.size
/-- Where it was given up. -/
structure SpE (w w8 : World) (R2 R3 : Nat) (W : World) : Prop where
  r2 : W.heap[R2]? = some (.cells #[.bool false, .slice none 0 0] 28 (0, 0))
  r3 : W.heap[R3]? = some (.cells #[.int .i64 51] 23 (0, 0))
  kept : Kept [] w W
theorem okl_false {l : List UInt8} {pre : List ByteArray} {x : ByteArray} (hC : (pre ++ [x]).map dl <+: cut l) (hk : keep (dl x) = true) (ho : okp (dl x) = false) : okl l = false := by
  unfold okl
  rw [List.all_eq_false]
  refine ⟨dl x, ?_, by simp [ho]⟩
  unfold parts
  rw [List.mem_filter]
  obtain ⟨t, ht⟩ := hC
  exact ⟨by rw [← ht]; simp, hk⟩
section
variable {w w8 A B W : World} {B1 B2 B3 Pb R2 R3 : Nat} {r : Bool} {pre : List ByteArray} {pv : Value} {xs : List ByteArray}
theorem Row.kept {w w' : World} {B : Nat} {v : Value} {xs : List ByteArray} {S : List Nat} (h : Row w B v xs) (k : Kept S w w') (hd : ∀ b, v.ownBlock = some b → b ∉ S) : Row w' B v xs := by
  refine ⟨h.1, ?_⟩
  rcases h.2 with h2 | ⟨g, cap, cur, rfl, a1, a2, a3, a4, a5, a6⟩
  · exact Or.inl h2
  · exact Or.inr ⟨g, cap, cur, rfl, a1, (k.block g (block_lt a2) (hd g rfl)).trans a2, a3, a4, a5, a6⟩
theorem SpI.turn (hB : SpB w w8 B1 B2 B3 Pb R2 R3) (h : SpI w w8 B1 B2 B3 Pb R2 R3 r pre pv xs A) (k : Kept (w8.heap.size :: (w8.heap.size + 1) :: [B1, B2, B3]) A B) : SpI w w8 B1 B2 B3 Pb R2 R3 r pre pv xs B := by
  have nb : ∀ i, i < w8.heap.size → (∀ j ∈ [B1, B2, B3], j ≠ i) → i ∉ w8.heap.size :: (w8.heap.size + 1) :: [B1, B2, B3] := fun i hi hj hm => by
    rcases List.mem_cons.1 hm with q | q
    · omega
    · rcases List.mem_cons.1 q with q | q
      · omega
      · exact hj i q rfl
  have hz := k.size
  refine ⟨(k.block Pb (block_lt h.box) (nb Pb hB.p.2 (fun j hj => (hB.b j hj).2.2.1))).trans h.box, h.row.kept k (fun b hb hm => ?_), h.eq, h.ok, h.far, (k.block R2 (block_lt h.r2) (nb R2 hB.r2.2 (fun j hj => (hB.b j hj).2.2.2.1))).trans h.r2, (k.block R3 (block_lt h.r3) (nb R3 hB.r3.2 (fun j hj => (hB.b j hj).2.2.2.2))).trans h.r3,
    h.kept.trans k (fun i hi => Or.inr ?_), by have := h.big; omega, h.len⟩
  · have := h.far b hb
    rcases List.mem_cons.1 hm with q | q
    · omega
    · rcases List.mem_cons.1 q with q | q
      · omega
      · have := (hB.b b q).2.1; omega
  · have := hB.z
    rcases List.mem_cons.1 hi with q | q
    · omega
    · rcases List.mem_cons.1 q with q | q
      · omega
      · exact (hB.b i q).1
theorem SpI.pure (h : SpI w w8 B1 B2 B3 Pb R2 R3 r pre pv xs A) (k : Kept [] A B) : SpI w w8 B1 B2 B3 Pb R2 R3 r pre pv xs B := by
  have nn : ∀ i, i ∉ ([] : List Nat) := fun i hm => by simp at hm
  have hz := k.size
  exact ⟨(k.block Pb (block_lt h.box) (nn _)).trans h.box, h.row.kept k (fun b _ => nn b), h.eq, h.ok, h.far, (k.block R2 (block_lt h.r2) (nn _)).trans h.r2, (k.block R3 (block_lt h.r3) (nn _)).trans h.r3, h.kept.trans k (fun i hi => absurd hi (nn i)), by have := h.big; omega, h.len⟩
/-- A piece that says nothing. -/
theorem SpI.skip {x : ByteArray} (h : SpI w w8 B1 B2 B3 Pb R2 R3 r pre pv xs A) (hx : keep (dl x) = false) : SpI w w8 B1 B2 B3 Pb R2 R3 r (pre ++ [x]) pv xs A := by
  have e : ((pre ++ [x]).map dl).filter keep = (pre.map dl).filter keep := by
    rw [List.map_append, List.filter_append]
    simp [hx]
  exact ⟨h.box, h.row, by rw [e]; exact h.eq, by rw [e]; exact h.ok, h.far, h.r2, h.r3, h.kept, h.big, by have := h.len; rw [List.length_append]; omega⟩
/-- One that was taken. -/
theorem SpI.push {x : ByteArray} {pv' : Value} {w1 : World} {n : Nat} (hB : SpB w w8 B1 B2 B3 Pb R2 R3) (h : SpI w w8 B1 B2 B3 Pb R2 R3 r pre pv xs A) (hx : keep (dl x) = true) (ho : okp (dl x) = true) (hn : n = xs.length)
    (hown : w1.ownsRow w.heap.size 9 1 pv' (n + 1) (xs.map sv ++ [sv x])) (hg : (A.alloc (.cells #[sv x] 9)).grownBy w1 pv.ownBlock) (hat : pv'.ownBlock = pv.ownBlock ∨ pv'.ownBlock = some (A.alloc (.cells #[sv x] 9)).heap.size) :
    SpI w w8 B1 B2 B3 Pb R2 R3 r (pre ++ [x]) pv' (xs ++ [x]) (w1.setCell ⟨Pb, 1, none⟩ pv') ∧ (∃ S, Kept S A (w1.setCell ⟨Pb, 1, none⟩ pv') ∧ ∀ i ∈ S, i ∉ [B1, B2, B3] ∧ i ≠ w8.heap.size ∧ i ≠ w8.heap.size + 1) ∧ w1.heap[Pb]? = some (.cells #[.bool r, pv] 28 (0, 0)) := by
  subst hn
  have e : ((pre ++ [x]).map dl).filter keep = (pre.map dl).filter keep ++ [dl x] := by
    rw [List.map_append, List.filter_append]
    simp [hx]
  have ka : Kept [] A (A.alloc (.cells #[sv x] 9)) := (Kept.refl _ _).alloc _
  have kg : Kept pv.ownBlock.toList (A.alloc (.cells #[sv x] 9)) w1 := (Kept.refl _ _).grown hg (fun k e => Or.inl (by rw [e]; simp))
  have k1 : Kept pv.ownBlock.toList A w1 := (ka.mono (fun i hi => by simp at hi)).trans kg (fun i hi => Or.inl hi)
  have ks : Kept [Pb] w1 (w1.setCell ⟨Pb, 1, none⟩ pv') := (Kept.refl _ _).setCell (p := ⟨Pb, 1, none⟩) (Or.inl (by simp)) _
  have kk : Kept (Pb :: pv.ownBlock.toList) A (w1.setCell ⟨Pb, 1, none⟩ pv') := (k1.mono (fun i hi => Or.inl (List.mem_cons_of_mem _ hi))).trans ks (fun i hi => Or.inl (by simp at hi; simp [hi]))
  have nf : ∀ i, i < w8.heap.size → i ∉ pv.ownBlock.toList := fun i hi hm => by have := h.far i (by simpa using hm); omega
  have hb1 : w1.heap[Pb]? = some (.cells #[.bool r, pv] 28 (0, 0)) := (k1.block Pb (block_lt h.box) (nf _ hB.p.2)).trans h.box
  have hset := heap_set (i := 1) pv' hb1
  have hz := kk.size
  have hfar : ∀ b, pv'.ownBlock = some b → w8.heap.size + 2 ≤ b := fun b hb => by
    rcases hat with q | q
    · exact h.far b (by rw [← q]; exact hb)
    · rw [q] at hb; cases hb; have := h.big; simp; omega
  have hp2 := hB.p.2
  have hrow : Row w1 w.heap.size pv' (xs ++ [x]) := by unfold Row; rw [List.length_append, List.map_append]; exact hown
  refine ⟨⟨by simpa using hset, hrow.kept ks (fun b hb hm => ?_), ?_, ?_, hfar, ?_, ?_, h.kept.trans kk (fun i hi => Or.inr ?_), by have := h.big; omega, by have := h.len; simp; omega⟩, ⟨_, kk, fun i hi => ?_⟩, hb1⟩
  · have := hfar b hb; simp at hm; omega
  · rw [e, List.map_append, h.eq]; rfl
  · rw [e, List.all_append, h.ok]; simp [ho]
  · refine (kk.block R2 (block_lt h.r2) (fun hm => ?_)).trans h.r2
    rcases List.mem_cons.1 hm with q | q
    · exact hB.ne.1 q.symm
    · exact nf _ hB.r2.2 q
  · refine (kk.block R3 (block_lt h.r3) (fun hm => ?_)).trans h.r3
    rcases List.mem_cons.1 hm with q | q
    · exact hB.ne.2.1 q.symm
    · exact nf _ hB.r3.2 q
  · have := hB.z
    rcases List.mem_cons.1 hi with q | q
    · rw [q]; exact hB.p.1
    · have := h.far i (by simpa using q); omega
  · rcases List.mem_cons.1 hi with q | q
    · rw [q]; exact ⟨fun hm => (hB.b Pb hm).2.2.1 rfl, by omega, by omega⟩
    · have := h.far i (by simpa using q)
      exact ⟨fun hm => by have := (hB.b i hm).2.1; omega, by omega, by omega⟩
end
end Nm
end Go.Proofs.YtjdhgeikbkjnoaaDoor
