/- UsersOrder: an account that is turned, in memory, on its way. -/
import Derived.Test.YteeheapenfklcaaDoorUom
import Derived.Test.YteeheapenfklcaaDoorUgw
namespace Go.Proofs.YteeheapenfklcaaDoor
set_option linter.unusedVariables false
open Go.RowKit Go.Shelf
attribute [local go_sem] Oper.semAt_some
namespace Us
open Go.Proofs.YteeheapenfklcaaDoor.Utf Go.Proofs.YteeheapenfklcaaDoor.Txt Go.PlainAid Go.Proofs.YteeheapenfklcaaDoor.Mpf
/-- A copy of an account in block b; its members, from the last on, in a row of their own. -/
structure MkB (w W : World) (v : Value) (T : List Acc) (i b : Nat) (nm ld ky : ByteArray) (xv bv : Value) (bs : List ByteArray) : Prop where
  rows : ∃ L : List (Acc × Value), accs L = T.take i ∧ W.ownsRow w.heap.size 45 4 v L.length (L.flatMap accC) ∧ (∀ x ∈ L, W.ownsRow w.heap.size 9 1 x.2 x.1.members.length (x.1.members.map sv)) ∧ ∀ x ∈ L, ∀ g, x.2.ownBlock = some g → bv.ownBlock ≠ some g
  kept : Kept [] w W
  blk : W.heap[b]? = some (.cells #[.string nm, .string ld, xv, .string ky] 45 (0, 0))
  own : W.ownsRow w.heap.size 9 1 bv bs.length (bs.map sv)
  low : w.heap.size ≤ b
  ne : ∀ g, v.ownBlock = some g → g ≠ b
theorem MkO.startB {w W : World} {v : Value} {T : List Acc} {i : Nat} (h : MkO w W v T i) (nm ld ky : ByteArray) (xv : Value) : MkB w (W.alloc (.cells #[.string nm, .string ld, xv, .string ky] 45)) v T i W.heap.size nm ld ky xv (.slice none 0 0) [] := by
  obtain ⟨⟨L, h1, h2, h3⟩, h4⟩ := h
  have k3 : Kept [] W (W.alloc (.cells #[.string nm, .string ld, xv, .string ky] 45)) := (Kept.refl [] W).alloc _
  have no : ∀ u : Value, ∀ g, u.ownBlock = some g → g ∉ ([] : List Nat) := fun u g _ => by simp
  refine ⟨⟨L, h1, own_kept h2 k3 (no _), fun x hx => own_kept (h3 x hx) k3 (no _), fun x hx g hg e => by cases e⟩, h4.trans k3 (fun i hi => by cases hi), (MapKept.heap_alloc W _).1, World.ownsRow_nil _ _ _ _, h4.size, fun g hg => ?_⟩
  have := (h2.lt g hg).2
  omega
theorem MkB.push {w W w7 : World} {v : Value} {T : List Acc} {i b : Nat} {nm ld ky x : ByteArray} {xv bv v' : Value} {bs : List ByteArray} {o : Obj} (h : MkB w W v T i b nm ld ky xv bv bs)
    (hg : (W.alloc o).grownBy w7 bv.ownBlock) (ho : w7.ownsRow w.heap.size 9 1 v' (bs.length + 1) (bs.map sv ++ [.string x])) (hat : v'.ownBlock = bv.ownBlock ∨ v'.ownBlock = some (W.alloc o).heap.size) :
    MkB w w7 v T i b nm ld ky xv v' (bs ++ [x]) := by
  obtain ⟨⟨L, h1, h2, h3, hs⟩, h4, h5, h6, h7, h8⟩ := h
  have kA : Kept bv.ownBlock.toList W w7 := ((Kept.refl bv.ownBlock.toList W).alloc o).grown hg (fun k e => Or.inl (by rw [e]; simp))
  have ty : ∀ g, g ∈ bv.ownBlock.toList → ∃ cs, W.heap[g]? = some (.cells cs 9 (0, 0)) := fun g hg => own_type h6 g (by simpa using hg)
  have nb : b ∉ bv.ownBlock.toList := fun hm => by
    obtain ⟨cs, hc⟩ := ty b hm
    rw [h5] at hc
    cases hc
  have h5' := (kA.block _ (block_lt h5) nb).trans h5
  refine ⟨⟨L, h1, own_kept h2 kA (fun g hg hm => ?_), fun y hy => own_kept (h3 y hy) kA (fun g hg hm => ?_), fun y hy g hg e => ?_⟩, h4.trans kA (fun j hj => Or.inr ?_), h5', ?_, h7, h8⟩
  · obtain ⟨cs, hc⟩ := ty g hm
    obtain ⟨cs2, hc2⟩ := own_type h2 _ hg
    rw [hc] at hc2
    cases hc2
  · exact hs y hy g hg (by simpa using hm)
  · have hgl := ((h3 y hy).lt g hg).2
    rcases hat with ha | ha
    · exact hs y hy g hg (ha ▸ e)
    · rw [ha] at e
      simp at e
      omega
  · exact (h6.lt j (by simpa using hj)).1
  · simpa [sv] using ho
theorem MkB.done {w W : World} {v : Value} {T : List Acc} {i b : Nat} {nm ld ky : ByteArray} {xv bv : Value} {bs : List ByteArray} (h : MkB w W v T i b nm ld ky xv bv bs) : MkS w (W.setCell ⟨b, 2, none⟩ bv) v T i b nm ld ky bv bs := by
  obtain ⟨⟨L, h1, h2, h3, hs⟩, h4, h5, h6, h7, h8⟩ := h
  have k : Kept [b] W (W.setCell ⟨b, 2, none⟩ bv) := (Kept.refl [b] W).setCell (Or.inl (by simp)) _
  have nt : ∀ (u : Value) (n : Nat) (xs : List Value), W.ownsRow w.heap.size 9 1 u n xs → ∀ g, u.ownBlock = some g → g ∉ [b] := fun u n xs hu g hg hm => by
    rw [List.mem_singleton] at hm
    subst hm
    obtain ⟨cs, hc⟩ := own_type hu _ hg
    rw [h5] at hc
    cases hc
  exact ⟨⟨L, h1, own_kept h2 k (fun g hg hm => h8 g hg (by simpa using hm)), fun x hx => own_kept (h3 x hx) k (nt _ _ _ (h3 x hx)), hs⟩, h4.trans k (fun j hj => Or.inr (by rw [List.mem_singleton] at hj; omega)), heap_set2 h5, own_kept h6 k (nt _ _ _ h6), h7, h8⟩
/-- What was made, whole. -/
theorem MkO.all {w W : World} {v : Value} {T : List Acc} (h : MkO w W v T T.length) : ∃ L : List (Acc × Value), accs L = T ∧ RowsA W v L ∧ Kept [] w W := by
  obtain ⟨⟨L, l1, l2, l3⟩, k⟩ := h
  rw [List.take_length] at l1
  exact ⟨L, l1, ⟨own_low l2, fun x hx => own_low (l3 x hx)⟩, k⟩
/-- Between two rounds of the law. -/
structure GwO (w W : World) (B p B2 p2 : Nat) (T T2 : List Acc) (a : Option Addr) (c : Nat) (L : List (Acc × Value)) : Prop where
  tb : Tb W B p T
  tb2 : Tb W B2 p2 T2
  rows : RowsA W (.slice a L.length c) L
  kept : Kept [] w W
theorem GwO.step {w W W' : World} {B p B2 p2 : Nat} {T T2 : List Acc} {a : Option Addr} {c : Nat} {L : List (Acc × Value)} (h : GwO w W B p B2 p2 T T2 a c L) (k : Kept [] W W') : GwO w W' B p B2 p2 T T2 a c L :=
  ⟨h.tb.kept k, h.tb2.kept k, h.rows.kept0 k, h.kept.trans k (fun i hi => by cases hi)⟩
end Us
end Go.Proofs.YteeheapenfklcaaDoor
