/- tags: blocks known whole, messages, replies and their row as they lie in memory. -/
import Derived.Test.YtjogpafbiackbaaProg
import Derived.Test.YtjogpafbiackbaaMps
import Derived.Test.YtjogpafbiackbaaLaw
import Derived.WalkKit
import Derived.Deep.Cut
import Derived.Deep.CutRange
import Derived.PlainAid
import Derived.Lib.Hide
import Derived.Deep.RegionHeld3
import Derived.Deep.RegionLaw
namespace Go.Proofs.Ytjogpafbiackbaa
set_option linter.unusedVariables false
open Go.RowKit
namespace Tg
open Go.Proofs.Ytjogpafbiackbaa.Mpf Go.PlainAid

/-- A block known whole. -/
def Bx (w : World) (B : Nat) (t : TypeId) (cs : Array Value) : Prop := w.heap[B]? = some (.cells cs t (0, 0))
theorem Bx.lt {w : World} {B : Nat} {t : TypeId} {cs : Array Value} (h : Bx w B t cs) : B < w.heap.size := block_lt h
theorem Bx.kept {S : List Nat} {w w' : World} {B : Nat} {t : TypeId} {cs : Array Value} (h : Bx w B t cs) (k : Kept S w w') (hn : B ∉ S) : Bx w' B t cs := (k.block B h.lt hn).trans h
theorem Bx.alloc {w : World} {B : Nat} {t : TypeId} {cs : Array Value} (h : Bx w B t cs) (o : Obj) : Bx (w.alloc o) B t cs := (Below.heap_alloc _ _ _ h.lt).trans h
theorem Bx.made (w : World) (t : TypeId) (cs : Array Value) : Bx (w.alloc (.cells cs t)) w.heap.size t cs := (MapKept.heap_alloc w _).1
theorem Bx.drew {w : World} {B : Nat} {t : TypeId} {cs : Array Value} (h : Bx w B t cs) : Bx w.drew B t cs := h
theorem Bx.cell {w : World} {B : Nat} {t : TypeId} {cs : Array Value} (h : Bx w B t cs) (i : Nat) {v : Value} (hv : cs[i]? = some v) : w.cell? ⟨B, i, none⟩ = some v := by rw [cell_of_row w B i cs t (0, 0) h]; exact hv
theorem Bx.frozen {w : World} {B : Nat} {t : TypeId} {cs : Array Value} (h : Bx w B t cs) (i : Nat) : w.frozen? ⟨B, i, none⟩ = false := by simp [World.frozen?, show w.heap[B]? = _ from h]
theorem Bx.set {w : World} {B : Nat} {t : TypeId} {cs : Array Value} (h : Bx w B t cs) (i : Nat) (x : Value) : Bx (w.setCell ⟨B, i, none⟩ x) B t (cs.setIfInBounds i x) := heap_set x h
theorem Bx.other {w : World} {B : Nat} {t : TypeId} {cs : Array Value} (h : Bx w B t cs) {a : Addr} (ha : a.block ≠ B) (x : Value) : Bx (w.setCell a x) B t cs := (Below.heap_setCell _ _ _ _ (fun e => ha e.symm)).trans h
theorem Bx.type_ne {w : World} {A B : Nat} {t u : TypeId} {cs ds : Array Value} (h : Bx w A t cs) (k : Bx w B u ds) (e : t ≠ u) : A ≠ B := fun q => by
  subst q
  have h2 : w.heap[A]? = _ := h
  have k2 : w.heap[A]? = _ := k
  rw [h2] at k2
  injection k2 with k2
  injection k2 with _ k2
  exact e k2

/-- A message of three fields, noughts else. -/
def msgC (k t : Int) (e : ByteArray) : List Value :=
  [.int .u8 k, .int .u16 t, .int .u32 0, .string ⟨#[]⟩, .int .u32 0, .string ⟨#[]⟩, .string ⟨#[]⟩, .string e, .int .u16 0, .int .u32 0, .int .u32 0, .slice none 0 0, .slice none 0 0, .int .u8 0, .int .u32 0, .int .u64 0,
   .int .u8 0, .int .u32 0, .string ⟨#[]⟩, .int .u32 0, .int .u64 0, .int .u32 0, .slice none 0 0, .int .u16 0, .int .u32 0, .int .u8 0, .int .u32 0, .int .u64 0, .int .u32 0, .int .u32 0, .int .u32 0, .int .u64 0, .string ⟨#[]⟩, .string ⟨#[]⟩, .string ⟨#[]⟩, .string ⟨#[]⟩]
/-- A reply that waits. -/
structure Rep where
  kind : Int
  tag : Nat
  en : ByteArray
  id : Nat
  apart : Bool
def Rep.V (e : Rep) : List Value := msgC e.kind e.tag e.en
def Rep.C (e : Rep) : List Value := e.V ++ [.int .i64 e.id, .bool e.apart]
theorem msgC_length (k t : Int) (e : ByteArray) : (msgC k t e).length = 36 := rfl
theorem Rep.C_length (e : Rep) : e.C.length = 38 := rfl
theorem Rep.C_one (e : Rep) : ∀ u ∈ e.C, u.oneCell' = true := by
  have : e.C.all (·.oneCell') = true := rfl
  exact List.all_eq_true.1 this
def rowC (q : List Rep) : List Value := q.flatMap Rep.C
theorem rowC_length : ∀ q, (rowC q).length = q.length * 38
  | [] => rfl
  | x :: q => by
    have := rowC_length q
    unfold rowC at this ⊢
    simp only [List.flatMap_cons, List.length_append, List.length_cons, Rep.C_length, this]
    omega
theorem rowC_append (q r : List Rep) : rowC (q ++ r) = rowC q ++ rowC r := by simp [rowC]
def zeroRep : List Value := msgC 0 0 ⟨#[]⟩ ++ [.int .i64 0, .bool false]
theorem zero_msg (w : World) : (zeroValue 57).run Try.prog w = .ok (.agg (msgC 0 0 ⟨#[]⟩).toArray) w := by kernel_rfl
theorem zero_rep (w : World) : (zeroValue 84).run Try.prog w = .ok (.agg zeroRep.toArray) w := by kernel_rfl
/-- A row of them in memory; it may have been cut at its front. -/
def Ro (w : World) (s : Value) (q : List Rep) : Prop :=
  (s = .slice none 0 0 ∧ q = []) ∨ ∃ g o cap cur, s = .slice (some ⟨g, o, none⟩) q.length cap ∧ w.heap[g]? = some (.cells cur 84 (0, 0)) ∧ q.length ≤ cap ∧ cap ≤ maxLen ∧ o + cap * 38 ≤ cur.size ∧ ∀ j v, (rowC q)[j]? = some v → cur[o + j]? = some v
theorem Ro.nil (w : World) : Ro w (.slice none 0 0) [] := Or.inl ⟨rfl, rfl⟩
theorem Ro.kept {S : List Nat} {w w' : World} {s : Value} {q : List Rep} (h : Ro w s q) (k : Kept S w w') (hs : ∀ g, s.ownBlock = some g → g ∉ S) : Ro w' s q := by
  rcases h with h | ⟨g, o, cap, cur, rfl, hg, r⟩
  · exact Or.inl h
  · exact Or.inr ⟨g, o, cap, cur, rfl, (k.block g (block_lt hg) (hs g rfl)).trans hg, r⟩
theorem Ro.type {w : World} {s : Value} {q : List Rep} (h : Ro w s q) : ∀ g, s.ownBlock = some g → ∃ cur, w.heap[g]? = some (.cells cur 84 (0, 0)) := fun g hg => by
  rcases h with ⟨rfl, -⟩ | ⟨g', o, cap, cur, rfl, hg', r⟩
  · simp [Value.ownBlock] at hg
  · simp [Value.ownBlock] at hg
    subst hg
    exact ⟨_, hg'⟩
theorem Ro.lt {w : World} {s : Value} {q : List Rep} (h : Ro w s q) : ∀ g, s.ownBlock = some g → g < w.heap.size := fun g hg => by
  obtain ⟨cur, hc⟩ := h.type g hg
  exact block_lt hc
theorem Ro.slice {w : World} {s : Value} {q : List Rep} (h : Ro w s q) : ∃ a c, s = .slice a q.length c ∧ q.length ≤ c ∧ c ≤ maxLen := by
  rcases h with ⟨rfl, rfl⟩ | ⟨g, o, cap, cur, rfl, hg, h1, h2, r⟩
  · exact ⟨none, 0, rfl, Nat.le_refl _, by decide⟩
  · exact ⟨_, _, rfl, h1, h2⟩
theorem info_rep : (Try.prog.info? 84).map (fun i => (i.zero, i.size, i.bytes)) = some (some (.agg zeroRep.toArray), 38, 360) := by kernel_rfl
theorem info_parts : ∃ i0, Try.prog.info? 84 = some i0 ∧ i0.zero = some (.agg zeroRep.toArray) ∧ i0.size = 38 ∧ i0.bytes = 360 := by
  have h := info_rep
  cases hi : Try.prog.info? 84 with
  | none => rw [hi] at h; cases h
  | some i => rw [hi] at h; simp at h; exact ⟨i, rfl, h.1, h.2.1, h.2.2⟩
theorem Ro.of_new {w : World} {q : List Rep} (cap : Nat) (cur : Array Value) (B : Nat) (hb : w.heap[B]? = some (.cells cur 84 (0, 0))) (h1 : q.length ≤ cap) (h2 : cap ≤ maxLen) (h3 : cap * 38 ≤ cur.size) (h4 : cur.toList.take (q.length * 38) = rowC q) : Ro w (.slice (some ⟨B, 0, none⟩) q.length cap) q := by
  refine Or.inr ⟨B, 0, cap, cur, rfl, hb, h1, h2, by omega, fun j v hv => ?_⟩
  rw [← h4, List.getElem?_take] at hv
  split at hv
  · simpa using hv
  · cases hv
theorem zero_cells : ((Value.agg zeroRep.toArray).cells).size = 38 := rfl
/-- One more behind them. -/
theorem Ro.push {w : World} {s : Value} {q : List Rep} (h : Ro w s q) (hq : q.length ≤ 2000) (x : Rep) {ad : Addr} (c : Nat) (hnews : ∀ j u, x.C[j]? = some u → w.cell? (ad.add j) = some u) (ty : TypeId) :
    ∃ s' w', (Builtin.append_ #[75, 75] ty #[s, .slice (some ad) 1 c]).run Try.prog w = .ok s' w' ∧ Ro w' s' (q ++ [x]) ∧ Kept s.ownBlock.toList w w' ∧ (s'.ownBlock = s.ownBlock ∨ s'.ownBlock = some w.heap.size) := by
  obtain ⟨i, hi, hz, hsz, hby⟩ := info_parts
  have ht : Try.prog.underlying 75 = some (.slice 84) := Try.underlying75
  have hl : x.C.length = 1 * i.size := by rw [hsz]; rfl
  have h1 : ∀ u ∈ x.C, u.oneCell' = true := x.C_one
  have hA : rowC (q ++ [x]) = rowC q ++ x.C := by rw [rowC_append]; simp [rowC]
  have hlen : (q ++ [x]).length = q.length + 1 := by simp
  have hxl := x.C_length
  obtain ⟨L, hL⟩ : ∃ L, L = x.C := ⟨_, rfl⟩
  rw [← hL] at hl h1 hA hnews hxl
  rcases h with ⟨rfl, rfl⟩ | ⟨g, o, cap, cur, rfl, hg, hc1, hc2, hc3, hc4⟩
  · have hr := run_append_nil (P := Try.prog) w 75 ty 84 i _ ht hi hz ad 1 c L hl hnews (by omega) (by omega) (by rw [hby]; omega)
    have hge := grownCap_ge w 1 0 84
    have hcm := grownCap_le_maxLen w 1 0 84 (by decide)
    have hb := (MapKept.heap_alloc w.drew (.cells (L.toArray ++ Builtin.zeroCells (Value.agg zeroRep.toArray).cells (grownCap w 1 0 84 - 1)) 84)).1
    refine ⟨_, _, hr, ?_, ((Kept.refl _ w).drew).alloc _, Or.inr rfl⟩
    refine Ro.of_new (q := [] ++ [x]) _ _ w.heap.size hb hge hcm ?_ ?_
    · rw [Array.size_append, size_zeroCells, zero_cells]
      simp only [List.size_toArray, hxl]
      omega
    · rw [hA, Array.toList_append, List.take_append_of_le_length (by simp [hxl]), List.take_of_length_le (by simp [hxl])]
      rfl
  · by_cases hroom : q.length + 1 ≤ cap
    · have hf := run_firstCells_some (P := Try.prog) w i.size 1 ad 1 c _ hl hnews
      have hst := run_storeCells_at Try.prog g (o + q.length * i.size) 84 L 0 cur w hg (by rw [hsz]; simp [hxl]; omega) h1
      simp only [Nat.add_zero] at hst
      have hr : (Builtin.append_ #[75, 75] ty #[.slice (some ⟨g, o, none⟩) q.length cap, .slice (some ad) 1 c]).run Try.prog w = .ok (.slice (some ⟨g, o, none⟩) (q.length + 1) cap) (w.setRow g (cur.toList.take (o + q.length * i.size) ++ L ++ cur.toList.drop (o + q.length * i.size + L.length)).toArray) := by
        simp [Builtin.append_, run_underlying ht, sizeOf, typeInfo, hi, Builtin.lenOf, hroom, hf, Addr.add_lit, hst]
      refine ⟨_, _, hr, ?_, ⟨rfl, rfl, rfl, by simp [World.setRow], fun k _ hk => setRow_other w g k _ (by simpa [Value.ownBlock] using hk)⟩, Or.inl rfl⟩
      refine Or.inr ⟨g, o, cap, _, by rw [hlen], setRow_heap w g cur _ 84 _ hg, by rw [hlen]; exact hroom, hc2, ?_, fun j v hv => ?_⟩
      · simp only [List.size_toArray, List.length_append, List.length_take, List.length_drop, Array.length_toList, hxl]
        rw [hsz]
        omega
      · rw [hA] at hv
        have hAl := rowC_length q
        have hcl : cur.toList.length = cur.size := Array.length_toList
        rw [hsz]
        by_cases hj : j < q.length * 38
        · rw [List.getElem?_append_left (by omega)] at hv
          have := hc4 j v hv
          rw [List.getElem?_toArray, List.append_assoc, List.getElem?_append_left (by rw [List.length_take, hcl]; omega), List.getElem?_take_of_lt (by omega)]
          simpa using this
        · rw [List.getElem?_append_right (by omega), hAl] at hv
          rw [List.getElem?_toArray, List.append_assoc, List.getElem?_append_right (by rw [List.length_take, hcl]; omega), List.length_take, hcl, Nat.min_eq_left (by omega)]
          have hj2 : j - q.length * 38 < 38 := by
            have := (List.getElem?_eq_some_iff.1 hv).1
            omega
          rw [List.getElem?_append_left (by omega), show o + j - (o + q.length * 38) = j - q.length * 38 by omega]
          exact hv
    · have holds : ∀ j u, (rowC q)[j]? = some u → w.cell? ((⟨g, o, none⟩ : Addr).add j) = some u := fun j u hu => by
        rw [Addr.add_lit, cell_of_row w g (o + j) cur _ (0, 0) hg]
        exact hc4 j u hu
      have hr := run_append_grow (P := Try.prog) w 75 ty 84 i _ ht hi hz ⟨g, o, none⟩ q.length cap (rowC q) (by rw [hsz, rowC_length]) holds ad 1 c _ hl hnews (by omega) (by omega) (growslice_fits (by omega) (by rw [hby]; omega))
      have hge := grownCap_ge w (q.length + 1) cap 84
      have hcm := grownCap_le_maxLen w (q.length + 1) cap 84 (by unfold maxLen; omega)
      have hb := (MapKept.heap_alloc w.drew (.cells ((rowC q).toArray ++ L.toArray ++ Builtin.zeroCells (Value.agg zeroRep.toArray).cells (grownCap w (q.length + 1) cap 84 - (q.length + 1))) 84)).1
      refine ⟨_, _, hr, ?_, ((Kept.refl _ w).drew).alloc _, Or.inr rfl⟩
      rw [← hlen] at hb ⊢
      refine Ro.of_new (q := q ++ [x]) _ _ w.heap.size hb (by rw [hlen]; exact hge) (by rw [hlen]; exact hcm) ?_ ?_
      · rw [Array.size_append, size_zeroCells, Array.size_append, zero_cells]
        have := rowC_length q
        simp only [List.size_toArray, this, hxl]
        omega
      · rw [hA]
        have := rowC_length q
        simp only [Array.toList_append]
        rw [List.take_append_of_le_length (by simp [this, hxl]; omega), List.take_of_length_le (by simp [this, hxl]; omega)]
end Tg
end Go.Proofs.Ytjogpafbiackbaa
