/- locks: a block known whole; those who ask as they lie in memory, in a row that was cut at its front; one more behind them. -/
import Derived.Test.YtpiiccomkfcifaaProg
import Derived.Test.YtpiiccomkfcifaaMpf
import Derived.Test.YtpiiccomkfcifaaLaw
import Derived.WalkKit
import Derived.Deep.Cut
import Derived.Deep.CutRange
import Derived.PlainAid
import Derived.Deep.RegionHeld3
import Derived.Deep.RegionLaw
namespace Go.Proofs.Ytpiiccomkfcifaa
set_option linter.unusedVariables false
open Go.RowKit
namespace Lk
open Go.Proofs.Ytpiiccomkfcifaa.Mpf Go.PlainAid

/-- A block known whole. -/
def Bx (w : World) (B : Nat) (t : TypeId) (cs : Array Value) : Prop := w.heap[B]? = some (.cells cs t (0, 0))
theorem Bx.lt {w : World} {B : Nat} {t : TypeId} {cs : Array Value} (h : Bx w B t cs) : B < w.heap.size := block_lt h
theorem Bx.kept {S : List Nat} {w w' : World} {B : Nat} {t : TypeId} {cs : Array Value} (h : Bx w B t cs) (k : Kept S w w') (hn : B ∉ S) : Bx w' B t cs := (k.block B h.lt hn).trans h
theorem Bx.alloc {w : World} {B : Nat} {t : TypeId} {cs : Array Value} (h : Bx w B t cs) (o : Obj) : Bx (w.alloc o) B t cs := (Below.heap_alloc _ _ _ h.lt).trans h
theorem Bx.made (w : World) (t : TypeId) (cs : Array Value) : Bx (w.alloc (.cells cs t)) w.heap.size t cs := (MapKept.heap_alloc w _).1
theorem Bx.drew {w : World} {B : Nat} {t : TypeId} {cs : Array Value} (h : Bx w B t cs) : Bx w.drew B t cs := h
theorem Bx.cell {w : World} {B : Nat} {t : TypeId} {cs : Array Value} (h : Bx w B t cs) (i : Nat) {v : Value} (hv : cs[i]? = some v) : w.cell? ⟨B, i, none⟩ = some v := by rw [cell_of_row w B i cs t (0, 0) h]; exact hv
theorem Bx.frozen {w : World} {B : Nat} {t : TypeId} {cs : Array Value} (h : Bx w B t cs) (i : Nat) : w.frozen? ⟨B, i, none⟩ = false := by simp [World.frozen?, show w.heap[B]? = _ from h]
theorem Bx.set {w : World} {B : Nat} {t : TypeId} {cs : Array Value} (h : Bx w B t cs) (i : Nat) (x : Value) : Bx (w.setCell ⟨B, i, none⟩ x) B t (cs.setIfInBounds i x) := heap_set x h
theorem Bx.other {w : World} {B : Nat} {t : TypeId} {cs : Array Value} (h : Bx w B t cs) {a : Addr} (ha : a.block ≠ B) (x : Value) : Bx (w.setCell a x) B t cs := (Below.heap_setCell _ _ _ _ (fun e => ha e.symm)).trans h
theorem Bx.type_ne {w : World} {A B : Nat} {t u : TypeId} {cs ds : Array Value} (h : Bx w A t cs) (k : Bx w B u ds) (e : t ≠ u) : A ≠ B := fun q => by
  subst q
  have h2 : w.heap[A]? = _ := h
  have k2 : w.heap[A]? = _ := k
  rw [h2] at k2
  injection k2 with k2
  injection k2 with _ k2
  exact e k2

/-- Those who ask: a number, alone or not. -/
def aC (q : List (Nat × Bool)) : List Value := q.flatMap fun x => [.int .i64 x.1, .bool x.2]
theorem aC_length : ∀ q, (aC q).length = q.length * 2
  | [] => rfl
  | x :: q => by
    have := aC_length q
    unfold aC at this ⊢
    simp only [List.flatMap_cons, List.length_append, List.length_cons, List.length_nil, this]
    omega
theorem aC_append (q r : List (Nat × Bool)) : aC (q ++ r) = aC q ++ aC r := by simp [aC]
theorem aC_one : ∀ q, ∀ u ∈ aC q, u.oneCell' = true := fun q u hu => by
  unfold aC at hu
  obtain ⟨x, -, hx⟩ := List.mem_flatMap.1 hu
  simp at hx
  rcases hx with rfl | rfl <;> rfl
theorem aC_get : ∀ (q : List (Nat × Bool)) (j : Nat) (x : Nat × Bool), q[j]? = some x → (aC q)[2 * j]? = some (.int .i64 x.1) ∧ (aC q)[2 * j + 1]? = some (.bool x.2)
  | [], j, x, h => by simp at h
  | y :: q, 0, x, h => by
    simp at h
    subst h
    exact ⟨rfl, rfl⟩
  | y :: q, j + 1, x, h => by
    have := aC_get q j x (by simpa using h)
    have e : aC (y :: q) = [.int .i64 y.1, .bool y.2] ++ aC q := rfl
    rw [e]
    refine ⟨?_, ?_⟩
    · rw [show 2 * (j + 1) = 2 + 2 * j by omega, List.getElem?_append_right (by simp)]
      simpa using this.1
    · rw [show 2 * (j + 1) + 1 = 2 + (2 * j + 1) by omega, List.getElem?_append_right (by simp)]
      simpa using this.2
/-- A row of them in memory; it may have been cut at its front. -/
def Ro (w : World) (s : Value) (q : List (Nat × Bool)) : Prop :=
  (s = .slice none 0 0 ∧ q = []) ∨ ∃ g o cap cur, s = .slice (some ⟨g, o, none⟩) q.length cap ∧ w.heap[g]? = some (.cells cur 95 (0, 0)) ∧ q.length ≤ cap ∧ cap ≤ maxLen ∧ o + cap * 2 ≤ cur.size ∧ ∀ j v, (aC q)[j]? = some v → cur[o + j]? = some v
theorem Ro.nil (w : World) : Ro w (.slice none 0 0) [] := Or.inl ⟨rfl, rfl⟩
theorem Ro.kept {S : List Nat} {w w' : World} {s : Value} {q : List (Nat × Bool)} (h : Ro w s q) (k : Kept S w w') (hs : ∀ g, s.ownBlock = some g → g ∉ S) : Ro w' s q := by
  rcases h with h | ⟨g, o, cap, cur, rfl, hg, r⟩
  · exact Or.inl h
  · exact Or.inr ⟨g, o, cap, cur, rfl, (k.block g (block_lt hg) (hs g rfl)).trans hg, r⟩
theorem Ro.lt {w : World} {s : Value} {q : List (Nat × Bool)} (h : Ro w s q) : ∀ g, s.ownBlock = some g → g < w.heap.size := fun g hg => by
  rcases h with ⟨rfl, -⟩ | ⟨g', o, cap, cur, rfl, hg', r⟩
  · simp [Value.ownBlock] at hg
  · simp [Value.ownBlock] at hg
    subst hg
    exact block_lt hg'
theorem Ro.type {w : World} {s : Value} {q : List (Nat × Bool)} (h : Ro w s q) : ∀ g, s.ownBlock = some g → ∃ cur, w.heap[g]? = some (.cells cur 95 (0, 0)) := fun g hg => by
  rcases h with ⟨rfl, -⟩ | ⟨g', o, cap, cur, rfl, hg', r⟩
  · simp [Value.ownBlock] at hg
  · simp [Value.ownBlock] at hg
    subst hg
    exact ⟨_, hg'⟩
theorem Ro.slice {w : World} {s : Value} {q : List (Nat × Bool)} (h : Ro w s q) : ∃ a c, s = .slice a q.length c ∧ q.length ≤ c ∧ c ≤ maxLen := by
  rcases h with ⟨rfl, rfl⟩ | ⟨g, o, cap, cur, rfl, hg, h1, h2, r⟩
  · exact ⟨none, 0, rfl, Nat.le_refl _, by decide⟩
  · exact ⟨_, _, rfl, h1, h2⟩
theorem info_ask : (Try.prog.info? 95).map (fun i => (i.zero, i.size, i.bytes)) = some (some (.agg #[.int .i64 0, .bool false]), 2, 16) := by kernel_rfl
theorem info_parts : ∃ i0, Try.prog.info? 95 = some i0 ∧ i0.zero = some (.agg #[.int .i64 0, .bool false]) ∧ i0.size = 2 ∧ i0.bytes = 16 := by
  have h := info_ask
  cases hi : Try.prog.info? 95 with
  | none => rw [hi] at h; cases h
  | some i => rw [hi] at h; simp at h; exact ⟨i, rfl, h.1, h.2.1, h.2.2⟩
theorem Ro.of_new {w : World} {q : List (Nat × Bool)} (cap : Nat) (cur : Array Value) (B : Nat) (hb : w.heap[B]? = some (.cells cur 95 (0, 0))) (h1 : q.length ≤ cap) (h2 : cap ≤ maxLen) (h3 : cap * 2 ≤ cur.size) (h4 : cur.toList.take (q.length * 2) = aC q) : Ro w (.slice (some ⟨B, 0, none⟩) q.length cap) q := by
  refine Or.inr ⟨B, 0, cap, cur, rfl, hb, h1, h2, by omega, fun j v hv => ?_⟩
  rw [← h4, List.getElem?_take] at hv
  split at hv
  · simpa using hv
  · cases hv
/-- One more behind them. -/
theorem Ro.push {w : World} {s : Value} {q : List (Nat × Bool)} (h : Ro w s q) (hq : q.length ≤ 1000) (x : Nat) (b : Bool) {ad : Addr} (c : Nat) (hnews : ∀ j u, ([.int .i64 x, .bool b] : List Value)[j]? = some u → w.cell? (ad.add j) = some u) (ty : TypeId) :
    ∃ s' w', (Builtin.append_ #[72, 72] ty #[s, .slice (some ad) 1 c]).run Try.prog w = .ok s' w' ∧ Ro w' s' (q ++ [(x, b)]) ∧ Kept s.ownBlock.toList w w' ∧ (s'.ownBlock = s.ownBlock ∨ s'.ownBlock = some w.heap.size) := by
  obtain ⟨i, hi, hz, hsz, hby⟩ := info_parts
  have ht : Try.prog.underlying 72 = some (.slice 95) := Try.underlying72
  have hl : ([.int .i64 x, .bool b] : List Value).length = 1 * i.size := by rw [hsz]; rfl
  have h1 : ∀ u ∈ ([.int .i64 x, .bool b] : List Value), u.oneCell' = true := fun u hu => by simp at hu; rcases hu with rfl | rfl <;> rfl
  have hA : aC (q ++ [(x, b)]) = aC q ++ [.int .i64 x, .bool b] := by rw [aC_append]; rfl
  have hlen : (q ++ [(x, b)]).length = q.length + 1 := by simp
  rcases h with ⟨rfl, rfl⟩ | ⟨g, o, cap, cur, rfl, hg, hc1, hc2, hc3, hc4⟩
  · have hr := run_append_nil (P := Try.prog) w 72 ty 95 i _ ht hi hz ad 1 c _ hl hnews (by omega) (by omega) (by rw [hby]; omega)
    have hge := grownCap_ge w 1 0 95
    have hcm := grownCap_le_maxLen w 1 0 95 (by decide)
    have hb := (MapKept.heap_alloc w.drew (.cells (([.int .i64 x, .bool b] : List Value).toArray ++ Builtin.zeroCells (Value.agg #[.int .i64 0, .bool false]).cells (grownCap w 1 0 95 - 1)) 95)).1
    refine ⟨_, _, hr, ?_, ((Kept.refl _ w).drew).alloc _, Or.inr rfl⟩
    refine Ro.of_new (q := [] ++ [(x, b)]) _ _ w.heap.size hb hge hcm ?_ ?_
    · rw [Array.size_append, size_zeroCells]
      simp [Value.cells]
      omega
    · simp [aC]
  · by_cases hroom : q.length + 1 ≤ cap
    · have hf := run_firstCells_some (P := Try.prog) w i.size 1 ad 1 c _ hl hnews
      have hst := run_storeCells_at Try.prog g (o + q.length * i.size) 95 [.int .i64 x, .bool b] 0 cur w hg (by rw [hsz]; simp; omega) h1
      simp only [Nat.add_zero] at hst
      have hr : (Builtin.append_ #[72, 72] ty #[.slice (some ⟨g, o, none⟩) q.length cap, .slice (some ad) 1 c]).run Try.prog w = .ok (.slice (some ⟨g, o, none⟩) (q.length + 1) cap) (w.setRow g (cur.toList.take (o + q.length * i.size) ++ [Value.int .i64 x, Value.bool b] ++ cur.toList.drop (o + q.length * i.size + ([.int .i64 x, .bool b] : List Value).length)).toArray) := by
        simp [Builtin.append_, run_underlying ht, sizeOf, typeInfo, hi, Builtin.lenOf, hroom, hf, Addr.add_lit, hst]
      refine ⟨_, _, hr, ?_, ⟨rfl, rfl, rfl, by simp [World.setRow], fun k _ hk => setRow_other w g k _ (by simpa [Value.ownBlock] using hk)⟩, Or.inl rfl⟩
      refine Or.inr ⟨g, o, cap, _, by rw [hlen], setRow_heap w g cur _ 95 _ hg, by rw [hlen]; exact hroom, hc2, ?_, fun j v hv => ?_⟩
      · simp only [List.size_toArray, List.length_append, List.length_take, List.length_drop, Array.length_toList, List.length_cons, List.length_nil]
        rw [hsz]
        omega
      · rw [hA] at hv
        have hAl := aC_length q
        have hcl : cur.toList.length = cur.size := Array.length_toList
        rw [hsz]
        by_cases hj : j < q.length * 2
        · rw [List.getElem?_append_left (by omega)] at hv
          have := hc4 j v hv
          rw [List.getElem?_toArray, List.append_assoc, List.getElem?_append_left (by rw [List.length_take, hcl]; omega), List.getElem?_take_of_lt (by omega)]
          simpa using this
        · rw [List.getElem?_append_right (by omega), hAl] at hv
          rw [List.getElem?_toArray, List.append_assoc, List.getElem?_append_right (by rw [List.length_take, hcl]; omega), List.length_take, hcl, Nat.min_eq_left (by omega)]
          have hj2 : j - q.length * 2 < 2 := by
            have := (List.getElem?_eq_some_iff.1 hv).1
            simpa using this
          rw [List.getElem?_append_left (by simp; omega), show o + j - (o + q.length * 2) = j - q.length * 2 by omega]
          exact hv
    · have holds : ∀ j u, (aC q)[j]? = some u → w.cell? ((⟨g, o, none⟩ : Addr).add j) = some u := fun j u hu => by
        rw [Addr.add_lit, cell_of_row w g (o + j) cur _ (0, 0) hg]
        exact hc4 j u hu
      have hr := run_append_grow (P := Try.prog) w 72 ty 95 i _ ht hi hz ⟨g, o, none⟩ q.length cap (aC q) (by rw [hsz, aC_length]) holds ad 1 c _ hl hnews (by omega) (by omega) (growslice_fits (by omega) (by rw [hby]; omega))
      have hge := grownCap_ge w (q.length + 1) cap 95
      have hcm := grownCap_le_maxLen w (q.length + 1) cap 95 (by unfold maxLen; omega)
      have hb := (MapKept.heap_alloc w.drew (.cells ((aC q).toArray ++ ([.int .i64 x, .bool b] : List Value).toArray ++ Builtin.zeroCells (Value.agg #[.int .i64 0, .bool false]).cells (grownCap w (q.length + 1) cap 95 - (q.length + 1))) 95)).1
      refine ⟨_, _, hr, ?_, ((Kept.refl _ w).drew).alloc _, Or.inr rfl⟩
      rw [← hlen] at hb ⊢
      refine Ro.of_new (q := q ++ [(x, b)]) _ _ w.heap.size hb (by rw [hlen]; exact hge) (by rw [hlen]; exact hcm) ?_ ?_
      · rw [Array.size_append, size_zeroCells, Array.size_append]
        have := aC_length q
        simp [Value.cells, this]
        omega
      · rw [hA]
        have := aC_length q
        simp only [Array.toList_append]
        rw [List.take_append_of_le_length (by simp [this]; omega), List.take_of_length_le (by simp [this]; omega)]
end Lk
end Go.Proofs.Ytpiiccomkfcifaa
