/- Lists of frames in memory; the law's alike. -/
import Derived.Test.YtfdbpbhihccgbaaZSam
import Derived.Test.YtfdbpbhihccgbaaZLaw
import Derived.StillTailTactics
namespace Go.Proofs.Ytfdbpbhihccgbaa.Zb
set_option linter.unusedVariables false
open Go.RowKit

/-- A list of lists of bytes, all of the call's own. T: its blocks. -/
structure FrL (w : World) (v : Value) (vs : List Value) (fs : List (List UInt8)) (T : List Nat) : Prop where
  len : vs.length = fs.length
  own : w.ownsRow 0 37 1 v vs.length vs
  el : ∀ i (h : i < vs.length) (h' : i < fs.length), Own w 0 vs[i] fs[i] ∧ ∀ k, vs[i].ownBlock = some k → k ∈ T
  blk : ∀ k, v.ownBlock = some k → k ∈ T
  lt : ∀ k ∈ T, k < w.heap.size
theorem FrL.nil (w : World) : FrL w (.slice none 0 0) [] [] [] := ⟨rfl, World.ownsRow_nil _ _ _ _, (fun i h => by simp at h), (fun k h => by cases h), (fun k h => by cases h)⟩
theorem FrL.kept {w w' : World} {v : Value} {vs : List Value} {fs : List (List UInt8)} {T S : List Nat} (h : FrL w v vs fs T) (hk : Kept S w w') (hd : ∀ k ∈ T, k ∉ S) : FrL w' v vs fs T :=
  ⟨h.len, ownsRow_kept h.own hk (fun k e => hd k (h.blk k e)), fun i h1 h2 => ⟨ownsRow_kept (h.el i h1 h2).1 hk (fun k e => hd k ((h.el i h1 h2).2 k e)), (h.el i h1 h2).2⟩, h.blk, fun k hk' => Nat.lt_of_lt_of_le (h.lt k hk') hk.size⟩
/-- One more. -/
theorem FrL.push {w W w1 : World} {v v' x : Value} {vs : List Value} {fs : List (List UInt8)} {f : List UInt8} {T : List Nat} {n : Nat} (h : FrL w v vs fs T) (hW : Kept [] w W) (hx : Own W 0 x f) (hn : n = vs.length)
    (hown : w1.ownsRow 0 37 1 v' (n + 1) (vs ++ [x])) (hgrow : W.grownBy w1 v.ownBlock) (hat : v'.ownBlock = v.ownBlock ∨ v'.ownBlock = some W.heap.size) :
    FrL w1 v' (vs ++ [x]) (fs ++ [f]) (T ++ (x.ownBlock.toList ++ v'.ownBlock.toList)) ∧ Kept v.ownBlock.toList w w1 ∧ Kept v.ownBlock.toList W w1 := by
  subst hn
  have kW : Kept v.ownBlock.toList W w1 := (Kept.refl _ W).grown hgrow (fun k e => Or.inl (by rw [e]; simp))
  have k1 : Kept v.ownBlock.toList w w1 := (hW.mono (T := v.ownBlock.toList) (fun i hi => by simp at hi)).trans kW (fun i hi => Or.inl hi)
  have ne : ∀ {y : Value} {g : List UInt8} {u : World}, Kept [] w u → Own u 0 y g → ∀ k, y.ownBlock = some k → k ∉ v.ownBlock.toList := fun {y g u} hu hy k hk hm => by
    have hv := ownsRow_kept h.own hu (fun i _ hm => by simp at hm)
    rcases hv.2 with ⟨rfl, _⟩ | ⟨gg, cap, cur, rfl, _, hgg, _⟩
    · simp [Value.ownBlock] at hm
    · simp [Value.ownBlock] at hm
      subst hm
      exact own_neB hy hgg (by decide) k hk rfl
  refine ⟨⟨by simp [h.len], by simpa using hown, fun i h1 h2 => ?_, fun k hk => by simp [hk], fun k hk => ?_⟩, k1, kW⟩
  · by_cases hi : i < vs.length
    · have hi2 : i < fs.length := by have := h.len; omega
      rw [List.getElem_append_left hi, List.getElem_append_left hi2]
      obtain ⟨a, b⟩ := h.el i hi hi2
      exact ⟨ownsRow_kept a k1 (ne (Kept.refl _ _) a), fun k hk => List.mem_append_left _ (b k hk)⟩
    · have e1 : i = vs.length := by simp at h1; omega
      subst e1
      rw [List.getElem_append_right (Nat.le_refl _), List.getElem_append_right (by have := h.len; omega)]
      simp only [Nat.sub_self, h.len, List.getElem_singleton]
      exact ⟨ownsRow_kept hx kW (ne hW hx), fun k hk => by simp [hk]⟩
  · rcases List.mem_append.1 hk with hk | hk
    · exact Nat.lt_of_lt_of_le (h.lt k hk) k1.size
    · rcases List.mem_append.1 hk with hk | hk
      · exact Nat.lt_of_lt_of_le (hx.lt k (by simpa using hk)).2 kW.size
      · exact (hown.lt k (by simpa using hk)).2
theorem FrL.at {w : World} {v : Value} {vs : List Value} {fs : List (List UInt8)} {T : List Nat} (h : FrL w v vs fs T) (i : Nat) (hi : i < fs.length) :
    ∃ b c y, v = .slice (some ⟨b, 0, none⟩) fs.length c ∧ fs.length ≤ c ∧ w.cell? ⟨b, i, none⟩ = some y ∧ Own w 0 y fs[i] ∧ ∀ k, y.ownBlock = some k → k ∈ T := by
  have hi' : i < vs.length := by rw [h.len]; exact hi
  have hc := fun g => h.own.cells (g := g)
  rcases h.own.2 with ⟨_, h0⟩ | ⟨g, cap, cur, e, _, _, hn, _⟩
  · omega
  · obtain ⟨a, b⟩ := h.el i hi' hi
    refine ⟨g, cap, vs[i], by rw [e, h.len], by rw [← h.len]; exact hn, ?_, a, b⟩
    have := hc g (by rw [e]; rfl) i vs[i] (List.getElem?_eq_getElem hi')
    rw [Addr.add_lit, Nat.zero_add] at this
    exact this
theorem FrL.val {w : World} {v : Value} {vs : List Value} {fs : List (List UInt8)} {T : List Nat} (h : FrL w v vs fs T) : ∃ a c, v = .slice a fs.length c := by
  obtain ⟨a, c, e⟩ := own_slice h.own
  exact ⟨a, c, by rw [e, h.len]⟩

end Go.Proofs.Ytfdbpbhihccgbaa.Zb
