/- The law's book, its blocks as a list: what owns, turn and ends leave. -/
import Derived.Test.YtfdbpbhihccgbaaZBkt
namespace Go.Proofs.Ytfdbpbhihccgbaa
set_option linter.unusedVariables false
open Go.RowKit

namespace Zb
theorem Bkd.recol {w : World} {k N : Nat} {col col' : Nat → Nat} (h : Bkd w k col N) (hc : ∀ b, b < w.heap.size → col b ≤ 6 → col' b = col b) : Bkd w k col' N := by
  obtain ⟨lv, mv, hv, tv, fv, wv, vs, fs, ms, hs, hb, ts, xs, ys, xb, B, h1, h2, h3, h4⟩ := h
  exact ⟨lv, mv, hv, tv, fv, wv, vs, fs, ms, hs, hb, ts, xs, ys, xb, (B.half.recol hc).full, h1, h2, h3, h4⟩
theorem Bkd.new (w : World) (col : Nat → Nat) : Bkd (w.alloc (.cells #[.slice none 0 0, .slice none 0 0, .slice none 0 0, .slice none 0 0, .slice none 0 0, .slice none 0 0] 39 (0, 0))) w.heap.size (upd col w.heap.size 6) 0 := by
  have N : ∀ (v : Nat → Prop) (x : World), FrP x (.slice none 0 0) [] [] v 0 := fun v x => FrP.nil x v
  refine ⟨_, _, _, _, _, _, [], [], [], [], [], [], [], [], [], ⟨heap_alloc_new w _, N _ _, World.ownsRow_nil _ _ _ _, (fun b h => by cases h), rfl, ?_, N _ _, N _ _, N _ _, N _ _, (by unfold upd; simp), ?_, ?_⟩, (by simp), (fun x h => by cases h), (fun x h => by cases h), (fun x h => by cases h)⟩
  · intro i hi
    simp at hi
  · intro i j hi
    simp at hi
  · intro i j hi
    simp at hi
end Zb

/-- A book lies at block k; B: its blocks; n: how many lists it was given. -/
def Bkl (w : World) (k : Nat) (B : List Nat) (n : Nat) : Prop := ∃ col, Zb.Bkd w k col (5 * n) ∧ (∀ b ∈ B, b < w.heap.size ∧ col b ≤ 6) ∧ ∀ b, b < w.heap.size → col b ≤ 6 → b ∈ B
theorem Bkl.lt {w : World} {k n : Nat} {B : List Nat} (h : Bkl w k B n) : ∀ i ∈ B, i < w.heap.size := by
  obtain ⟨col, h1, h2, h3⟩ := h
  exact fun i hi => (h2 i hi).1
theorem Bkl.kept {w w' : World} {k n : Nat} {B T : List Nat} (h : Bkl w k B n) (hk : Kept T w w') (hx : ∀ i ∈ B, i ∉ T) : Bkl w' k B n := by
  obtain ⟨col, h1, h2, h3⟩ := h
  have hz := hk.size
  refine ⟨fun b => if b < w.heap.size then col b else 7, h1.kept hk (fun b hb hlt => ?_) (fun b hb => if_pos hb), fun b hb => ?_, fun b hb h6 => ?_⟩
  · refine Nat.le_of_not_lt fun hc => hx b (h3 b hlt (by omega)) hb
  · have := h2 b hb
    refine ⟨by omega, ?_⟩
    simp only
    rw [if_pos this.1]
    exact this.2
  · by_cases hlt : b < w.heap.size
    · simp only [if_pos hlt] at h6
      exact h3 b hlt h6
    · simp only [if_neg hlt] at h6
      omega
/-- The blocks of colours up to 6. -/
theorem Bkl.of {w : World} {k n : Nat} {col : Nat → Nat} (h : Zb.Bkd w k col (5 * n)) : Bkl w k ((List.range w.heap.size).filter fun b => decide (col b ≤ 6)) n := by
  refine ⟨col, h, fun b hb => ?_, fun b hb h6 => ?_⟩
  · have := List.mem_filter.1 hb
    exact ⟨List.mem_range.1 this.1, of_decide_eq_true this.2⟩
  · exact List.mem_filter.2 ⟨List.mem_range.2 hb, decide_eq_true h6⟩
theorem Bkl.new (w : World) : Bkl (w.alloc (.cells #[.slice none 0 0, .slice none 0 0, .slice none 0 0, .slice none 0 0, .slice none 0 0, .slice none 0 0] 39 (0, 0))) w.heap.size [w.heap.size] 0 := by
  refine ⟨_, Zb.Bkd.new w (fun _ => 7), fun b hb => ?_, fun b hb h6 => ?_⟩
  · simp at hb
    subst hb
    refine ⟨by simp, ?_⟩
    unfold Zb.upd
    simp
  · unfold Zb.upd at h6
    by_cases e : b = w.heap.size
    · rw [e]; simp
    · rw [if_neg e] at h6
      simp at h6
/-- What a call on the book leaves; v: what it may have taken. -/
def BklOut (w : World) (k : Nat) (B : List Nat) (n : Nat) (v : Value) (w' : World) : Prop := ∃ B', Hid (Bkl w' k B' n) ∧ Hid (Kept B w w') ∧ Hid (∀ i ∈ B', i ∈ B ∨ v.ownBlock = some i ∨ w.heap.size ≤ i)

namespace Bkl
theorem owns_any (w : World) (k : Nat) (B : List Nat) (n : Nat) (v : Value) (bs : List UInt8) (hn : 5 * n ≤ 1000000000) (hsz : bs.length ≤ 1100000000) (hv : Hid (w.ownsRow 0 5 1 v bs.length (bs.map Zb.bv))) (hvc : Hid (∀ b, v.ownBlock = some b → b ∉ B)) (h : Hid (Bkl w k B n)) :
    Calls Try.prog 44 #[.pointer (some ⟨k, 0, none⟩), v] w fun e w' => e = .returned (.tuple #[]) ∧ BklOut w k B (n + 1) v w' := by
  obtain ⟨col, h1, h2, h3⟩ := h.out
  obtain ⟨c2, hc2⟩ : ∃ c : Nat → Nat, c = fun b => if col b ≤ 6 then col b else 7 := ⟨_, rfl⟩
  have lo : ∀ b, col b ≤ 6 → c2 b = col b := fun b hb => by rw [hc2]; exact if_pos hb
  have hi : ∀ b, ¬ col b ≤ 6 → c2 b = 7 := fun b hb => by rw [hc2]; exact if_neg hb
  refine (Zb.Bk.owns_any w k c2 (5 * n) v bs hn hsz hv (fun b hb => hi b (fun h6 => ?_)) (h1.recol (fun b _ hb => lo b hb))).mono fun e w' ⟨he, col', b', k', s'⟩ => ⟨he, _, Bkl.of (n := n + 1) (col := col') (b'.out.more (by omega)), ?_, fun i hm => ?_⟩
  · exact hvc.out b hb (h3 b (hv.out.lt b hb).2 h6)
  · obtain ⟨S, K, hS⟩ := k'.out
    refine K.mono fun i hm => ?_
    by_cases hlt : i < w.heap.size
    · left
      refine h3 i hlt ?_
      have := hS i hm hlt
      by_cases h6 : col i ≤ 6
      · exact h6
      · rw [hi i h6] at this; omega
    · right; omega
  · have h4 := List.mem_filter.1 hm
    have h5 : col' i ≤ 6 := of_decide_eq_true h4.2
    by_cases hlt : i < w.heap.size
    · by_cases hvi : v.ownBlock = some i
      · exact Or.inr (Or.inl hvi)
      · left
        rw [s'.out i hlt hvi] at h5
        refine h3 i hlt ?_
        by_cases h6 : col i ≤ 6
        · exact h6
        · rw [hi i h6] at h5; omega
    · right; right; omega
theorem after {w w' : World} {k n : Nat} {B : List Nat} {col col' : Nat → Nat} (h2 : ∀ b ∈ B, b < w.heap.size ∧ col b ≤ 6) (h3 : ∀ b, b < w.heap.size → col b ≤ 6 → b ∈ B) (b' : Zb.Bkd w' k col' (5 * n)) (f : Zb.Fr w col w' col' 0) : BklOut w k B n (.bool true) w' := by
  obtain ⟨S, K, hS⟩ := f.kept
  refine ⟨_, Bkl.of b', K.mono fun i hm => ?_, fun i hm => ?_⟩
  · by_cases hlt : i < w.heap.size
    · left
      have := hS i hm hlt
      exact h3 i hlt (by omega)
    · right; omega
  · have h4 := List.mem_filter.1 hm
    have h5 : col' i ≤ 6 := of_decide_eq_true h4.2
    by_cases hlt : i < w.heap.size
    · left
      refine h3 i hlt ?_
      by_cases h6 : col i ≤ 6
      · exact h6
      · rw [f.same i hlt (by omega)] at h5; exact h5
    · right; right; omega
theorem turn_any (w : World) (k : Nat) (B : List Nat) (n : Nat) (hn : 5 * n ≤ 1000000000) (h : Hid (Bkl w k B n)) :
    Calls Try.prog 11 #[.pointer (some ⟨k, 0, none⟩)] w fun e w' => e = .returned (.bool true) ∧ BklOut w k B n (.bool true) w' := by
  obtain ⟨col, h1, h2, h3⟩ := h.out
  exact (Zb.Bk.turn_any w k col (5 * n) hn h1).mono fun e w' ⟨he, col', b', f'⟩ => ⟨he, Bkl.after h2 h3 b'.out f'.out⟩
theorem ends_any (w : World) (k : Nat) (B : List Nat) (n : Nat) (hn : 5 * n ≤ 1000000000) (h : Hid (Bkl w k B n)) :
    Calls Try.prog 15 #[.pointer (some ⟨k, 0, none⟩)] w fun e w' => e = .returned (.bool true) ∧ BklOut w k B n (.bool true) w' := by
  obtain ⟨col, h1, h2, h3⟩ := h.out
  exact (Zb.Bk.ends_any w k col (5 * n) hn h1).mono fun e w' ⟨he, col', b', f'⟩ => ⟨he, Bkl.after h2 h3 b'.out f'.out⟩
end Bkl
end Go.Proofs.Ytfdbpbhihccgbaa
