/- users: what a sort does not hang on; that it rises. -/
import Derived.Test.YteeheapenfklcaaDoorUgg
namespace Go.Proofs.YteeheapenfklcaaDoor
set_option linter.unusedVariables false
namespace Us
open Go.Proofs.YteeheapenfklcaaDoor.Utf Go.Proofs.YteeheapenfklcaaDoor.Txt
theorem le_anti {a b : List UInt8} (h1 : a ≤ b) (h2 : b ≤ a) : a = b := List.le_antisymm h1 h2
theorem sorted_dl (l : List (List UInt8)) : (l.mergeSort (fun x y => decide (x ≤ y))).Pairwise (fun x y => x ≤ y) := by
  have h := List.pairwise_mergeSort (le := fun x y : List UInt8 => decide (x ≤ y)) (fun a b c h1 h2 => by simp only [decide_eq_true_eq] at *; exact List.le_trans h1 h2) (fun a b => by simp only [Bool.or_eq_true, decide_eq_true_eq]; exact List.le_total a b) l
  exact h.imp (fun h => by simpa using h)
theorem sorted_unique : ∀ {l m : List (List UInt8)}, l.Pairwise (fun x y => x ≤ y) → m.Pairwise (fun x y => x ≤ y) → l.Perm m → l = m
  | [], m, _, _, h => (List.nil_perm.1 h).symm ▸ rfl
  | a :: l, [], _, _, h => absurd h.length_eq (by simp)
  | a :: l, b :: m, hl, hm, h => by
    have h1 := List.pairwise_cons.1 hl
    have h2 := List.pairwise_cons.1 hm
    have ab : a = b := by
      have hb : b ∈ a :: l := h.mem_iff.2 (by simp)
      have ha : a ∈ b :: m := h.mem_iff.1 (by simp)
      rcases List.mem_cons.1 hb with e | hb
      · exact e.symm
      · rcases List.mem_cons.1 ha with e | ha
        · exact e
        · exact le_anti (h1.1 b hb) (h2.1 a ha)
    subst ab
    rw [sorted_unique h1.2 h2.2 ((List.perm_cons a).1 h)]
/-- The order does not matter. -/
theorem sortB_congr {G H : List ByteArray} (h : G.Perm H) : sortB G = sortB H := by
  unfold sortB
  congr 1
  exact sorted_unique (sorted_dl _) (sorted_dl _) ((List.mergeSort_perm _ _).trans ((h.map dl).trans (List.mergeSort_perm _ _).symm))
/-- It rises. -/
theorem sortB_rises {G : List ByteArray} (h : G.Nodup) : (sortB G).Pairwise (fun x y => dl x ≤ dl y ∧ dl x ≠ dl y) := by
  have h1 := sorted_dl (G.map dl)
  have h2 : (sortB G).Nodup := (sortB_perm G).nodup_iff.2 h
  have h3 : (sortB G).Pairwise (fun x y => dl x ≤ dl y) := by
    unfold sortB
    rw [List.pairwise_map]
    exact h1.imp (fun h => h)
  exact (List.pairwise_and_iff.2 ⟨h3, h2.imp (fun hne e => hne (dl_inj e))⟩)
end Us
end Go.Proofs.YteeheapenfklcaaDoor
