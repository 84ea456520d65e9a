/- Rows of records: their bytes, and what is read of these; where they lie. Plain facts. No program's run. -/
import Derived.Test.YteebiemfhicgbaaOfm
namespace Go.Proofs.Yteebiemfhicgbaa
set_option linter.unusedVariables false
open Go.RowKit

/-- The bytes of records, one behind the other. -/
def encl : List Rec → List UInt8
  | [] => []
  | s :: l => s.enc ++ encl l
theorem encl_append : ∀ l m, encl (l ++ m) = encl l ++ encl m
  | [], m => rfl
  | s :: l, m => by
    show s.enc ++ encl (l ++ m) = (s.enc ++ encl l) ++ encl m
    rw [encl_append l m, List.append_assoc]
/-- The cells of records. -/
def rowl : List Rec → List Value
  | [] => []
  | s :: l => s.cells.toList ++ rowl l
theorem rowl_append : ∀ l m, rowl (l ++ m) = rowl l ++ rowl m
  | [], m => rfl
  | s :: l, m => by
    show s.cells.toList ++ rowl (l ++ m) = (s.cells.toList ++ rowl l) ++ rowl m
    rw [rowl_append l m, List.append_assoc]
theorem rowl_length : ∀ l, (rowl l).length = l.length * 13
  | [] => rfl
  | s :: l => by
    show (s.cells.toList ++ rowl l).length = (l.length + 1) * 13
    rw [List.length_append, rowl_length l]
    have : s.cells.toList.length = 13 := rfl
    omega
theorem rowl_at : ∀ (l : List Rec) (i : Nat) (s : Rec) (k : Nat) (u : Value), l[i]? = some s → s.cells.toList[k]? = some u → (rowl l)[i * 13 + k]? = some u
  | [], i, s, k, u, h, _ => by cases h
  | q :: l, 0, s, k, u, h, hu => by
    cases h
    show (q.cells.toList ++ rowl l)[0 * 13 + k]? = some u
    rw [Nat.zero_mul, Nat.zero_add, List.getElem?_append_left (List.getElem?_eq_some_iff.1 hu).1]
    exact hu
  | q :: l, i + 1, s, k, u, h, hu => by
    show (q.cells.toList ++ rowl l)[(i + 1) * 13 + k]? = some u
    have hl : q.cells.toList.length = 13 := rfl
    rw [List.getElem?_append_right (by omega), hl, show (i + 1) * 13 + k - 13 = i * 13 + k by omega]
    exact rowl_at l i s k u h hu
/-- Each with its place. -/
def posd : Nat → List Rec → List (Nat × Rec)
  | _, [] => []
  | p, s :: l => (p, s) :: posd (p + s.size) l
theorem posd_length : ∀ p l, (posd p l).length = l.length
  | _, [] => rfl
  | p, s :: l => by show (posd _ l).length + 1 = l.length + 1; rw [posd_length _ l]
theorem posd_encs : ∀ p l, encs (posd p l) = encl l
  | _, [] => rfl
  | p, s :: l => by show s.enc ++ encs (posd _ l) = s.enc ++ encl l; rw [posd_encs _ l]
theorem posd_row : ∀ p l, rowOf (posd p l) = rowl l
  | _, [] => rfl
  | p, s :: l => by show s.cells.toList ++ rowOf (posd _ l) = s.cells.toList ++ rowl l; rw [posd_row _ l]
theorem recs_posd : ∀ (l : List Rec) (k p : Nat), l.length ≤ k → (∀ s ∈ l, s.Ok ∧ s.err = 0) → recs k ⟨encl l, p, 0, 0⟩ = posd p l
  | [], 0, p, _, _ => rfl
  | [], k + 1, p, _, _ => rfl
  | s :: l, 0, p, h, _ => by simp at h
  | s :: l, k + 1, p, h, ho => by
    obtain ⟨so, se⟩ := ho s (by simp)
    obtain ⟨h1, h2⟩ := Rec.took_of s (encl l) p 0 so se
    have hne : ¬ (encl (s :: l)).length = 0 := by
      show ¬ (s.enc ++ encl l).length = 0
      rw [List.length_append, Rec.enc_length]
      unfold Rec.size
      omega
    show (if (encl (s :: l)).length = 0 then [] else if (⟨encl (s :: l), p, 0, 0⟩ : RS).took.err = 0 then ((⟨encl (s :: l), p, 0, 0⟩ : RS).pos, (⟨encl (s :: l), p, 0, 0⟩ : RS).rec') :: recs k (⟨encl (s :: l), p, 0, 0⟩ : RS).took else []) = _
    rw [if_neg hne]
    show (if (⟨s.enc ++ encl l, p, 0, 0⟩ : RS).took.err = 0 then (p, (⟨s.enc ++ encl l, p, 0, 0⟩ : RS).rec') :: recs k (⟨s.enc ++ encl l, p, 0, 0⟩ : RS).took else []) = _
    rw [h1, h2, if_pos rfl, recs_posd l k (p + s.size) (by simp at h; omega) (fun x hx => ho x (by simp [hx]))]
    rfl
theorem encl_ge : ∀ l : List Rec, l.length ≤ (encl l).length
  | [] => Nat.le_refl _
  | s :: l => by
    have := encl_ge l
    show l.length + 1 ≤ (s.enc ++ encl l).length
    rw [List.length_append, Rec.enc_length]
    unfold Rec.size
    omega
/-- What is read of records' bytes are these records. -/
theorem allRecs_encl {l : List Rec} (ho : ∀ s ∈ l, s.Ok ∧ s.err = 0) : allRecs (encl l) = posd 0 l := recs_posd l _ 0 (encl_ge l) ho
theorem allRecs_whole {l : List Rec} (ho : ∀ s ∈ l, s.Ok ∧ s.err = 0) : endOf (allRecs (encl l)) = (encl l).length := by
  rw [allRecs_end, allRecs_encl ho, posd_encs]
/-- Records lie in the cells from here on. -/
def RowAt (w : World) (g o : Nat) (l : List Rec) : Prop := ∀ (i : Nat) (s : Rec), l[i]? = some s → ∀ (k : Nat) (u : Value), s.cells.toList[k]? = some u → w.cell? ⟨g, o + i * 13 + k, none⟩ = some u
theorem RowAt.kept {w w' : World} {g o : Nat} {l : List Rec} {S : List Nat} (h : RowAt w g o l) (hk : Kept S w w') (hg : g ∉ S) : RowAt w' g o l := fun i s hi k u hu => by
  have hc := h i s hi k u hu
  exact (World.cell?_of_block (hk.block _ (World.block_lt_of_cell? w _ hc) hg)).trans hc
theorem RowAt.of {w : World} {base n cap g : Nat} {l : List Rec} (h : w.ownsRow base 30 13 (.slice (some ⟨g, 0, none⟩) n cap) n (rowl l)) : RowAt w g 0 l := fun i s hi k u hu => by
  have hr := rowl_at l i s k u hi hu
  rcases h.2 with ⟨h2, _⟩ | ⟨g', cap', cur, h2, _, hg, _, _, _, ht⟩
  · cases h2
  · cases h2
    rw [cell_of_row w g (0 + i * 13 + k) _ 30 (0, 0) hg]
    rw [← ht, List.getElem?_take] at hr
    split at hr
    · rw [← hr]; simp
    · cases hr
theorem RowAt.drop {w : World} {g o : Nat} {l : List Rec} (h : RowAt w g o l) (m : Nat) : RowAt w g (o + m * 13) (l.drop m) := fun i s hi k u hu => by
  rw [List.getElem?_drop] at hi
  have := h _ s hi k u hu
  rwa [show o + m * 13 + i * 13 + k = o + (m + i) * 13 + k by omega]
/-- The thirteen cells of one of them. -/
theorem RowAt.cells {w : World} {g o : Nat} {l : List Rec} (h : RowAt w g o l) {i : Nat} {s : Rec} (hi : l[i]? = some s) :
    w.cell? ⟨g, o + i * 13, none⟩ = some (.int .u16 s.ty) ∧ w.cell? ⟨g, o + i * 13 + 1, none⟩ = some (.int .u32 s.dev) ∧ w.cell? ⟨g, o + i * 13 + 2, none⟩ = some (.int .u8 s.kind) ∧ w.cell? ⟨g, o + i * 13 + 3, none⟩ = some (.int .u32 s.vers) ∧
    w.cell? ⟨g, o + i * 13 + 4, none⟩ = some (.int .u64 s.path) ∧ w.cell? ⟨g, o + i * 13 + 5, none⟩ = some (.int .u32 s.mode) ∧ w.cell? ⟨g, o + i * 13 + 6, none⟩ = some (.int .u32 s.atime) ∧ w.cell? ⟨g, o + i * 13 + 7, none⟩ = some (.int .u32 s.mtime) ∧
    w.cell? ⟨g, o + i * 13 + 8, none⟩ = some (.int .u64 s.len) ∧ w.cell? ⟨g, o + i * 13 + 9, none⟩ = some (.string s.name) ∧ w.cell? ⟨g, o + i * 13 + 10, none⟩ = some (.string s.uid) ∧ w.cell? ⟨g, o + i * 13 + 11, none⟩ = some (.string s.gid) ∧
    w.cell? ⟨g, o + i * 13 + 12, none⟩ = some (.string s.muid) :=
  ⟨h i s hi 0 _ rfl, h i s hi 1 _ rfl, h i s hi 2 _ rfl, h i s hi 3 _ rfl, h i s hi 4 _ rfl, h i s hi 5 _ rfl, h i s hi 6 _ rfl, h i s hi 7 _ rfl, h i s hi 8 _ rfl, h i s hi 9 _ rfl, h i s hi 10 _ rfl, h i s hi 11 _ rfl, h i s hi 12 _ rfl⟩
end Go.Proofs.Yteebiemfhicgbaa
