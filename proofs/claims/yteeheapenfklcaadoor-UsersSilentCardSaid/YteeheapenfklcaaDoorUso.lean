/- UsersSilent: the lines as they are put together; a list of texts that came in. -/
import Derived.Test.YteeheapenfklcaaDoorUsn
import Derived.Test.YteeheapenfklcaaDoorUom
import Derived.Deep.Strs
namespace Go.Proofs.YteeheapenfklcaaDoor
set_option linter.unusedVariables false
open Go.RowKit Go.Shelf Go.Deep
namespace Us
open Go.Proofs.YteeheapenfklcaaDoor.Utf Go.Proofs.YteeheapenfklcaaDoor.Txt Go.PlainAid Go.Proofs.YteeheapenfklcaaDoor.Mpf
/-- A list of texts, as it came in. -/
def LstS (w : World) (v : Value) (xs : List ByteArray) : Prop :=
  ∃ a c, v = .slice a xs.length c ∧ xs.length ≤ 9223372036854775807 ∧ (xs = [] ∨ ∃ b o, a = some ⟨b, o, none⟩ ∧ ∀ j (h : j < xs.length), w.cell? ⟨b, o + j, none⟩ = some (.string xs[j]))
theorem LstS.kept {w w' : World} {v : Value} {xs : List ByteArray} (h : LstS w v xs) (k : Kept [] w w') : LstS w' v xs := by
  obtain ⟨a, c, rfl, hc, h⟩ := h
  refine ⟨a, c, rfl, hc, ?_⟩
  rcases h with rfl | ⟨b, o, rfl, h⟩
  · exact Or.inl rfl
  · exact Or.inr ⟨b, o, rfl, fun j hj => wk k (h j hj)⟩
theorem kStr : Tryd.prog.cellsOf 9 = 1 := by kernel_rfl
theorem lst_of {H : Type} {enc : TypeId × Value → H} {w : World} {spare : Nat → Bool} {held : Bool} {fuel : Nat} {v : Value} {x : DataW H × List MemPlace} (h : DataW.trod enc Tryd.prog w 0 spare held fuel 33 [v] = some x) : ∃ xs, LstS w v xs := by
  rcases open_strs Tryd.underlying33 Tryd.underlying9 kStr h with ⟨hv, -⟩ | ⟨a, len, cap, m, Sx, hcs, hb, hl, hm, hmm, hx, hi⟩
  · simp only [List.cons.injEq, and_true] at hv
    exact ⟨[], none, 0, hv, by simp, Or.inl rfl⟩
  · simp only [List.cons.injEq, and_true] at hcs
    subst hcs
    unfold maxLen at hm
    have hlm : len ≤ m := by rw [hmm]; split <;> omega
    refine ⟨(List.range len).map Sx, some a, cap, by simp, by simp; omega, ?_⟩
    by_cases h0 : len = 0
    · left; rw [h0]; rfl
    · right
      have c0 := (hi 0 (by omega)).1
      obtain ⟨b, o, rfl⟩ : ∃ b o, a = ⟨b, o, none⟩ := by
        obtain ⟨b, o, q⟩ := a
        have hsq : q = none := by simpa [Addr.add] using World.cell?_spot c0
        subst hsq
        exact ⟨b, o, rfl⟩
      refine ⟨b, o, rfl, fun j hj => ?_⟩
      simp only [List.length_map, List.length_range] at hj
      have := (hi j (by omega)).1
      rw [Addr.add_lit] at this
      rw [this]
      simp
/-- The i-th line, if there is one. -/
def barA (T : List Acc) (i : Nat) : List Ln := ((T[i]?).map fun a => Ln.acc (bare a)).toList
/-- The lines before the i-th place; the silent ones S stand ahead of the k-th. -/
def XA (S : List Ln) (T : List Acc) (k : Nat) : Nat → List Ln
  | 0 => []
  | i + 1 => XA S T k i ++ ((if i = k then S else []) ++ barA T i)
def cntS (S : List Ln) (k i : Nat) : Nat := if k < i then S.length else 0
theorem XA_acc (S : List Ln) (T : List Acc) (k : Nat) (hS : ∀ x ∈ S, x.get = none) : ∀ i, i ≤ T.length + 1 → accsX (XA S T k i) = (T.take i).map bare
  | 0, _ => rfl
  | i + 1, h => by
    have ih := XA_acc S T k hS i (by omega)
    have e0 : accsX S = [] := by unfold accsX; rw [List.filterMap_eq_nil_iff]; exact hS
    unfold XA
    rw [accsX_append, accsX_append, ih]
    have e1 : accsX (if i = k then S else []) = [] := by split <;> first | exact e0 | rfl
    rw [e1, List.nil_append]
    by_cases hi : i < T.length
    · rw [List.take_succ_eq_append_getElem hi, List.map_append]
      unfold barA
      rw [List.getElem?_eq_getElem hi]
      rfl
    · unfold barA
      rw [List.getElem?_eq_none (by omega), List.take_of_length_le (by omega), List.take_of_length_le (by omega)]
      simp [accsX]
theorem cnt_step (S : List Ln) (k i : Nat) : cntS S k (i + 1) = cntS S k i + (if i = k then S else []).length := by
  unfold cntS
  by_cases h1 : i = k
  · subst h1; simp
  · by_cases h2 : k < i
    · rw [if_pos h2, if_pos (show k < i + 1 by omega), if_neg h1]; rfl
    · rw [if_neg h2, if_neg (show ¬ k < i + 1 by omega), if_neg h1]; rfl
theorem bar_len (T : List Acc) (i : Nat) : min (i + 1) T.length = min i T.length + (barA T i).length := by
  unfold barA
  by_cases hi : i < T.length
  · rw [List.getElem?_eq_getElem hi]
    show _ = _ + 1
    omega
  · rw [List.getElem?_eq_none (by omega)]
    show _ = _ + 0
    omega
theorem XA_len (S : List Ln) (T : List Acc) (k : Nat) : ∀ i, (XA S T k i).length = cntS S k i + min i T.length
  | 0 => by simp [XA, cntS]
  | i + 1 => by
    have ih := XA_len S T k i
    have h1 := cnt_step S k i
    have h2 := bar_len T i
    unfold XA
    rw [List.length_append, List.length_append, ih, h1, h2]
    omega
theorem XA_fine {S : List Ln} {T : List Acc} (k : Nat) (hS : ∀ x ∈ S, Fine x) (hT : ∀ a ∈ T, form a = true) : ∀ i, ∀ x ∈ XA S T k i, Fine x
  | 0, x, hx => by cases hx
  | i + 1, x, hx => by
    unfold XA at hx
    rcases List.mem_append.1 hx with hx | hx
    · exact XA_fine k hS hT i x hx
    · rcases List.mem_append.1 hx with hx | hx
      · split at hx
        · exact hS x hx
        · cases hx
      · unfold barA at hx
        rw [Option.mem_toList, Option.map_eq_some_iff] at hx
        obtain ⟨a, ha, rfl⟩ := hx
        exact bare_fine (hT a (List.mem_of_getElem? ha))
theorem textX_len {X : List Ln} {m : Nat} (h : ∀ x ∈ X, x.lin.length ≤ m) : (textX X).length ≤ X.length * (m + 1) := by
  induction X with
  | nil => simp [textX]
  | cons x X ih =>
    have h1 := h x (by simp)
    have h2 := ih (fun y hy => h y (by simp [hy]))
    have e : textX (x :: X) = (x.lin ++ [10]) ++ textX X := by simp [textX]
    show _ ≤ (X.length + 1) * (m + 1)
    rw [e, List.length_append, List.length_append, Nat.add_mul]
    simp only [List.length_cons, List.length_nil]
    omega
theorem XA_short {S : List Ln} {T : List Acc} (k : Nat) (hS : ∀ x ∈ S, x.lin.length ≤ 67) (hT : ∀ a ∈ T, Fit a) : ∀ i, ∀ x ∈ XA S T k i, x.lin.length ≤ 67
  | 0, x, hx => by cases hx
  | i + 1, x, hx => by
    unfold XA at hx
    rcases List.mem_append.1 hx with hx | hx
    · exact XA_short k hS hT i x hx
    · rcases List.mem_append.1 hx with hx | hx
      · split at hx
        · exact hS x hx
        · cases hx
      · unfold barA at hx
        rw [Option.mem_toList, Option.map_eq_some_iff] at hx
        obtain ⟨a, ha, rfl⟩ := hx
        exact bare_len (hT a (List.mem_of_getElem? ha))
/-- The silent lines of so many texts. -/
def sils (ls : List ByteArray) (j : Nat) : List Ln := (ls.take j).map silLn
theorem sils_len (ls : List ByteArray) {j : Nat} (h : j ≤ ls.length) : (sils ls j).length = j := by unfold sils; rw [List.length_map, List.length_take]; omega
theorem sils_len60 (ls : List ByteArray) (j : Nat) : (sils ls j).length ≤ j := by unfold sils; rw [List.length_map, List.length_take]; omega
theorem sils_step (ls : List ByteArray) {j : Nat} (h : j < ls.length) : sils ls (j + 1) = sils ls j ++ [silLn ls[j]] := by unfold sils; rw [List.take_succ_eq_append_getElem h, List.map_append]; rfl
theorem sils_end {ls : List ByteArray} {j : Nat} (h1 : ls.length ≤ j) (h2 : j ≤ 60) : sils ls j = sils ls 60 := by
  unfold sils
  rw [List.take_of_length_le h1, List.take_of_length_le (by omega)]
theorem short_X {S : List Ln} {T : List Acc} (k i : Nat) (hS : ∀ x ∈ S, x.lin.length ≤ 67) (hn : S.length ≤ 60) (hT : ∀ a ∈ T, Fit a) (hl : T.length ≤ 30) (hi : i ≤ T.length + 1) : (textX (XA S T k i)).length ≤ 6200 := by
  have h1 := textX_len (XA_short k hS hT i)
  have h2 := XA_len S T k i
  have h3 : cntS S k i ≤ 60 := by unfold cntS; split <;> omega
  have h4 : (XA S T k i).length ≤ 90 := by omega
  have := Nat.mul_le_mul_right 68 h4
  omega
theorem sil_X {ls : List ByteArray} {T : List Acc} {k : Nat} (hT : T.length ≤ 30) (hF : ∀ a ∈ T, form a = true) (hf : ∀ a ∈ T, Fit a) (hN : (T.map (·.name)).Nodup) (hn : ∀ a ∈ T, a.name ≠ newN ∧ a.name ≠ nobN) : FineX (XA (sils ls 60) T k (T.length + 1)) := by
  have hs : ∀ x ∈ sils ls 60, ∃ s, x = silLn s := fun x hx => by
    obtain ⟨s, -, rfl⟩ := List.mem_map.1 hx
    exact ⟨s, rfl⟩
  have eA : accsX (XA (sils ls 60) T k (T.length + 1)) = T.map bare := by
    rw [XA_acc _ T k (fun x hx => by obtain ⟨s, rfl⟩ := hs x hx; rfl) _ (Nat.le_refl _), List.take_of_length_le (by omega)]
  refine ⟨XA_fine k (fun x hx => by obtain ⟨s, rfl⟩ := hs x hx; exact sil_fine s) hF _, ?_, ?_, ?_, ?_⟩
  · rw [eA, List.map_map]; exact hN
  · rw [eA]
    intro a ha
    obtain ⟨b, hb, rfl⟩ := List.mem_map.1 ha
    exact hn b hb
  · have := short_X (S := sils ls 60) (T := T) k (T.length + 1) (fun x hx => by obtain ⟨s, rfl⟩ := hs x hx; have := sil_len s; omega) (sils_len60 ls 60) hf hT (Nat.le_refl _)
    omega
  · rw [eA]
    have h1 := text_short (T.map bare) 67 (fun a ha => by obtain ⟨b, hb, rfl⟩ := List.mem_map.1 ha; exact bare_len (hf b hb))
    rw [List.length_map] at h1
    omega
theorem ofL_add (a b : List UInt8) : ofL (a ++ b) = ofL a ++ ofL b := by
  apply ByteArray.ext
  rw [ByteArray.data_append]
  simp [ofL]
theorem parse_none {w : World} {s : ByteArray} {er ln : Nat} (hm : Ml w) (hs : s.size ≤ 140737488355328) (hp : parse s = (none, er, ln)) : Calls Tryd.prog 10 #[.string s] w fun e w' => e = .returned (.tuple #[.pointer none, .int .i64 (er : Nat), .int .i64 (ln : Nat)]) ∧ Kept [] w w' := by
  refine (parse_any w s hm hs).mono ?_
  rintro e w2 (⟨T, B, p, h1, rfl, h3, -, -, h4⟩ | ⟨er2, ln2, h1, h2, rfl, h4⟩)
  · rw [hp] at h1
    cases h1
  · rw [hp] at h1
    cases h1
    exact ⟨rfl, h4⟩
theorem parse_some {w : World} {s : ByteArray} {T : List Acc} (hm : Ml w) (hs : s.size ≤ 140737488355328) (hp : parse s = (some T, 0, 0)) : Calls Tryd.prog 10 #[.string s] w fun e w' => ∃ p, e = .returned (.tuple #[.pointer (some ⟨p, 0, none⟩), .int .i64 0, .int .i64 0]) ∧ Kept [] w w' := by
  refine (parse_any w s hm hs).mono ?_
  rintro e w2 (⟨T, B, p, h1, rfl, h3, -, -, h4⟩ | ⟨er2, ln2, h1, h2, rfl, h4⟩)
  · exact ⟨p, rfl, h4⟩
  · rw [hp] at h1
    cases h1
/-- The four texts, parsed. -/
theorem four_parse {w : World} (hm : Ml w) {X : List Ln} (h : FineX X) {z : ByteArray} (hz : z = ofL (textX X)) {q : Int} (hq : q = (X.length : Nat)) :
    (∀ w', Kept [] w w' → Calls Tryd.prog 10 #[.string z] w' fun e w'' => ∃ p, e = .returned (.tuple #[.pointer (some ⟨p, 0, none⟩), .int .i64 0, .int .i64 0]) ∧ Kept [] w' w'') ∧
    (∀ w', Kept [] w w' → Calls Tryd.prog 10 #[.string (z ++ ⟨#[97, 58, 98, 10]⟩ ++ ⟨#[99, 58, 100, 58, 101, 58, 102, 58, 103]⟩)] w' fun e w'' => e = .returned (.tuple #[.pointer none, .int .i64 60, .int .i64 (q + 1)]) ∧ Kept [] w' w'') ∧
    (∀ w', Kept [] w w' → Calls Tryd.prog 10 #[.string (z ++ ⟨#[110, 101, 119, 58, 58, 58, 10, 110, 101, 119, 58, 58, 58]⟩)] w' fun e w'' => e = .returned (.tuple #[.pointer none, .int .i64 61, .int .i64 (q + 2)]) ∧ Kept [] w' w'') ∧
    (∀ w', Kept [] w w' → Calls Tryd.prog 10 #[.string (z ++ ⟨#[110, 101, 119, 58, 110, 111, 98, 111, 100, 121, 58, 58, 10]⟩)] w' fun e w'' => e = .returned (.tuple #[.pointer none, .int .i64 62, .int .i64 (q + 1)]) ∧ Kept [] w' w'') := by
  have e1 : z ++ ⟨#[97, 58, 98, 10]⟩ ++ ⟨#[99, 58, 100, 58, 101, 58, 102, 58, 103]⟩ = ofL (textX X ++ (b1L ++ 10 :: b2L)) := by
    rw [hz]
    apply ByteArray.ext
    rw [ByteArray.data_append, ByteArray.data_append]
    simp [ofL, b1L, b2L]
  have e2 : z ++ ⟨#[110, 101, 119, 58, 58, 58, 10, 110, 101, 119, 58, 58, 58]⟩ = ofL (textX X ++ (nwL ++ 10 :: nwL)) := by
    rw [hz]
    apply ByteArray.ext
    rw [ByteArray.data_append]
    simp [ofL, nwL]
  have e3 : z ++ ⟨#[110, 101, 119, 58, 110, 111, 98, 111, 100, 121, 58, 58, 10]⟩ = ofL (textX X ++ (nbL ++ [10])) := by
    rw [hz]
    apply ByteArray.ext
    rw [ByteArray.data_append]
    simp [ofL, nbL]
  have hs := h.size
  rw [e1, e2, e3, hz]
  refine ⟨fun w' k => parse_some (hm.kept0 k) (by rw [ofL_size]; omega) (silent_ok h), fun w' k => ?_, fun w' k => ?_, fun w' k => ?_⟩
  · refine (parse_none (hm.kept0 k) (by rw [ofL_size]; simp [b1L, b2L]; omega) (silent_line h)).mono ?_
    rintro e w2 ⟨rfl, k2⟩
    exact ⟨by rw [hq]; rfl, k2⟩
  · refine (parse_none (hm.kept0 k) (by rw [ofL_size]; simp [nwL]; omega) (silent_twice h)).mono ?_
    rintro e w2 ⟨rfl, k2⟩
    exact ⟨by rw [hq]; rfl, k2⟩
  · refine (parse_none (hm.kept0 k) (by rw [ofL_size]; simp [nbL]; omega) (silent_none h)).mono ?_
    rintro e w2 ⟨rfl, k2⟩
    exact ⟨by rw [hq]; rfl, k2⟩
end Us
end Go.Proofs.YteeheapenfklcaaDoor
