/- users: a table's text is read as that table: plain facts. -/
import Derived.Test.YteeheapenfklcaaDoorUpm
namespace Go.Proofs.YteeheapenfklcaaDoor
set_option linter.unusedVariables false
namespace Us
open Go.Proofs.YteeheapenfklcaaDoor.Utf Go.Proofs.YteeheapenfklcaaDoor.Txt
/-! ### Pieces, of plain lists -/
def cutL (c : UInt8) (l : List UInt8) : List (List UInt8) := Lib.splitK [c] 0 (Lib.count l [c]) l
def ofL (l : List UInt8) : ByteArray := ⟨l.toArray⟩
theorem dl_ofL (l : List UInt8) : dl (ofL l) = l := rfl
theorem ofL_dl (s : ByteArray) : ofL (dl s) = s := by
  obtain ⟨⟨l⟩⟩ := s
  rfl
theorem dl_inj {s t : ByteArray} (h : dl s = dl t) : s = t := by rw [← ofL_dl s, ← ofL_dl t, h]
theorem ofL_size (l : List UInt8) : (ofL l).size = l.length := by show l.toArray.size = _; simp
theorem dl_cut (c : UInt8) (s : ByteArray) : (cutB c s).map dl = cutL c (dl s) := Lib.splitB_data ⟨#[c]⟩ 0 _ s
theorem cut_ofL (c : UInt8) (l : List UInt8) : cutB c (ofL l) = (cutL c l).map ofL := by
  have h := dl_cut c (ofL l)
  rw [dl_ofL] at h
  rw [← h, List.map_map]
  have e : ∀ x : List ByteArray, x = x.map (ofL ∘ dl) := fun x => by
    induction x with
    | nil => rfl
    | cons a r ih =>
      rw [List.map_cons, ← ih]
      show _ = ofL (dl a) :: r
      rw [ofL_dl]
  exact e _
theorem index_here (c : UInt8) : ∀ (x y : List UInt8), c ∉ x → Lib.indexByte (x ++ c :: y) c = (x.length : Int)
  | [], y, _ => by simp [Lib.indexByte]
  | a :: x, y, h => by
    have h1 : a ≠ c := fun e => h (by simp [e])
    have h2 : c ∉ x := fun e => h (by simp [e])
    have ih := index_here c x y h2
    show Lib.indexByte (a :: (x ++ c :: y)) c = _
    unfold Lib.indexByte
    rw [ih]
    have b1 : (a == c) = false := by simp [h1]
    have b2 : ((x.length : Int) == -1) = false := by simp
    simp [b1, b2]
theorem cutL_cons {c : UInt8} {x : List UInt8} (y : List UInt8) (h : c ∉ x) : cutL c (x ++ c :: y) = x :: cutL c y := by
  unfold cutL
  have hc : Lib.count (x ++ c :: y) [c] = Lib.count y [c] + 1 := by
    rw [Lib.count_one, Lib.count_one, List.count_append, List.count_eq_zero_of_not_mem h, List.count_cons_self]
    omega
  have hi : Lib.index (x ++ c :: y) [c] = (x.length : Int) := by rw [Lib.index_one]; exact index_here c x y h
  rw [hc]
  show (if Lib.index (x ++ c :: y) [c] == -1 then [x ++ c :: y] else _) = _
  have b : (Lib.index (x ++ c :: y) [c] == -1) = false := by rw [hi]; simp
  rw [b]
  simp only [Bool.false_eq_true, if_false]
  rw [hi]
  congr 1
  · simp
  · congr 1
    simp
theorem cutL_last {c : UInt8} {x : List UInt8} (h : c ∉ x) : cutL c x = [x] := by
  unfold cutL
  have hc : Lib.count x [c] = 0 := by rw [Lib.count_one, List.count_eq_zero_of_not_mem h]
  rw [hc]
  rfl
theorem cutL_join {c : UInt8} : ∀ (x : List UInt8) (r : List (List UInt8)), (∀ y ∈ x :: r, c ∉ y) → cutL c (Lib.join (x :: r) [c]) = x :: r
  | x, [], h => by rw [Lib.join_one]; exact cutL_last (h x (by simp))
  | x, y :: r, h => by
    have ih := cutL_join y r (fun z hz => h z (by simp at hz ⊢; exact Or.inr hz))
    have e : Lib.join (x :: y :: r) [c] = x ++ c :: Lib.join (y :: r) [c] := by
      rw [Lib.join_cons, Lib.join_cons]
      simp [Lib.joinTail]
    rw [e, cutL_cons _ (h x (by simp)), ih]
theorem cutL_text : ∀ (T : List Acc), (∀ a ∈ T, (10 : UInt8) ∉ lineL a) → cutL 10 (textL T) = T.map lineL ++ [[]]
  | [], _ => cutL_last (by simp [textL])
  | a :: T, h => by
    have ih := cutL_text T (fun b hb => h b (by simp [hb]))
    have e : textL (a :: T) = lineL a ++ 10 :: textL T := by simp [textL]
    rw [e, cutL_cons _ (h a (by simp)), ih]
    rfl
/-! ### Forms -/
theorem name_bytes {s : ByteArray} (h : isName s = true) : 1 ≤ s.size ∧ ∀ b ∈ dl s, nameByte b = true := by
  unfold isName at h
  simp only [Bool.and_eq_true, decide_eq_true_eq, List.all_eq_true] at h
  exact ⟨h.1.1.1, h.2⟩
theorem nb_not {b : UInt8} (h : nameByte b = true) : b ≠ 58 ∧ b ≠ 44 ∧ b ≠ 35 ∧ b ≠ 10 := by
  refine ⟨?_, ?_, ?_, ?_⟩ <;> (intro e; subst e; revert h; decide)
theorem kb_not {b : UInt8} (h : keyByte b = true) : b ≠ 58 ∧ b ≠ 10 := by
  refine ⟨?_, ?_⟩ <;> (intro e; subst e; revert h; decide)
theorem mem_join {b : UInt8} {sep : List UInt8} : ∀ {xs : List (List UInt8)}, b ∈ Lib.join xs sep → b ∈ sep ∨ ∃ x ∈ xs, b ∈ x := by
  intro xs
  cases xs with
  | nil => intro h; simp [Lib.join_nil] at h
  | cons x r =>
    intro h
    rw [Lib.join_cons] at h
    rcases List.mem_append.1 h with h | h
    · exact Or.inr ⟨x, by simp, h⟩
    · unfold Lib.joinTail at h
      simp only [List.mem_flatten, List.mem_map] at h
      obtain ⟨l, ⟨y, hy, rfl⟩, hb⟩ := h
      rcases List.mem_append.1 hb with hb | hb
      · exact Or.inl hb
      · exact Or.inr ⟨y, by simp [hy], hb⟩
structure Formed (a : Acc) : Prop where
  name : isName a.name = true
  lead : a.leader.size = 0 ∨ isName a.leader = true
  mem : ∀ m ∈ a.members, isName m = true
  key : ∀ b ∈ dl a.key, keyByte b = true
theorem formed {a : Acc} (h : form a = true) : Formed a := by
  unfold form leadOk isKey at h
  simp only [Bool.and_eq_true, Bool.or_eq_true, decide_eq_true_eq, List.all_eq_true] at h
  exact ⟨h.1.1.1, h.1.1.2, h.1.2, h.2.1⟩
theorem Formed.parts {a : Acc} (f : Formed a) : ∀ x ∈ [dl a.name, dl a.leader, Lib.join (a.members.map dl) [44], dl a.key], ∀ b ∈ x, b ≠ 58 ∧ b ≠ 10 := by
  intro x hx b hb
  simp only [List.mem_cons, List.not_mem_nil, or_false] at hx
  rcases hx with rfl | rfl | rfl | rfl
  · have := nb_not ((name_bytes f.name).2 b hb); exact ⟨this.1, this.2.2.2⟩
  · rcases f.lead with h | h
    · have : dl a.leader = [] := List.eq_nil_of_length_eq_zero (by rw [dl_length]; exact h)
      rw [this] at hb
      cases hb
    · have := nb_not ((name_bytes h).2 b hb); exact ⟨this.1, this.2.2.2⟩
  · rcases mem_join hb with h | ⟨y, hy, h⟩
    · simp at h; subst h; decide
    · obtain ⟨m, hm, rfl⟩ := List.mem_map.1 hy
      have := nb_not ((name_bytes (f.mem m hm)).2 b h); exact ⟨this.1, this.2.2.2⟩
  · exact kb_not (f.key b hb)
theorem Formed.members {a : Acc} (f : Formed a) : membersOf (ofL (Lib.join (a.members.map dl) [44])) = a.members := by
  unfold membersOf
  cases hm : a.members with
  | nil => rfl
  | cons m r =>
    have hf := fun x hx => f.mem x (by rw [hm]; exact hx)
    have hne : ¬ (ofL (Lib.join ((m :: r).map dl) [44])).size = 0 := by
      rw [ofL_size, List.map_cons, Lib.join_cons, List.length_append, dl_length]
      have := (name_bytes (hf m (by simp))).1
      omega
    rw [if_neg hne, cut_ofL, List.map_cons, cutL_join]
    · rw [← List.map_cons, List.map_map]
      have e : ∀ x : List ByteArray, x.map (ofL ∘ dl) = x := fun x => by
        induction x with
        | nil => rfl
        | cons a r ih =>
          rw [List.map_cons, ih]
          show ofL (dl a) :: r = _
          rw [ofL_dl]
      exact e _
    · intro y hy
      rw [← List.map_cons] at hy
      obtain ⟨z, hz, rfl⟩ := List.mem_map.1 hy
      intro hb
      exact (nb_not ((name_bytes (hf z hz)).2 _ hb)).2.1 rfl
theorem acc_line {a : Acc} (h : form a = true) : accOf (ofL (lineL a)) = some a := by
  have f := formed h
  unfold accOf lineL
  rw [cut_ofL, cutL_join _ _ (fun x hx hb => (f.parts x hx 58 hb).1 rfl)]
  simp only [List.map_cons, List.map_nil, ofL_dl]
  rw [f.members]
  unfold accIf
  rw [if_pos (show form ⟨a.name, a.leader, a.members, a.key⟩ = true from h)]
theorem line_ten {a : Acc} (h : form a = true) : (10 : UInt8) ∉ lineL a := by
  intro hb
  unfold lineL at hb
  rcases mem_join hb with h1 | ⟨x, hx, h1⟩
  · simp at h1
  · exact ((formed h).parts x hx 10 h1).2 rfl
theorem says_line {a : Acc} (h : form a = true) : says (ofL (lineL a)) = true := by
  have f := name_bytes (formed h).name
  have hn : ∃ b r, dl a.name = b :: r := by
    cases e : dl a.name with
    | nil => have := dl_length a.name; rw [e] at this; simp at this; omega
    | cons b r => exact ⟨b, r, rfl⟩
  obtain ⟨b, r, e⟩ := hn
  have hb := nb_not (f.2 b (by rw [e]; simp))
  have hl : ∃ t, lineL a = b :: t := by
    unfold lineL
    rw [Lib.join_cons, e]
    exact ⟨_, rfl⟩
  obtain ⟨t, ht⟩ := hl
  unfold says
  rw [dl_ofL, ht]
  have h35 : ((35 : UInt8) == b) = false := by simp; exact fun h => hb.2.2.1 h.symm
  simp [Lib.hasPrefix, List.isPrefixOf, h35]
/-! ### Both passes -/
theorem pass1_text : ∀ (T T0 : List Acc) (i : Nat), (∀ a ∈ T, form a = true) → (∀ k (h : k < T.length), addOk (T0 ++ T.take k) T[k] = true) → pass1 ((T.map lineL ++ [[]]).map ofL) i T0 = .inr (T0 ++ T)
  | [], T0, i, _, _ => by
    simp only [List.map_nil, List.nil_append, List.map_cons, pass1]
    have : says (ofL []) = false := by decide
    rw [this]
    simp
  | a :: T, T0, i, hf, hA => by
    have h0 := hA 0 (by simp)
    simp only [List.take_zero, List.append_nil, List.getElem_cons_zero] at h0
    have ih := pass1_text T (T0 ++ [a]) (i + 1) (fun b hb => hf b (by simp [hb])) (fun k hk => by
      have := hA (k + 1) (by simp; omega)
      simpa using this)
    show pass1 (ofL (lineL a) :: ((T.map lineL ++ [[]]).map ofL)) i T0 = _
    simp only [pass1, says_line (hf a (by simp)), if_true, acc_line (hf a (by simp)), h0]
    rw [ih]
    simp
theorem pass2_text (T1 : List Acc) : ∀ (T : List Acc) (i : Nat), (∀ a ∈ T, form a = true) → (∀ a ∈ T, knows T1 a = true) → pass2 T1 ((T.map lineL ++ [[]]).map ofL) i = .inr ()
  | [], i, _, _ => by
    simp only [List.map_nil, List.nil_append, List.map_cons, pass2]
    have : says (ofL []) = false := by decide
    rw [this]
    simp
  | a :: T, i, hf, hK => by
    have ih := pass2_text T1 T (i + 1) (fun b hb => hf b (by simp [hb])) (fun b hb => hK b (by simp [hb]))
    show pass2 T1 (ofL (lineL a) :: ((T.map lineL ++ [[]]).map ofL)) i = _
    simp only [pass2, says_line (hf a (by simp)), if_true, acc_line (hf a (by simp)), hK a (by simp)]
    exact ih
/-- What is printed is read as these accounts. -/
theorem parse_text {T : List Acc} (hF : ∀ a ∈ T, form a = true) (hA : ∀ k (h : k < T.length), addOk (T.take k) T[k] = true) (hK : ∀ a ∈ T, knows T a = true) (hl : (textL T).length ≤ 65536) : parse (ofL (textL T)) = (some T, 0, 0) := by
  have hc : cutB 10 (ofL (textL T)) = (T.map lineL ++ [[]]).map ofL := by
    rw [cut_ofL, cutL_text T (fun a ha => line_ten (hF a ha))]
  have h1 : pass1 (cutB 10 (ofL (textL T))) 0 [] = .inr T := by
    rw [hc, pass1_text T [] 0 hF (fun k hk => by simpa using hA k hk)]
    simp
  have h2 : pass2 T (cutB 10 (ofL (textL T))) 0 = .inr () := by rw [hc]; exact pass2_text T T 0 hF hK
  exact parse_ok (by rw [ofL_size]; omega) h1 h2 (by omega)
end Us
end Go.Proofs.YteeheapenfklcaaDoor
