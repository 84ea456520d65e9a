/- vergerlaw06: the accounts that the law makes of raw numbers: plain facts. -/
import Derived.Test.YteeheapenfklcaaDoorUmd
namespace Go.Proofs.YteeheapenfklcaaDoor
set_option linter.unusedVariables false
namespace Us
open Go.Proofs.YteeheapenfklcaaDoor.Utf Go.Proofs.YteeheapenfklcaaDoor.Txt
/-- An account by raw numbers. -/
structure WhoD where
  lead : Int
  mem : List Int
  key : ByteArray
/-- What is picked, each once, in the order of its first coming; 'seen' came before. -/
def firsts (seen : List Nat) : List Nat → List Nat
  | [] => []
  | x :: l => if x ∈ seen then firsts seen l else x :: firsts (x :: seen) l
/-- A key's byte. -/
def keyC (b : UInt8) : UInt8 := 33 + b % 94
def keyL (s : ByteArray) : List UInt8 := (((dl s).take 32).map keyC).filter (fun c => c != 58)
def madeA (n : Nat) (i : Nat) (x : WhoD) : Acc :=
  ⟨nameL i, if pickN x.lead (2 * n) < n then nameL (pickN x.lead (2 * n)) else ⟨#[]⟩, (firsts [] (x.mem.map (fun c => pickN c n))).map nameL, ofL (keyL x.key)⟩
def madeT (ws : List WhoD) : List Acc := ((ws.take 30).zipIdx).map (fun x => madeA (min ws.length 30) x.2 x.1)
theorem name_good : ∀ i, i < 30 → isName (nameL i) = true := by decide
theorem name_inj : ∀ i, i < 30 → ∀ j, j < 30 → nameL i = nameL j → i = j := by decide
theorem name_size (i : Nat) : (nameL i).size = 3 := rfl
theorem firsts_mem : ∀ (l seen : List Nat) (x : Nat), x ∈ firsts seen l ↔ x ∈ l ∧ x ∉ seen
  | [], seen, x => by simp [firsts]
  | y :: l, seen, x => by
    unfold firsts
    split
    · rename_i h
      rw [firsts_mem l seen x]
      constructor
      · rintro ⟨h1, h2⟩; exact ⟨by simp [h1], h2⟩
      · rintro ⟨h1, h2⟩
        rcases List.mem_cons.1 h1 with rfl | h1
        · exact absurd h h2
        · exact ⟨h1, h2⟩
    · rename_i h
      rw [List.mem_cons, firsts_mem l (y :: seen) x]
      constructor
      · rintro (rfl | ⟨h1, h2⟩)
        · exact ⟨by simp, h⟩
        · exact ⟨by simp [h1], fun e => h2 (by simp [e])⟩
      · rintro ⟨h1, h2⟩
        by_cases e : x = y
        · exact Or.inl e
        · rcases List.mem_cons.1 h1 with h1 | h1
          · exact absurd h1 e
          · exact Or.inr ⟨h1, fun h3 => by
              rcases List.mem_cons.1 h3 with h3 | h3
              · exact e h3
              · exact h2 h3⟩
theorem firsts_nodup : ∀ (l seen : List Nat), (firsts seen l).Nodup
  | [], seen => by simp [firsts]
  | y :: l, seen => by
    unfold firsts
    split
    · exact firsts_nodup l seen
    · rw [List.nodup_cons]
      refine ⟨fun h => ?_, firsts_nodup l (y :: seen)⟩
      exact ((firsts_mem l (y :: seen) y).1 h).2 (by simp)
theorem nodup_len : ∀ {n : Nat} {l : List Nat}, l.Nodup → (∀ x ∈ l, x < n) → l.length ≤ n
  | 0, [], _, _ => Nat.le_refl _
  | 0, x :: l, _, hl => by have := hl x (by simp); omega
  | n + 1, l, h, hl => by
    by_cases hn : n ∈ l
    · have h1 := nodup_len (n := n) (l := l.erase n) (h.erase n) (fun x hx => by
        have h2 := (h.mem_erase_iff).1 hx
        have := hl x h2.2
        have := h2.1
        omega)
      rw [List.length_erase_of_mem hn] at h1
      omega
    · have h1 := nodup_len (n := n) (l := l) h (fun x hx => by
        have := hl x hx
        have : x ≠ n := fun e => hn (by rw [← e]; exact hx)
        omega)
      omega
theorem pick_lt (c : Int) {n : Nat} (h : 0 < n) : pickN c n < n := Nat.mod_lt _ h
theorem keyC_ok (b : UInt8) (h : keyC b ≠ 58) : keyByte (keyC b) = true := by
  have h1 : ∀ n, n < 256 → keyC (UInt8.ofNat n) ≠ 58 → keyByte (keyC (UInt8.ofNat n)) = true := by decide +kernel
  have h2 := h1 b.toNat (UInt8.toNat_lt b)
  rw [UInt8.ofNat_toNat] at h2
  exact h2 h
theorem keyL_ok (s : ByteArray) : (keyL s).length ≤ 32 ∧ ∀ b ∈ keyL s, keyByte b = true := by
  refine ⟨?_, fun b hb => ?_⟩
  · unfold keyL
    refine Nat.le_trans (List.length_filter_le _ _) ?_
    rw [List.length_map, List.length_take]
    exact Nat.min_le_left _ _
  · unfold keyL at hb
    obtain ⟨h1, h2⟩ := List.mem_filter.1 hb
    obtain ⟨x, -, rfl⟩ := List.mem_map.1 h1
    exact keyC_ok x (by simpa using h2)
theorem madeT_length (ws : List WhoD) : (madeT ws).length = min ws.length 30 := by
  unfold madeT
  rw [List.length_map, List.length_zipIdx, List.length_take, Nat.min_comm]
theorem madeT_get (ws : List WhoD) {k : Nat} (h : k < (madeT ws).length) : (madeT ws)[k] = madeA (min ws.length 30) k (ws[k]'(by rw [madeT_length] at h; omega)) := by
  revert h
  unfold madeT
  intro h
  simp
theorem made_name (ws : List WhoD) {k : Nat} (h : k < (madeT ws).length) : (madeT ws)[k].name = nameL k := by rw [madeT_get ws h]; rfl
theorem made_known (ws : List WhoD) {k : Nat} (h : k < min ws.length 30) : known (madeT ws) (nameL k) = true := by
  have hk : k < (madeT ws).length := by rw [madeT_length]; exact h
  unfold known
  rw [List.any_eq_true]
  exact ⟨(madeT ws)[k], List.getElem_mem hk, by rw [made_name ws hk]; simp⟩
theorem picks_lt {x : WhoD} {n : Nat} (h : 0 < n) : ∀ y ∈ firsts [] (x.mem.map (fun c => pickN c n)), y < n := fun y hy => by
  obtain ⟨h1, -⟩ := (firsts_mem _ _ _).1 hy
  obtain ⟨c, -, rfl⟩ := List.mem_map.1 h1
  exact pick_lt c h
theorem made_form {n i : Nat} (x : WhoD) (hi : i < n) (hn : n ≤ 30) : form (madeA n i x) = true := by
  unfold form leadOk isKey
  simp only [Bool.and_eq_true, Bool.or_eq_true, decide_eq_true_eq, List.all_eq_true]
  refine ⟨⟨⟨name_good i (by omega), ?_⟩, fun m hm => ?_⟩, ?_, ?_⟩
  · show (if _ then nameL _ else (⟨#[]⟩ : ByteArray)).size = 0 ∨ isName (if _ then nameL _ else (⟨#[]⟩ : ByteArray)) = true
    split
    · rename_i h; exact Or.inr (name_good _ (by omega))
    · exact Or.inl rfl
  · obtain ⟨y, hy, rfl⟩ := List.mem_map.1 hm
    exact name_good y (by have := picks_lt (x := x) (n := n) (by omega) y hy; omega)
  · exact (keyL_ok x.key).2
  · show (ofL (keyL x.key)).size ≤ 32
    rw [ofL_size]
    exact (keyL_ok x.key).1
theorem nodup_names {l : List Nat} (h : l.Nodup) (hl : ∀ x ∈ l, x < 30) : (l.map nameL).Nodup := by
  rw [List.Nodup, List.pairwise_map]
  refine List.Pairwise.imp_of_mem (fun {a b} ha hb hne => ?_) h
  exact fun e => hne (name_inj a (hl a ha) b (hl b hb) e)
theorem line_short {n i : Nat} (x : WhoD) (hi : i < n) (hn : n ≤ 30) : (lineL (madeA n i x)).length ≤ 200 := by
  have hL : (dl (madeA n i x).leader).length ≤ 3 := by
    rw [dl_length]
    show (if _ then nameL _ else (⟨#[]⟩ : ByteArray)).size ≤ 3
    split
    · exact Nat.le_refl _
    · show 0 ≤ 3; omega
  have hN : (dl (madeA n i x).name).length = 3 := by rw [dl_length]; rfl
  have hK : (dl (madeA n i x).key).length ≤ 32 := (keyL_ok x.key).1
  have hM : (Lib.join ((madeA n i x).members.map dl) [44]).length ≤ 120 := by
    have hm : (madeA n i x).members.length ≤ 30 := by
      show ((firsts [] _).map nameL).length ≤ 30
      rw [List.length_map]
      have := nodup_len (firsts_nodup (x.mem.map (fun c => pickN c n)) []) (picks_lt (x := x) (n := n) (by omega))
      omega
    have h3 : ∀ m ∈ (madeA n i x).members, (dl m).length = 3 := fun m hm => by
      obtain ⟨y, -, rfl⟩ := List.mem_map.1 hm
      rw [dl_length]; rfl
    revert hm h3
    generalize (madeA n i x).members = ms
    intro hm h3
    cases ms with
    | nil => simp [Lib.join_nil]
    | cons m r =>
      rw [List.map_cons, Lib.join_length]
      have e : ∀ l : List ByteArray, (∀ m ∈ l, (dl m).length = 3) → Lib.lens (l.map dl) = 3 * l.length := fun l => by
        induction l with
        | nil => intro _; rfl
        | cons a t ih =>
          intro h
          have h1 := ih (fun m hm => h m (by simp [hm]))
          have h2 := h a (by simp)
          simp only [Lib.lens, List.map_cons, List.sum_cons, List.length_cons] at h1 ⊢
          omega
      rw [← List.map_cons, e (m :: r) h3]
      simp at hm ⊢
      omega
  unfold lineL
  rw [Lib.join_length]
  simp [Lib.lens]
  omega
theorem text_short : ∀ (T : List Acc) (m : Nat), (∀ a ∈ T, (lineL a).length ≤ m) → (textL T).length ≤ T.length * (m + 1)
  | [], m, _ => by simp [textL]
  | a :: T, m, h => by
    have ih := text_short T m (fun b hb => h b (by simp [hb]))
    have h1 := h a (by simp)
    have e : textL (a :: T) = lineL a ++ [10] ++ textL T := by simp [textL]
    rw [e]
    simp only [List.length_append, List.length_cons, List.length_nil]
    rw [Nat.add_mul]
    omega
/-- What is made may be printed. -/
theorem made_good (ws : List WhoD) : Good (madeT ws) := by
  have hn : min ws.length 30 ≤ 30 := Nat.min_le_right _ _
  have hall : ∀ a ∈ madeT ws, ∃ k x, k < min ws.length 30 ∧ a = madeA (min ws.length 30) k x := fun a ha => by
    obtain ⟨k, hk, rfl⟩ := List.getElem_of_mem ha
    exact ⟨k, _, by rw [madeT_length] at hk; exact hk, madeT_get ws hk⟩
  refine ⟨fun a ha => ?_, fun k hk => ?_, fun a ha => ?_, ?_, ?_, fun a ha => ?_⟩
  · obtain ⟨k, x, hk, rfl⟩ := hall a ha
    exact made_form x hk hn
  · have hk2 : k < min ws.length 30 := by rw [madeT_length] at hk; exact hk
    unfold addOk
    rw [Bool.and_eq_true]
    constructor
    · rw [Bool.not_eq_true', made_name ws hk]
      unfold known
      rw [List.any_eq_false]
      intro a ha
      obtain ⟨j, hj, rfl⟩ := List.getElem_of_mem ha
      rw [List.length_take] at hj
      rw [List.getElem_take, made_name ws (by omega)]
      simp only [decide_eq_true_eq]
      intro e
      have := name_inj j (by omega) k (by omega) e
      omega
    · rw [madeT_get ws hk]
      unfold once
      exact decide_eq_true (nodup_names (firsts_nodup _ _) (fun y hy => by have := picks_lt (x := ws[k]'(by omega)) (n := min ws.length 30) (by omega) y hy; omega))
  · obtain ⟨k, x, hk, rfl⟩ := hall a ha
    unfold knows
    simp only [Bool.and_eq_true, Bool.or_eq_true, decide_eq_true_eq, List.all_eq_true]
    constructor
    · show (if _ then nameL _ else (⟨#[]⟩ : ByteArray)).size = 0 ∨ known (madeT ws) (if _ then nameL _ else (⟨#[]⟩ : ByteArray)) = true
      split
      · rename_i h; exact Or.inr (made_known ws h)
      · exact Or.inl rfl
    · intro m hm
      obtain ⟨y, hy, rfl⟩ := List.mem_map.1 hm
      exact made_known ws (picks_lt (x := x) (n := min ws.length 30) (by omega) y hy)
  · have h1 := text_short (madeT ws) 200 (fun a ha => by
      obtain ⟨k, x, hk, rfl⟩ := hall a ha
      exact line_short x hk hn)
    rw [madeT_length] at h1
    omega
  · rw [madeT_length]; omega
  · obtain ⟨k, x, hk, rfl⟩ := hall a ha
    show ((firsts [] _).map nameL).length ≤ _
    rw [List.length_map]
    have := nodup_len (firsts_nodup (x.mem.map (fun c => pickN c (min ws.length 30))) []) (picks_lt (x := x) (n := min ws.length 30) (by omega))
    omega
end Us
end Go.Proofs.YteeheapenfklcaaDoor
