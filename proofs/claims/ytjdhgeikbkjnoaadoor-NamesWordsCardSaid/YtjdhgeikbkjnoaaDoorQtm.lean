/- The line of quoted words: mathematics. No program's run. -/
import Derived.Test.YtjdhgeikbkjnoaaDoorQtw
namespace Go.Proofs.YtjdhgeikbkjnoaaDoor
set_option linter.unusedVariables false
namespace Nm

theorem byte_all {P : UInt8 → Prop} (h : ∀ n : Nat, n < 256 → P (UInt8.ofNat n)) (c : UInt8) : P c := by
  have := h c.toNat c.toNat_lt
  rwa [UInt8.ofNat_toNat] at this
theorem plb_facts (c : UInt8) : plb c = true → blank c = false ∧ c ≠ 39 ∧ 32 ≤ c.toNat ∧ c.toNat ≤ 126 :=
  byte_all (P := fun c => plb c = true → blank c = false ∧ c ≠ 39 ∧ 32 ≤ c.toNat ∧ c.toNat ≤ 126) (by decide +kernel) c
theorem inq_facts (c : UInt8) : ∀ x ∈ inq c, 32 ≤ x.toNat ∧ x.toNat ≤ 126 :=
  byte_all (P := fun c => ∀ x ∈ inq c, 32 ≤ x.toNat ∧ x.toNat ≤ 126) (by decide +kernel) c
theorem hex_back (c : UInt8) : UInt8.ofNat (c.toNat / 16 * 16 + c.toNat % 16) = c :=
  byte_all (P := fun c => UInt8.ofNat (c.toNat / 16 * 16 + c.toNat % 16) = c) (by decide +kernel) c
theorem quol_facts (l : List UInt8) : ∀ x ∈ quol l, 32 ≤ x.toNat ∧ x.toNat ≤ 126 := by
  intro x hx
  unfold quol at hx
  split at hx
  · rename_i h
    unfold plain at h
    rw [Bool.and_eq_true, List.all_eq_true] at h
    exact (plb_facts x (h.2 x hx)).2.2
  · rcases List.mem_cons.1 hx with rfl | hx
    · decide
    · rcases List.mem_append.1 hx with hx | hx
      · obtain ⟨c, _, hc⟩ := List.mem_flatMap.1 hx
        exact inq_facts c x hc
      · obtain rfl := List.mem_singleton.1 hx
        decide
theorem inq_qtd (c : UInt8) {m b r : List UInt8} (h : Qtd m b r) : Qtd (inq c ++ m) (c :: b) r := by
  unfold inq
  split
  · have e := Ecd.hex (c.toNat / 16) (c.toNat % 16) m (by have := c.toNat_lt; omega) (by omega)
    rw [hex_back] at e
    exact Qtd.esc _ _ _ _ _ e h
  · split
    · rename_i h2
      rcases h2 with rfl | rfl
      · exact Qtd.esc _ _ _ _ _ (Ecd.quo m) h
      · exact Qtd.esc _ _ _ _ _ (Ecd.bsl m) h
    · rename_i h2
      exact Qtd.byte _ _ _ _ (fun e => h2 (Or.inl e)) (fun e => h2 (Or.inr e)) h
theorem inqs_qtd (l m : List UInt8) : Qtd (inqs l ++ 39 :: m) l m := by
  induction l with
  | nil => exact Qtd.stop m
  | cons c l ih =>
    have e : inqs (c :: l) ++ 39 :: m = inq c ++ (inqs l ++ 39 :: m) := by simp [inqs]
    rw [e]
    exact inq_qtd c ih
theorem plain_wrd (l m : List UInt8) (h : l.all plb = true) (hm : Wrd m [] m) : Wrd (l ++ m) l m := by
  induction l with
  | nil => exact hm
  | cons c l ih =>
    rw [List.all_cons, Bool.and_eq_true] at h
    have hf := plb_facts c h.1
    exact Wrd.byte _ _ _ _ hf.1 hf.2.1 (ih h.2)
theorem quol_wrd (l m : List UInt8) (hm : Wrd m [] m) : Wrd (quol l ++ m) l m := by
  unfold quol
  split
  · rename_i h
    unfold plain at h
    rw [Bool.and_eq_true] at h
    exact plain_wrd l m h.2 hm
  · have := Wrd.quo _ _ _ _ _ (inqs_qtd l m) hm
    rw [List.append_nil] at this
    simpa using this
theorem quol_first (l : List UInt8) : ∃ c t, quol l = c :: t ∧ blank c = false := by
  unfold quol
  split
  · rename_i h
    unfold plain at h
    rw [Bool.and_eq_true] at h
    cases l with
    | nil => simp at h
    | cons c t => exact ⟨c, t, rfl, (plb_facts c (by have := h.2; rw [List.all_cons, Bool.and_eq_true] at this; exact this.1)).1⟩
  · exact ⟨39, _, rfl, by decide⟩
theorem trim_gap (g m : List UInt8) (h : g.all blank = true) : trim (g ++ m) = trim m := by
  induction g with
  | nil => rfl
  | cons c g ih =>
    rw [List.all_cons, Bool.and_eq_true] at h
    show trim (c :: (g ++ m)) = _
    unfold trim at ih ⊢
    rw [List.dropWhile_cons, if_pos h.1]
    exact ih h.2
theorem gap_wrd (g m : List UInt8) (h : g.all blank = true) (hm : g = [] → Wrd m [] m) : Wrd (g ++ m) [] (g ++ m) := by
  cases g with
  | nil => exact hm rfl
  | cons c g =>
    rw [List.all_cons, Bool.and_eq_true] at h
    exact Wrd.stop c _ h.1
/-- A line: gaps and words. -/
def lineOf (ps : List (List UInt8 × List UInt8)) : List UInt8 := ps.flatMap fun p => p.1 ++ quol p.2
theorem wds_line (ps : List (List UInt8 × List UInt8)) (e : List UInt8) (hb : ∀ p ∈ ps, p.1.all blank = true) (hn : ∀ p ∈ ps.drop 1, p.1 ≠ []) (he : e.all blank = true) :
    Wds (lineOf ps ++ e) (ps.map Prod.snd) := by
  induction ps with
  | nil =>
    refine Wds.done _ ?_
    have := trim_gap e [] he
    rw [List.append_nil] at this
    exact this
  | cons p ps ih =>
    have e1 : lineOf (p :: ps) ++ e = p.1 ++ (quol p.2 ++ (lineOf ps ++ e)) := by simp [lineOf]
    obtain ⟨c, t, hq, hc⟩ := quol_first p.2
    have e2 : trim (lineOf (p :: ps) ++ e) = quol p.2 ++ (lineOf ps ++ e) := by
      rw [e1, trim_gap _ _ (hb p (by simp)), hq]
      show trim (c :: _) = _
      rw [trim_cons_false hc]; rfl
    refine Wds.word _ (lineOf ps ++ e) _ _ ?_ ?_ ?_
    · rw [e2, hq]; simp
    · rw [e2]
      refine quol_wrd _ _ ?_
      cases ps with
      | nil =>
        have h := gap_wrd e [] he (fun _ => Wrd.nil)
        rw [List.append_nil] at h
        exact h
      | cons p2 ps2 =>
        have e3 : lineOf (p2 :: ps2) ++ e = p2.1 ++ (quol p2.2 ++ (lineOf ps2 ++ e)) := by simp [lineOf]
        rw [e3]
        exact gap_wrd _ _ (hb p2 (by simp)) (fun h => absurd h (hn p2 (by simp)))
    · exact ih (fun q hq => hb q (by simp [hq])) (fun q hq => hn q (by have := List.mem_of_mem_drop hq; simpa using this))
theorem hexd_inj {a b : Nat} (ha : a < 16) (hb : b < 16) (h : hexd a = hexd b) : a = b := by
  have h1 := index_hexd a ha
  have h2 := index_hexd b hb
  rw [h] at h1
  omega
theorem inq_kind (c : UInt8) : ((c.toNat < 32 ∨ 126 < c.toNat) ∧ inq c = [92, 120, hexd (c.toNat / 16), hexd (c.toNat % 16)]) ∨ ((c = 39 ∨ c = 92) ∧ inq c = [92, c]) ∨ (c ≠ 39 ∧ c ≠ 92 ∧ inq c = [c]) := by
  unfold inq
  by_cases h1 : c.toNat < 32 ∨ 126 < c.toNat
  · exact Or.inl ⟨h1, if_pos h1⟩
  · rw [if_neg h1]
    by_cases h2 : c = 39 ∨ c = 92
    · exact Or.inr (Or.inl ⟨h2, if_pos h2⟩)
    · exact Or.inr (Or.inr ⟨fun e => h2 (Or.inl e), fun e => h2 (Or.inr e), if_neg h2⟩)
theorem inq_pre {c d : UInt8} {x y : List UInt8} (h : inq c ++ x = inq d ++ y) : c = d ∧ x = y := by
  have hc := c.toNat_lt
  have hd := d.toNat_lt
  rcases inq_kind c with ⟨c1, ec⟩ | ⟨c1, ec⟩ | ⟨c1, c2, ec⟩ <;> rcases inq_kind d with ⟨d1, ed⟩ | ⟨d1, ed⟩ | ⟨d1, d2, ed⟩ <;> rw [ec, ed] at h <;>
    simp only [List.cons_append, List.nil_append, List.cons.injEq, true_and] at h
  · have h1 := hexd_inj (by omega) (by omega) h.1
    have h2 := hexd_inj (by omega) (by omega) h.2.1
    exact ⟨UInt8.toNat_inj.1 (by omega), h.2.2⟩
  · rcases d1 with rfl | rfl <;> exact absurd h.1 (by decide)
  · exact absurd h.1.symm d2
  · rcases c1 with rfl | rfl <;> exact absurd h.1 (by decide)
  · exact h
  · exact absurd h.1.symm d2
  · exact absurd h.1 c2
  · exact absurd h.1 c2
  · exact h
theorem inq_ne (c : UInt8) (l : List UInt8) : inq c ++ l ≠ [] := by
  have := (inq_len c).2
  intro h
  rw [(List.append_eq_nil_iff.1 h).1] at this
  simp at this
theorem inqs_inj : ∀ {a b : List UInt8}, inqs a = inqs b → a = b
  | [], [], _ => rfl
  | [], d :: b, h => absurd (show inq d ++ inqs b = [] from h.symm) (inq_ne d _)
  | c :: a, [], h => absurd (show inq c ++ inqs a = [] from h) (inq_ne c _)
  | c :: a, d :: b, h => by
    have e : inq c ++ inqs a = inq d ++ inqs b := h
    obtain ⟨rfl, h2⟩ := inq_pre e
    rw [inqs_inj h2]
theorem quol_inj {a b : List UInt8} (h : quol a = quol b) : a = b := by
  have key : ∀ {x y : List UInt8}, plain x = true → x = 39 :: y → False := fun {x y} hp e => by
    subst e
    unfold plain at hp
    rw [Bool.and_eq_true, List.all_cons, Bool.and_eq_true] at hp
    exact (plb_facts 39 hp.2.1).2.1 rfl
  unfold quol at h
  split at h <;> split at h
  · exact h
  · rename_i h1 _; exact (key h1 h).elim
  · rename_i _ h1; exact (key h1 h.symm).elim
  · have h2 := List.append_cancel_right (List.cons.inj h).2
    exact inqs_inj h2
end Nm
end Go.Proofs.YtjdhgeikbkjnoaaDoor
