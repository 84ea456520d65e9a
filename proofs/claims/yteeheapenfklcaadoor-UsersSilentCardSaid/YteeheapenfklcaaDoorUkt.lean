/- users: a table's contracts, by what it says (no rules). -/
import Derived.Test.YteeheapenfklcaaDoorUtx
namespace Go.Proofs.YteeheapenfklcaaDoor
set_option linter.unusedVariables false
open Go.RowKit Go.Shelf
attribute [local go_sem] Oper.semAt_some
namespace Ukt
open Go.Proofs.YteeheapenfklcaaDoor.Utf Go.Proofs.YteeheapenfklcaaDoor.Txt Go.PlainAid Go.Proofs.YteeheapenfklcaaDoor.Mpf Go.Proofs.YteeheapenfklcaaDoor.Us
theorem member_t {w : World} {B p : Nat} {T : List Acc} (h : Tb w B p T) (u g : ByteArray) (hu : u.size ≤ maxLen) (hg : g.size ≤ maxLen) :
    Calls Tryd.prog 19 #[.pointer (some ⟨p, 0, none⟩), .string u, .string g] w fun e w' => e = .returned (.bool (member T u g)) ∧ Kept [] w w' := by
  obtain ⟨sl, m1, m2, n2, L, h, rfl⟩ := h
  exact member_x h u g hu hg
theorem leadsX_eq (L : List (Acc × Value)) (u g : ByteArray) : leadsX (bel (accs L)) L u g = leads (accs L) u g := by
  unfold leadsX leaderOf accAt leads
  cases hp : placeOf (accs L) 0 g with
  | none => rfl
  | some k =>
    obtain ⟨hk, -, -⟩ := placeOf_some g (accs L) 0 k hp
    rw [Nat.sub_zero] at hk
    have hkl : k < L.length := by rw [accs_length] at hk; exact hk
    simp only
    rw [List.getElem?_eq_getElem hk]
    have e : (accs L)[k] = L[k].1 := by simp only [accs, List.getElem_map]
    rw [e]
    simp only [List.getD, List.getElem?_eq_getElem hkl, Option.getD_some, Option.elim_some]
    by_cases h0 : L[k].1.leader.size = 0
    · simp [h0, memX, member]
    · simp [h0]
theorem leads_t {w : World} {B p : Nat} {T : List Acc} (h : Tb w B p T) (hT : T.length ≤ 1048576) (u g : ByteArray) (hu : u.size ≤ maxLen) (hg : g.size ≤ maxLen) :
    Calls Tryd.prog 20 #[.pointer (some ⟨p, 0, none⟩), .string u, .string g] w fun e w' => e = .returned (.bool (leads T u g)) ∧ Kept [] w w' := by
  obtain ⟨sl, m1, m2, n2, L, h, rfl⟩ := h
  have := leads_x h u g hu hg (by rw [accs_length] at hT; exact hT)
  rwa [leadsX_eq] at this
theorem known_t {w : World} {B p : Nat} {T : List Acc} (h : Tb w B p T) (u : ByteArray) (hu : u.size ≤ maxLen) :
    Calls Tryd.prog 22 #[.pointer (some ⟨p, 0, none⟩), .string u] w fun e w' => e = .returned (.bool (known T u)) ∧ Kept [] w w' := by
  obtain ⟨sl, m1, m2, n2, L, h, rfl⟩ := h
  exact (known_x h u hu).mono fun e w' ⟨h1, h2⟩ => ⟨h1, by rw [h2]; exact Kept.refl _ _⟩
end Ukt
end Go.Proofs.YteeheapenfklcaaDoor
