/- The pieces of a text between slashes. No program's run. -/
import Derived.Test.YtjdhgeikbkjnoaaDoorUtf
import Derived.Lib.Join
import Derived.Lib.IndexLaws
import Derived.Lib.Strings
namespace Go.Proofs.YtjdhgeikbkjnoaaDoor.Nm
set_option linter.unusedVariables false

/-- What lies between the slashes. -/
def cut : List UInt8 → List (List UInt8)
  | [] => [[]]
  | c :: l => if c = 47 then [] :: cut l else match cut l with
    | [] => [[c]]
    | p :: ps => (c :: p) :: ps
theorem cut_ne (l : List UInt8) : cut l ≠ [] := by
  cases l with
  | nil => simp [cut]
  | cons c l =>
    unfold cut
    split
    · simp
    · split <;> simp
theorem cut_none : ∀ (l : List UInt8), Lib.indexByte l 47 = -1 → cut l = [l]
  | [], _ => rfl
  | c :: l, h => by
    have hc : c ≠ 47 := fun e => by
      have := Lib.indexByte_none h 0
      simp [e] at this
    have hl : Lib.indexByte l 47 = -1 := by
      unfold Lib.indexByte at h
      rw [if_neg (by simpa using hc)] at h
      split at h
      · rename_i h2; simpa using h2
      · have := Lib.indexByte_ge l 47
        omega
    unfold cut
    rw [if_neg hc, cut_none l hl]
theorem cut_some : ∀ (l : List UInt8) (i : Nat), Lib.indexByte l 47 = i → i < l.length ∧ cut l = l.take i :: cut (l.drop (i + 1))
  | [], i, h => by simp [Lib.indexByte] at h
  | c :: l, 0, h => by
    have hc : c = 47 := by
      have := (Lib.indexByte_some h).1
      simpa using this
    refine ⟨by simp, ?_⟩
    conv => lhs; unfold cut
    rw [if_pos hc]
    simp
  | c :: l, i + 1, h => by
    have hc : c ≠ 47 := fun e => by
      have := (Lib.indexByte_some h).2 0 (by omega)
      simp [e] at this
    have hl : Lib.indexByte l 47 = i := by
      unfold Lib.indexByte at h
      rw [if_neg (by simpa using hc)] at h
      split at h
      · omega
      · omega
    obtain ⟨h1, h2⟩ := cut_some l i hl
    refine ⟨by simp; omega, ?_⟩
    conv => lhs; unfold cut
    rw [if_neg hc, h2]
    simp
theorem cut_length : ∀ (l : List UInt8), (cut l).length ≤ l.length + 1
  | [] => by simp [cut]
  | c :: l => by
    have := cut_length l
    unfold cut
    split
    · simp; omega
    · split
      · simp
      · rename_i p ps h
        rw [h] at this
        simp at this ⊢
        omega
theorem cut_len_le : ∀ (l : List UInt8), ∀ p ∈ cut l, p.length ≤ l.length
  | [], p, hp => by simp [cut] at hp; simp [hp]
  | c :: l, p, hp => by
    have ih := cut_len_le l
    unfold cut at hp
    split at hp
    · rcases List.mem_cons.1 hp with rfl | hp
      · simp
      · have := ih p hp; simp; omega
    · split at hp
      · simp at hp; subst hp; simp
      · rename_i q qs h
        rw [h] at ih
        rcases List.mem_cons.1 hp with rfl | hp
        · have := ih q (by simp); simp; omega
        · have := ih p (by simp [hp]); simp; omega
theorem cut_no47 : ∀ (l : List UInt8), ∀ p ∈ cut l, (47 : UInt8) ∉ p
  | [], p, hp => by simp [cut] at hp; simp [hp]
  | c :: l, p, hp => by
    have ih := cut_no47 l
    unfold cut at hp
    split at hp
    · rcases List.mem_cons.1 hp with rfl | hp
      · simp
      · exact ih p hp
    · rename_i hc
      split at hp
      · simp at hp; subst hp; simp; exact fun e => hc e.symm
      · rename_i q qs h
        rw [h] at ih
        rcases List.mem_cons.1 hp with rfl | hp
        · have := ih q (by simp)
          simp only [List.mem_cons, not_or]
          exact ⟨fun e => hc e.symm, this⟩
        · exact ih p (by simp [hp])
end Go.Proofs.YtjdhgeikbkjnoaaDoor.Nm
