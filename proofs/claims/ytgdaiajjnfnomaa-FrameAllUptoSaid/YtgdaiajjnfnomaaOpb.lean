/- A list of bytes that comes in, opened. -/
import Derived.Test.YtgdaiajjnfnomaaRows
import Derived.Test.YtgdaiajjnfnomaaByt
import Derived.Deep.Slices
import Derived.Deep.Fields
import Derived.ChangeSame
import Derived.OpenShut
namespace Go.Proofs.Ytgdaiajjnfnomaa
/-- A list of bytes that came in. -/
def Byt (w : World) (v : Value) (l : List UInt8) (T : List Nat) : Prop := ∃ a c, v = .slice a l.length c ∧ l.length ≤ c ∧ c ≤ 9223372036854775807 ∧ l.length ≤ 1048576 ∧ Src w v l T
theorem Byt.kept {w w' : World} {v : Value} {l : List UInt8} {T S : List Nat} (h : Byt w v l T) (hk : Kept S w w') (hd : ∀ k ∈ T, k ∉ S) : Byt w' v l T := by
  obtain ⟨a, c, h1, h2, h3, h4, h5⟩ := h
  exact ⟨a, c, h1, h2, h3, h4, h5.kept hk hd⟩

end Go.Proofs.Ytgdaiajjnfnomaa
namespace Go.Proofs.Ytgdaiajjnfnomaa.Opn
open Go.ChangeShapes Go.WideShapes Go.Deep Go.RowKit
set_option linter.unusedVariables false
section
variable {H : Type} {enc : TypeId × Value → H} {P : Program} {w : World} {base : Nat} {spare : Nat → Bool} {held : Bool}
theorem one_le {H : Type} (d : DataW H) : 1 ≤ Rows.uptoBulk d := by
  cases d with
  | lit l => cases l <;> simp [Rows.uptoBulk]
  | nil => simp [Rows.uptoBulk]
  | ptr d => simp [Rows.uptoBulk]
  | slice elems spare => simp [Rows.uptoBulk]
  | agg parts => simp [Rows.uptoBulk]
  | iface t d => simp [Rows.uptoBulk]
  | map entries => simp [Rows.uptoBulk]
  | held h => simp [Rows.uptoBulk]
theorem length_le {H : Type} (l : List (DataW H)) : l.length ≤ Rows.uptoBulkAll l := by
  induction l with
  | nil => simp [Rows.uptoBulkAll]
  | cons x r ih => have := one_le x; simp only [Rows.uptoBulkAll, List.length_cons]; omega
theorem plain_at {w : World} {a : Addr} {v : Value} (h : w.cell? (a.add 0) = some v) : ∃ b o, a = ⟨b, o, none⟩ := by
  obtain ⟨b, o, p⟩ := a
  have hs : p = none := by simpa [Addr.add] using World.cell?_spot h
  subst hs
  exact ⟨b, o, rfl⟩
theorem bytes_of {n : Nat} {v : Value} {y : DataW H × List MemPlace} (h : DataW.trod enc Try.prog w 0 (fun _ => true) true n 22 [v] = some y) (hk : Rows.uptoBulk y.1 ≤ 1048576) : ∃ bs, Byt w v bs (List.range w.heap.size) := by
  rcases open_ints Try.underlying22 Try.underlying5 (by kernel_rfl) h with ⟨hc4, _⟩ | ⟨ad, l4, cp, zs, hc4, _, hl4, hm4, hz4, hx4, hcell4, hwf4⟩
  · simp only [List.cons.injEq, and_true] at hc4
    subst hc4
    exact ⟨[], none, 0, rfl, by simp, by decide, by simp, none, 0, rfl, fun _ => ⟨rfl, rfl⟩, fun ad e => by cases e⟩
  · simp only [List.cons.injEq, and_true] at hc4
    subst hc4
    have hz : zs.length = cp := by simpa using hz4
    have hbl : ((zs.take l4).map fun z => UInt8.ofNat z.toNat).length = l4 := by simp; omega
    have hcl : ∀ (j : Nat) (u : Value), (((zs.take l4).map fun z => UInt8.ofNat z.toNat).map bv)[j]? = some u → w.cell? (ad.add j) = some u := fun j u hu => by
      have hj : j < l4 := by
        have := (List.getElem?_eq_some_iff.1 hu).1
        simp at this
        omega
      have hjz : j < zs.length := by omega
      have hget : zs.getD j 0 = zs[j] := by rw [List.getD_eq_getElem?_getD, List.getElem?_eq_getElem hjz]; rfl
      have hb := bounds_u8 (hwf4 _ (List.getElem_mem hjz))
      rw [hcell4 j hjz, hget, ← hu]
      simp [hj, List.getElem?_eq_getElem hjz, bv]
      omega
    have hl5 : l4 ≤ 1048576 := by
      rw [hx4] at hk
      simp only [Rows.uptoBulk] at hk
      have h2 := length_le (H := H) (lits .u8 (zs.take l4))
      have h3 : (lits (H := H) .u8 (zs.take l4)).length = l4 := by
        unfold lits
        simp
        omega
      omega
    refine ⟨_, some ad, cp, by rw [hbl], by rw [hbl]; exact hl4, by unfold maxLen at hm4; omega, by rw [hbl]; exact hl5, some ad, cp, by rw [hbl], fun e => (by cases e), fun ad' e => ?_⟩
    cases e
    refine ⟨fun hp => List.mem_range.2 ?_, hcl⟩
    have h1 := World.block_lt_of_cell? w _ (hcl 0 _ (List.getElem?_eq_getElem (by simpa using hp)))
    rwa [add_block] at h1

end
end Go.Proofs.Ytgdaiajjnfnomaa.Opn
