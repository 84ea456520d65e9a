/- UsersGroups, UsersOrder: plain facts of the accounts that are made; a table's contracts by what it says. -/
import Derived.Test.YteeheapenfklcaaDoorUam
import Derived.Test.YteeheapenfklcaaDoorUan
import Derived.Test.YteeheapenfklcaaDoorUke
import Derived.Test.YteeheapenfklcaaDoorUmx
import Derived.Test.YteeheapenfklcaaDoorUgg
namespace Go.Proofs.YteeheapenfklcaaDoor
set_option linter.unusedVariables false
open Go.RowKit Go.Shelf
attribute [local go_sem] Oper.semAt_some
namespace Us
open Go.Proofs.YteeheapenfklcaaDoor.Utf Go.Proofs.YteeheapenfklcaaDoor.Txt Go.PlainAid Go.Proofs.YteeheapenfklcaaDoor.Mpf
/-- Names of three bytes. -/
structure Trim (T : List Acc) : Prop where
  name : ∀ a ∈ T, a.name.size = 3
  lead : ∀ a ∈ T, a.leader.size = 0 ∨ a.leader.size = 3
  mem : ∀ a ∈ T, ∀ m ∈ a.members, m.size = 3
theorem made_trim (ws : List WhoD) : Trim (madeT ws) := by
  have hall : ∀ a ∈ madeT ws, ∃ k x, k < min ws.length 30 ∧ a = madeA (min ws.length 30) k x := fun a ha => by
    obtain ⟨k, hk, rfl⟩ := List.getElem_of_mem ha
    exact ⟨k, _, by rw [madeT_length] at hk; exact hk, madeT_get ws hk⟩
  refine ⟨fun a ha => ?_, fun a ha => ?_, fun a ha m hm => ?_⟩
  · obtain ⟨k, x, hk, rfl⟩ := hall a ha; rfl
  · obtain ⟨k, x, hk, rfl⟩ := hall a ha
    show (if _ then nameL _ else (⟨#[]⟩ : ByteArray)).size = 0 ∨ (if _ then nameL _ else (⟨#[]⟩ : ByteArray)).size = 3
    split
    · exact Or.inr rfl
    · exact Or.inl rfl
  · obtain ⟨k, x, hk, rfl⟩ := hall a ha
    obtain ⟨y, -, rfl⟩ := List.mem_map.1 hm
    rfl
def xB : ByteArray := ⟨#[120]⟩
theorem size_x (u : ByteArray) : (u ++ xB).size = u.size + 1 := by rw [ByteArray.size_append]; rfl
theorem Trim.known_x {T : List Acc} (h : Trim T) {u : ByteArray} (hu : u.size = 3) : known T (u ++ xB) = false := by
  unfold Us.known
  rw [List.any_eq_false]
  intro a ha
  simp only [decide_eq_true_eq]
  intro e
  have h1 := h.name a ha
  rw [e, size_x] at h1
  omega
theorem Trim.bel_x {T : List Acc} (h : Trim T) {u : ByteArray} (hu : u.size = 3) (g : ByteArray) : bel T (g, u ++ xB) = false := by
  unfold Us.bel
  rw [List.any_eq_false]
  intro a ha
  simp only [Bool.and_eq_true, decide_eq_true_eq, not_and]
  intro e
  have h1 := h.name a ha
  rw [e, size_x] at h1
  omega
theorem Trim.bel_y {T : List Acc} (h : Trim T) {u : ByteArray} (hu : u.size = 3) (g : ByteArray) : bel T (u ++ xB, g) = false := by
  unfold Us.bel
  rw [List.any_eq_false]
  intro a ha
  simp only [Bool.and_eq_true, decide_eq_true_eq, not_and]
  intro e hm
  have h1 := h.mem a ha _ (memB_iff.1 hm)
  rw [size_x] at h1
  omega
theorem ne_x (u : ByteArray) : u ≠ u ++ xB := fun e => by
  have := congrArg ByteArray.size e
  rw [size_x] at this
  omega
theorem Trim.member_x {T : List Acc} (h : Trim T) {u : ByteArray} (hu : u.size = 3) : member T u (u ++ xB) = false := by
  unfold Us.member
  rw [h.bel_x hu, decide_eq_false (ne_x u)]
  rfl
theorem Trim.member_y {T : List Acc} (h : Trim T) {u : ByteArray} (hu : u.size = 3) : member T (u ++ xB) u = false := by
  unfold Us.member
  rw [h.bel_y hu, decide_eq_false (fun e => ne_x u e.symm)]
  rfl
theorem Trim.leads_x {T : List Acc} (h : Trim T) (hs : Sole T) {i : Nat} (hi : i < T.length) : leads T (T[i].name ++ xB) T[i].name = false := by
  have hn := h.name _ (List.getElem_mem hi)
  rw [hs.leads hi]
  split
  · exact h.member_y hn
  · refine decide_eq_false (fun e => ?_)
    have h1 := h.lead _ (List.getElem_mem hi)
    rw [← e, size_x] at h1
    omega
theorem Sole.key {T : List Acc} (h : Sole T) {i : Nat} (hi : i < T.length) : accT T T[i].name = T[i] := by
  unfold accT
  rw [h.place hi]
  simp only [List.getD_eq_getElem?_getD, List.getElem?_eq_getElem hi, Option.getD_some]
/-- Who leads, as the law says it. -/
theorem Sole.leads2 {T : List Acc} (h : Sole T) {k : Nat} (hk : k < T.length) {u : ByteArray} (hu : u.size = 3) : Us.leads T u T[k].name = (decide (T[k].leader = u) || (decide (T[k].leader.size = 0) && Us.member T u T[k].name)) := by
  rw [h.leads hk]
  by_cases h0 : T[k].leader.size = 0
  · rw [if_pos h0]
    have h1 : ¬ T[k].leader = u := fun e => by rw [e] at h0; omega
    simp [h0, h1]
  · rw [if_neg h0]
    simp only [h0, decide_false, Bool.false_and, Bool.or_false]
    by_cases e : u = T[k].leader
    · rw [decide_eq_true e, decide_eq_true e.symm]
    · rw [decide_eq_false e, decide_eq_false (fun q => e q.symm)]
theorem groups_t {w : World} {B p : Nat} {T : List Acc} (h : Tb w B p T) (hT : T.length ≤ 65537) (hF : ∀ a ∈ T, Fit a) (u : ByteArray) (hu : u.size ≤ maxLen) :
    Calls Tryd.prog 17 #[.pointer (some ⟨p, 0, none⟩), .string u] w fun e w' => ∃ a c, e = .returned (.slice a (sortB (gsel T u T)).length c) ∧ Mem w' (.slice a (sortB (gsel T u T)).length c) (sortB (gsel T u T)) ∧ Kept [] w w' := by
  obtain ⟨sl, m1, m2, n2, L, h, rfl⟩ := h
  refine (groups_all h (by rw [accs_length] at hT; exact hT) hF u hu).mono ?_
  rintro e w' ⟨v, rfl, hm, k⟩
  obtain ⟨a, c, rfl⟩ := hm.slice
  exact ⟨a, c, rfl, hm, k⟩
theorem key_t {w : World} {B p : Nat} {T : List Acc} (h : Tb w B p T) (hT : T.length ≤ 1048576) (n : ByteArray) (hn : n.size ≤ maxLen) :
    Calls Tryd.prog 21 #[.pointer (some ⟨p, 0, none⟩), .string n] w fun e w' => e = .returned (.string (accT T n).key) ∧ Kept [] w w' := by
  obtain ⟨sl, m1, m2, n2, L, h, rfl⟩ := h
  exact key_x h n hn (by rw [accs_length] at hT; exact hT)
theorem good_fit {T : List Acc} (g : Good T) : ∀ a ∈ T, Fit a := fun a ha => form_fit (g.form a ha) (g.much.2 a ha)
/-- One text ahead of another. -/
theorem rises_lt {l : List ByteArray} (h : l.Pairwise (fun x y => dl x ≤ dl y ∧ dl x ≠ dl y)) {k : Nat} (hk : k + 1 < l.length) : dl l[k] < dl l[k + 1] := by
  have h1 := List.pairwise_iff_getElem.1 h k (k + 1) (by omega) hk (by omega)
  rcases Decidable.em (dl l[k] < dl l[k + 1]) with q | q
  · exact q
  · exact absurd (List.le_antisymm h1.1 (List.not_lt.1 q)) h1.2
end Us
end Go.Proofs.YteeheapenfklcaaDoor
