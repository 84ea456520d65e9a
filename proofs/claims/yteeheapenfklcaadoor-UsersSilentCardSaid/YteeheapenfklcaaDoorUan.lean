/- A table whose names differ: who belongs to whom, leads whom; its groups. -/
import Derived.Test.YteeheapenfklcaaDoorUgh
import Derived.Test.YteeheapenfklcaaDoorUmg
namespace Go.Proofs.YteeheapenfklcaaDoor
set_option linter.unusedVariables false
namespace Us
open Go.Proofs.YteeheapenfklcaaDoor.Utf Go.Proofs.YteeheapenfklcaaDoor.Txt
/-- All names differ. -/
def Sole (T : List Acc) : Prop := (T.map (·.name)).Nodup
theorem Sole.inj {T : List Acc} (h : Sole T) {i k : Nat} (hi : i < T.length) (hk : k < T.length) (e : T[i].name = T[k].name) : i = k := by
  have h1 : (T.map (·.name))[i]'(by simpa using hi) = (T.map (·.name))[k]'(by simpa using hk) := by simpa using e
  exact (List.getElem_inj (h₀ := by simpa using hi) (h₁ := by simpa using hk) h).1 h1
theorem Sole.known {T : List Acc} {k : Nat} (hk : k < T.length) : known T T[k].name = true := by
  unfold Us.known
  rw [List.any_eq_true]
  exact ⟨T[k], List.getElem_mem hk, by simp⟩
theorem Sole.bel {T : List Acc} (h : Sole T) {k : Nat} (hk : k < T.length) (u : ByteArray) : bel T (u, T[k].name) = memB u T[k].members := by
  unfold Us.bel
  rw [Bool.eq_iff_iff, List.any_eq_true]
  constructor
  · rintro ⟨a, ha, hx⟩
    obtain ⟨i, hi, rfl⟩ := List.getElem_of_mem ha
    rw [Bool.and_eq_true, decide_eq_true_eq] at hx
    have e := h.inj hi hk hx.1
    subst e
    exact hx.2
  · intro hx
    exact ⟨T[k], List.getElem_mem hk, by rw [Bool.and_eq_true, decide_eq_true_eq]; exact ⟨rfl, hx⟩⟩
theorem Sole.place {T : List Acc} (h : Sole T) {k : Nat} (hk : k < T.length) : placeOf T 0 T[k].name = some k := by
  cases hp : placeOf T 0 T[k].name with
  | none =>
    have h1 := placeOf_known T[k].name T 0
    rw [hp, Sole.known hk] at h1
    cases h1
  | some j =>
    obtain ⟨h1, -, h2⟩ := placeOf_some _ _ _ _ hp
    have e := h.inj h1 hk h2
    rw [Nat.sub_zero] at e
    rw [e]
/-- Of two that are known. -/
theorem Sole.member {T : List Acc} (h : Sole T) {i k : Nat} (hi : i < T.length) (hk : k < T.length) : member T T[i].name T[k].name = (decide (i = k) || memB T[i].name T[k].members) := by
  unfold Us.member
  rw [h.bel hk, Sole.known hi, Bool.and_true, Bool.or_comm]
  congr 1
  by_cases e : i = k
  · subst e; simp
  · simp only [e, decide_false]
    exact decide_eq_false (fun h2 => e (h.inj hi hk h2))
theorem Sole.leads {T : List Acc} (h : Sole T) {k : Nat} (hk : k < T.length) (u : ByteArray) : leads T u T[k].name = (if T[k].leader.size = 0 then Us.member T u T[k].name else decide (u = T[k].leader)) := by
  unfold Us.leads
  rw [h.place hk]
  simp only [List.getElem?_eq_getElem hk, Option.elim_some]
  by_cases h0 : T[k].leader.size = 0 <;> simp [h0]
theorem gsel_nodup {T : List Acc} (h : Sole T) (u : ByteArray) : (gsel T u T).Nodup := by
  unfold gsel
  exact h.sublist (List.Sublist.map _ List.filter_sublist)
/-- Somebody's groups, sorted: a group stands among them if he belongs to it. -/
theorem Sole.groups {T : List Acc} (h : Sole T) {k : Nat} (hk : k < T.length) (u : ByteArray) : memB T[k].name (sortB (gsel T u T)) = Us.member T u T[k].name := by
  rw [Bool.eq_iff_iff, memB_iff, (sortB_perm _).mem_iff]
  unfold gsel
  rw [List.mem_map]
  constructor
  · rintro ⟨a, ha, e⟩
    obtain ⟨h1, h2⟩ := List.mem_filter.1 ha
    rw [← e]
    exact h2
  · intro hm
    exact ⟨T[k], List.mem_filter.2 ⟨List.getElem_mem hk, hm⟩, rfl⟩
/-- How many of the first m he belongs to. -/
def cntG (T : List Acc) (u : ByteArray) (m : Nat) : Nat := (gsel T u (T.take m)).length
theorem cntG_zero (T : List Acc) (u : ByteArray) : cntG T u 0 = 0 := rfl
theorem cntG_yes {T : List Acc} {u : ByteArray} {m : Nat} (hm : m < T.length) (h : Us.member T u T[m].name = true) : cntG T u (m + 1) = cntG T u m + 1 := by
  unfold cntG
  rw [List.take_succ_eq_append_getElem hm, gsel_yes _ h, List.length_append]
  rfl
theorem cntG_no {T : List Acc} {u : ByteArray} {m : Nat} (hm : m < T.length) (h : Us.member T u T[m].name = false) : cntG T u (m + 1) = cntG T u m := by
  unfold cntG
  rw [List.take_succ_eq_append_getElem hm, gsel_no _ h]
theorem cntG_all (T : List Acc) (u : ByteArray) : cntG T u T.length = (sortB (gsel T u T)).length := by
  unfold cntG
  rw [List.take_length, sortB_length]
theorem cntG_le (T : List Acc) (u : ByteArray) (m : Nat) : cntG T u m ≤ m := by
  unfold cntG
  exact Nat.le_trans (gsel_len _ _ _) (by rw [List.length_take]; omega)
theorem made_sole (ws : List WhoD) : Sole (madeT ws) := by
  unfold Sole
  rw [List.Nodup, List.pairwise_map, List.pairwise_iff_getElem]
  intro i j hi hj hij e
  have hi2 : i < min ws.length 30 := by rw [← madeT_length]; exact hi
  have hj2 : j < min ws.length 30 := by rw [← madeT_length]; exact hj
  rw [made_name ws hi, made_name ws hj] at e
  have := name_inj i (by omega) j (by omega) e
  omega
end Us
end Go.Proofs.YteeheapenfklcaaDoor
