/- UsersOrder: the accounts in another order, their members too: plain facts. -/
import Derived.Test.YteeheapenfklcaaDoorUgm
namespace Go.Proofs.YteeheapenfklcaaDoor
set_option linter.unusedVariables false
namespace Us
open Go.Proofs.YteeheapenfklcaaDoor.Utf Go.Proofs.YteeheapenfklcaaDoor.Txt
def rev (a : Acc) : Acc := ⟨a.name, a.leader, a.members.reverse, a.key⟩
/-- The accounts from the p-th on, then those ahead of it. -/
def turnT (p : Nat) (T : List Acc) : List Acc := (T.drop p ++ T.take p).map rev
theorem turn_len (p : Nat) (T : List Acc) : (turnT p T).length = T.length := by
  unfold turnT
  rw [List.length_map, List.length_append, List.length_drop, List.length_take]
  omega
theorem turn_perm (p : Nat) (T : List Acc) : (T.drop p ++ T.take p).Perm T := by
  have h : (T.take p ++ T.drop p).Perm (T.drop p ++ T.take p) := List.perm_append_comm
  rw [List.take_append_drop] at h
  exact h.symm
theorem turn_get {p : Nat} {T : List Acc} (hp : p < T.length) {i : Nat} (hi : i < (turnT p T).length) : (turnT p T)[i] = rev (T[(i + p) % T.length]'(Nat.mod_lt _ (by omega))) := by
  have hi2 : i < T.length := by rw [turn_len] at hi; exact hi
  unfold turnT at hi ⊢
  rw [List.getElem_map]
  congr 1
  by_cases h : i < T.length - p
  · rw [List.getElem_append_left (by rw [List.length_drop]; exact h), List.getElem_drop]
    have e : (i + p) % T.length = p + i := by rw [Nat.mod_eq_of_lt (by omega)]; omega
    simp only [e]
  · rw [List.getElem_append_right (by rw [List.length_drop]; omega), List.getElem_take]
    have e : (i + p) % T.length = i - (T.length - p) := by
      rw [Nat.mod_eq_sub_mod (by omega), Nat.mod_eq_of_lt (by omega)]
      omega
    simp only [e, List.length_drop]
theorem turn_any (p : Nat) (T : List Acc) (f : Acc → Bool) (hf : ∀ a, f (rev a) = f a) : (turnT p T).any f = T.any f := by
  have h1 : (turnT p T).any f = (T.drop p ++ T.take p).any f := by
    unfold turnT
    rw [List.any_map]
    congr 1
    funext a
    exact hf a
  rw [h1, List.any_append, Bool.or_comm, ← List.any_append, List.take_append_drop]
theorem known_turn (p : Nat) (T : List Acc) (n : ByteArray) : known (turnT p T) n = known T n := turn_any p T _ (fun a => rfl)
theorem memB_rev (u : ByteArray) (l : List ByteArray) : memB u l.reverse = memB u l := by unfold memB; rw [List.any_reverse]
theorem bel_turn (p : Nat) (T : List Acc) (x : ByteArray × ByteArray) : bel (turnT p T) x = bel T x := by
  unfold Us.bel
  refine turn_any p T _ (fun a => ?_)
  show (_ && memB _ a.members.reverse) = _
  rw [memB_rev]
  rfl
theorem member_turn (p : Nat) (T : List Acc) (u g : ByteArray) : member (turnT p T) u g = member T u g := by
  unfold Us.member
  rw [bel_turn, known_turn]
theorem turn_mem {p : Nat} {T : List Acc} {a : Acc} (h : a ∈ turnT p T) : ∃ b ∈ T, a = rev b := by
  unfold turnT at h
  obtain ⟨b, hb, rfl⟩ := List.mem_map.1 h
  exact ⟨b, (turn_perm p T).mem_iff.1 hb, rfl⟩
theorem turn_has {p : Nat} {T : List Acc} {k : Nat} (hk : k < T.length) : ∃ j, ∃ hj : j < (turnT p T).length, (turnT p T)[j] = rev T[k] := by
  have h : rev T[k] ∈ turnT p T := by
    unfold turnT
    exact List.mem_map_of_mem ((turn_perm p T).mem_iff.2 (List.getElem_mem hk))
  obtain ⟨j, hj, e⟩ := List.getElem_of_mem h
  exact ⟨j, hj, e⟩
theorem sole_turn {p : Nat} {T : List Acc} (h : Sole T) : Sole (turnT p T) := by
  unfold Sole turnT
  rw [List.map_map]
  have e : ((fun a : Acc => a.name) ∘ rev) = (fun a => a.name) := rfl
  rw [e]
  exact ((turn_perm p T).map _).nodup_iff.2 h
theorem key_turn {p : Nat} {T : List Acc} (h : Sole T) {k : Nat} (hk : k < T.length) : (accT (turnT p T) T[k].name).key = T[k].key := by
  obtain ⟨j, hj, e⟩ := turn_has (p := p) hk
  have := (sole_turn (p := p) h).key hj
  rw [e] at this
  have e2 : (rev T[k]).name = T[k].name := rfl
  rw [e2] at this
  rw [this]
  rfl
theorem leads_turn {p : Nat} {T : List Acc} (h : Sole T) {k : Nat} (hk : k < T.length) (u : ByteArray) : Us.leads (turnT p T) u T[k].name = Us.leads T u T[k].name := by
  obtain ⟨j, hj, e⟩ := turn_has (p := p) hk
  have h1 := (sole_turn (p := p) h).leads hj u
  rw [e] at h1
  have e2 : (rev T[k]).name = T[k].name := rfl
  have e3 : (rev T[k]).leader = T[k].leader := rfl
  rw [e2, e3, member_turn] at h1
  rw [h1, h.leads hk]
theorem groups_turn (p : Nat) (T : List Acc) (u : ByteArray) : sortB (gsel (turnT p T) u (turnT p T)) = sortB (gsel T u T) := by
  refine sortB_congr ?_
  unfold gsel
  have e : (turnT p T).filter (fun a => member (turnT p T) u a.name) = ((T.drop p ++ T.take p).filter (fun a => member T u a.name)).map rev := by
    unfold turnT
    rw [List.filter_map]
    congr 1
    refine List.filter_congr (fun a _ => ?_)
    exact member_turn p T u a.name
  rw [e, List.map_map]
  have e1 : ((fun a : Acc => a.name) ∘ rev) = (fun a => a.name) := rfl
  rw [e1]
  exact ((turn_perm p T).filter _).map _
theorem lens_rev (l : List (List UInt8)) : Lib.lens l.reverse = Lib.lens l := by
  unfold Lib.lens
  rw [List.map_reverse, List.sum_reverse]
theorem join_rev (l : List (List UInt8)) (s : List UInt8) : (Lib.join l.reverse s).length = (Lib.join l s).length := by
  cases l with
  | nil => rfl
  | cons a r =>
    cases h : (a :: r).reverse with
    | nil => simp at h
    | cons b q =>
      have hl := congrArg List.length h
      have hs := lens_rev (a :: r)
      rw [h] at hs
      rw [Lib.join_length, Lib.join_length, hs]
      simp at hl
      rw [hl]
theorem line_rev (a : Acc) : (lineL (rev a)).length = (lineL a).length := by
  unfold lineL
  rw [Lib.join_length, Lib.join_length]
  have h : (Lib.join ((rev a).members.map dl) [44]).length = (Lib.join (a.members.map dl) [44]).length := by
    show (Lib.join (a.members.reverse.map dl) [44]).length = _
    rw [List.map_reverse, join_rev]
  simp only [Lib.lens, List.map_cons, List.sum_cons, h]
  rfl
/-- What is turned may be printed, too. -/
theorem good_turn {p : Nat} {T : List Acc} (g : Good T) (h : Sole T) (hl : ∀ a ∈ T, (lineL a).length ≤ 200) (hn : T.length ≤ 30) : Good (turnT p T) := by
  refine ⟨fun a ha => ?_, fun k hk => ?_, fun a ha => ?_, ?_, ?_, fun a ha => ?_⟩
  · obtain ⟨b, hb, rfl⟩ := turn_mem ha
    have := g.form b hb
    unfold form at this ⊢
    have e : (rev b).members.all isName = b.members.all isName := by show b.members.reverse.all isName = _; rw [List.all_reverse]
    rw [e]
    exact this
  · unfold addOk
    rw [Bool.and_eq_true]
    constructor
    · rw [Bool.not_eq_true']
      unfold known
      rw [List.any_eq_false]
      intro a ha
      obtain ⟨j, hj, rfl⟩ := List.getElem_of_mem ha
      rw [List.length_take] at hj
      rw [List.getElem_take]
      simp only [decide_eq_true_eq]
      intro e
      have := (sole_turn (p := p) h).inj (by omega) hk e
      omega
    · obtain ⟨b, hb, e⟩ := turn_mem (List.getElem_mem hk)
      rw [e]
      obtain ⟨i, hi, rfl⟩ := List.getElem_of_mem hb
      have := g.adds i hi
      unfold addOk at this
      rw [Bool.and_eq_true] at this
      unfold once at this ⊢
      exact decide_eq_true (by show T[i].members.reverse.Nodup; exact (List.reverse_perm _).nodup_iff.2 (of_decide_eq_true this.2))
  · obtain ⟨b, hb, rfl⟩ := turn_mem ha
    have := g.knows b hb
    unfold knows at this ⊢
    have e : (rev b).members.all (fun m => known (turnT p T) m) = b.members.all (fun m => known T m) := by
      show b.members.reverse.all _ = _
      rw [List.all_reverse]
      congr 1
      funext m
      exact known_turn p T m
    have e2 : known (turnT p T) (rev b).leader = known T b.leader := known_turn p T _
    simp only [e, e2]
    exact this
  · have h1 := text_short (turnT p T) 200 (fun a ha => by
      obtain ⟨b, hb, rfl⟩ := turn_mem ha
      rw [line_rev]
      exact hl b hb)
    rw [turn_len] at h1
    omega
  · rw [turn_len]; omega
  · obtain ⟨b, hb, rfl⟩ := turn_mem ha
    show b.members.reverse.length ≤ _
    rw [List.length_reverse]
    exact g.much.2 b hb
theorem made_lines (ws : List WhoD) : ∀ a ∈ madeT ws, (lineL a).length ≤ 200 := fun a ha => by
  obtain ⟨k, hk, rfl⟩ := List.getElem_of_mem ha
  rw [madeT_get ws hk]
  exact line_short _ (by rw [madeT_length] at hk; exact hk) (Nat.min_le_right _ _)
end Us
end Go.Proofs.YteeheapenfklcaaDoor
