/- tags: a request begins. -/
import Derived.Test.YtjogpafbiackbaaThm
namespace Go.Proofs.Ytjogpafbiackbaa
set_option linter.unusedVariables false
open Go.RowKit Go.Shelf
namespace Tg
section
variable {pend : Option Nat} {T : TS} {n : Nat} {F : Nat → Option Th} {H : Nat → Option Int} {said : Nat}
theorem refE_zero {tag id : Nat} (h : refE T tag id = 0) : T.last < id ∧ tag ≠ 65535 ∧ T.G tag = none ∧ T.nG ≠ T.most := by
  unfold refE at h
  split at h
  · cases h
  · split at h
    · cases h
    · split at h
      · cases h
      · split at h
        · cases h
        · rename_i h1 h2 h3 h4
          refine ⟨by omega, h2, ?_, h4⟩
          cases q : T.G tag with
          | none => rfl
          | some _ => rw [q] at h3; exact absurd rfl h3
theorem put_eq {α : Type} (f : Nat → Option α) (x y : Nat) (v : Option α) : put f x v y = if y = x then v else f y := rfl
theorem count_put {G : Nat → Option Nat} {t : Nat} (ht : t < 16) (hG : G t = none) (v : Nat) : (List.range 16).countP (fun u => (put G t (some v) u).isSome) = (List.range 16).countP (fun u => (G u).isSome) + 1 := by
  have key : ∀ m, (List.range m).countP (fun u => (put G t (some v) u).isSome) = (List.range m).countP (fun u => (G u).isSome) + (if t < m then 1 else 0) := by
    intro m
    induction m with
    | zero => simp
    | succ m ih =>
      rw [List.range_succ, List.countP_append, List.countP_append, ih]
      by_cases e : m = t
      · subst e
        simp [put_same, hG]
      · have h1 : put G t (some v) m = G m := put_other _ _ e
        have e1 : (if t < m + 1 then 1 else 0 : Nat) = (if t < m then 1 else 0 : Nat) := by
          by_cases q : t < m
          · rw [if_pos q, if_pos (by omega)]
          · rw [if_neg q, if_neg (by omega)]
        simp only [List.countP_cons, List.countP_nil, h1, e1]
        omega
  have := key 16
  rw [if_pos ht] at this
  exact this
theorem Dep.old {F : Nat → Option Th} {n : Nat} {x : Th} (hdom : ∀ k, (F k).isSome = true ↔ k < n) (hnm : ∀ k x, F k = some x → -1 ≤ x.nm ∧ x.nm < k) {k d : Nat} (hk : k ≠ n) (h : Dep (put F n (some x)) k d) : Dep F k d := by
  obtain ⟨x', y, Y, h1, h2, h3, h4, h5⟩ := h
  rw [put_other _ _ hk] at h1
  have hkn := (hdom k).1 (by rw [h1]; rfl)
  have hy := hnm k x' h1
  have hyn : y ≠ n := by omega
  rw [put_other _ _ hyn] at h4
  refine ⟨x', y, Y, h1, h2, h3, h4, ?_⟩
  rcases h5 with h5 | ⟨h5, h6, z, h7, h8⟩
  · exact Or.inl h5
  · rw [put_other _ _ (by omega)] at h7
    exact Or.inr ⟨h5, h6, z, h7, h8⟩
theorem Done.mono {F F' : Nat → Option Th} {A : List Rep} {d : Nat} (h : Done F A d) (hF : ∀ z, F d = some z → z.wr = true → ∃ z', F' d = some z' ∧ z'.wr = true) : Done F' A d := by
  rcases h with ⟨z, h1, h2⟩ | h
  · exact Or.inl (hF z h1 h2)
  · exact Or.inr h
theorem Inv.begin (I : Inv none T n F H said) {tag : Nat} (ht : tag < 16) (hE : refE T tag (n + 1) = 0) :
    Inv none (T.take (n + 1) ⟨tag, 1, 0⟩) (n + 1) (put F n (some ⟨tag, false, -1, false, false, false, false⟩)) (put H tag (some (n : Int))) said := by
  obtain ⟨-, -, hG, -⟩ := refE_zero hE
  have hRn : T.R (n + 1) = none := by
    cases q : T.R (n + 1) with
    | none => rfl
    | some r => have := (I.rn q).2; omega
  have hFn : F n = none := by
    cases q : F n with
    | none => rfl
    | some x => have := (I.dom n).1 (by rw [q]; rfl); omega
  have hR : ∀ id, (T.take (n + 1) ⟨tag, 1, 0⟩).R id = if id = n + 1 then some ⟨tag, 1, 0⟩ else T.R id := fun id => rfl
  have hGG : ∀ t, (T.take (n + 1) ⟨tag, 1, 0⟩).G t = if t = tag then some (n + 1) else T.G t := fun t => rfl
  have hrow : (T.take (n + 1) ⟨tag, 1, 0⟩).row = T.row := rfl
  have hF : ∀ k, put F n (some (⟨tag, false, -1, false, false, false, false⟩ : Th)) k = if k = n then some ⟨tag, false, -1, false, false, false, false⟩ else F k := fun k => rfl
  have hD : ∀ k, (F k).isSome = true ↔ k < n := I.dom
  have hDs : ∀ k x, F k = some x → k < n := fun k x h => (I.dom k).1 (by rw [h]; rfl)
  have hRs : ∀ id r, T.R id = some r → 1 ≤ id ∧ id ≤ n := fun id r h => I.rn h
  constructor
  case dom => intro k; rw [hF]; have := I.dom k; split <;> grind
  case last => rfl
  case most => exact I.most
  case tagl => have := I.tagl; intro k x hk; rw [hF] at hk; grind
  case nml => have := I.nml; intro k x hk; rw [hF] at hk; grind
  case flb => have := I.flb; intro k x hk; rw [hF] at hk; grind
  case caw => have := I.caw; intro k x hk; rw [hF] at hk; grind
  case and_ => have := I.and_; intro k x hk; rw [hF] at hk; grind
  case wrn => have := I.wrn; intro k x hk; rw [hF] at hk; rw [hR]; grind
  case rq => 
    intro id r hr
    rw [hR] at hr
    by_cases e : id = n + 1
    · rw [if_pos e] at hr
      cases hr
      refine ⟨by omega, _, by rw [hF, if_pos (by omega)], rfl, rfl, by rw [hGG, if_pos rfl, e], Or.inl ⟨rfl, rfl, Or.inl ⟨rfl, rfl, rfl, rfl⟩⟩⟩
    · rw [if_neg e] at hr
      obtain ⟨h1, x, h2, h3, h4, h5, h6⟩ := I.rq id r hr
      refine ⟨h1, x, by rw [hF, if_neg (by have := hDs _ _ h2; omega)]; exact h2, h3, h4, ?_, h6⟩
      rw [hGG, if_neg (fun q => by rw [q, hG] at h5; cases h5)]
      exact h5
  case gone => have := I.gone; intro k x hk; rw [hF] at hk; rw [hR]; grind
  case gm => have := I.gm; intro t id; rw [hGG, hR]; grind
  case hm => 
    intro t ht'
    rw [hGG]
    have := I.hm t ht'
    by_cases e : t = tag
    · subst e; rw [if_pos rfl, put_same]; simp
    · rw [if_neg e, put_other _ _ e]; exact this
  case hl => have := I.hl; intro t h; rw [put_eq]; grind
  case cnt => 
    have := I.cnt
    show (List.range 16).countP (fun t => (put T.G tag (some (n + 1)) t).isSome) = if (T.G tag).isSome = true then T.nG else T.nG + 1
    rw [count_put ht hG, this, hG]
    rfl
  case row1 => 
    intro e he
    have h1 := (I.row1 e he).1
    refine ⟨h1, fun h => ?_⟩
    obtain ⟨r, h2, h3⟩ := (I.row1 e he).2 h
    exact ⟨r, by rw [hR, if_neg (by have := hRs _ _ h2; omega)]; exact h2, h3⟩
  case rowd => exact I.rowd
  case rowc => 
    intro id r hr hst
    rw [hR] at hr
    by_cases e : id = n + 1
    · rw [if_pos e] at hr; cases hr; simp at hst
    · rw [if_neg e] at hr; exact I.rowc id r hr hst
  case saidc => exact I.saidc
  case ord => 
    intro k d hd A e B hrow he hid
    have hm : e ∈ T.row := by rw [show T.row = A ++ e :: B from hrow]; simp
    obtain ⟨r, h2, -⟩ := (I.row1 e hm).2 he
    have := hRs _ _ h2
    refine (I.ord k d (hd.old I.dom I.nml (by omega)) A e B hrow he hid).mono (fun z h1 h2 => ⟨z, ?_, h2⟩)
    rw [hF, if_neg (by have := hDs _ _ h1; omega)]
    exact h1
  case wait => 
    intro k x r hk hr hst
    rw [hF] at hk
    rw [hR] at hr
    by_cases e : k = n
    · rw [if_pos (by omega)] at hr; cases hr; simp at hst
    · rw [if_neg e] at hk
      rw [if_neg (by omega)] at hr
      obtain ⟨ro, h1, h2, y, h3, Y, h4, h5, h6⟩ := I.wait k x r hk hr hst
      have hy := hDs _ _ h4
      refine ⟨ro, by rw [hR, if_neg (by have := hRs _ _ h1; omega)]; exact h1, h2, y, h3, Y, by rw [hF, if_neg (by omega)]; exact h4, h5, fun h ry hry => ?_⟩
      rw [hR, if_neg (by omega)] at hry
      exact h6 h ry hry
  case named => 
    intro k x y Y hk hfl hnm hY hYf
    rw [hF] at hk hY
    by_cases e : k = n
    · rw [if_pos e] at hk; cases hk; cases hfl
    · rw [if_neg e] at hk
      have := hDs _ _ hk
      have h2 := I.nml k x hk
      rw [if_neg (by omega)] at hY
      exact I.named k x y Y hk hfl hnm hY hYf
  case fo6 => 
    intro k x r hk hr hst
    rw [hF] at hk
    rw [hR] at hr
    by_cases e : k = n
    · rw [if_pos (by omega)] at hr; cases hr; simp at hst
    · rw [if_neg e] at hk
      rw [if_neg (by omega)] at hr
      obtain ⟨h1, h2⟩ := I.fo6 k x r hk hr hst
      have h3 := hDs _ _ hk
      have h4 := I.nml k x hk
      refine ⟨?_, fun y Y hy hY => ?_⟩
      · rcases h1 with h1 | ⟨O, hO, h5⟩
        · exact Or.inl h1
        · exact Or.inr ⟨O, by rw [hF, if_neg (by have := hDs _ _ hO; omega)]; exact hO, h5⟩
      · rw [hF, if_neg (by omega)] at hY
        exact h2 y Y hy hY
  case canc => 
    intro id r hr hst
    rw [hR] at hr
    by_cases e : id = n + 1
    · rw [if_pos e] at hr; cases hr; simp at hst
    · rw [if_neg e] at hr
      obtain ⟨k, x, rk, h1, h2, h3, h4, h5⟩ := I.canc id r hr hst
      have := hDs _ _ h1
      exact ⟨k, x, rk, by rw [hF, if_neg (by omega)]; exact h1, h2, h3, by rw [hR, if_neg (by omega)]; exact h4, h5⟩
end
end Tg
end Go.Proofs.Ytjogpafbiackbaa
