/- tags: a request is decided, is answered. -/
import Derived.Test.YtjogpafbiackbaaThn
namespace Go.Proofs.Ytjogpafbiackbaa
set_option linter.unusedVariables false
open Go.RowKit Go.Shelf
namespace Tg
section
variable {pend : Option Nat} {T : TS} {n : Nat} {F : Nat → Option Th} {H : Nat → Option Int} {said : Nat}
theorem get_some {id a : Nat} (h : (T.get id).st = a) (ha : a ≠ 0) : ∃ r, T.R id = some r ∧ r.st = a ∧ T.get id = r := by
  unfold TS.get at h ⊢
  cases q : T.R id with
  | none => rw [q] at h; exact absurd h.symm ha
  | some r => rw [q] at h; exact ⟨r, rfl, h, rfl⟩
theorem Inv.mv1 (I : Inv pend T n F H said) {k : Nat} {x : Th} (hx : F k = some x) : mvB T (k + 1) 1 = (!x.fl && (!x.ca && !x.de)) := by
  have h1 := I.gone k x hx
  have h2 := I.wrn k x hx
  have h3 := I.flb k x hx
  cases q : T.R (k + 1) with
  | none =>
    have e : mvB T (k + 1) 1 = false := by unfold mvB TS.get; rw [q]; rfl
    rw [e]
    rcases h1 q with h | ⟨-, h⟩
    · rcases (h2 h).2 with h | ⟨h, -⟩ <;> simp [h]
    · simp [h]
  | some r =>
    obtain ⟨-, y, hy, -, -, -, hs⟩ := I.rq _ r q
    rw [Nat.add_sub_cancel, hx] at hy
    cases hy
    have e : mvB T (k + 1) 1 = decide (r.st = 1) := by unfold mvB TS.get; rw [q]; rfl
    rw [e]
    rcases hs with ⟨a1, -, ⟨a2, a3, a4, -⟩ | ⟨a2, a3, a4, -⟩ | ⟨a2, a3, a4, -⟩ | ⟨a2, a3, a4, -⟩⟩ | ⟨a1, a3, a4, -, a5 | a5⟩ <;> simp [*]
theorem Inv.mv3 (I : Inv pend T n F H said) {k : Nat} {x : Th} (hx : F k = some x) : mvB T (k + 1) 3 = (x.de && !x.an) := by
  have h1 := I.gone k x hx
  have h2 := I.wrn k x hx
  have h3 := I.flb k x hx
  have h4 := I.caw k x hx
  cases q : T.R (k + 1) with
  | none =>
    have e : mvB T (k + 1) 3 = false := by unfold mvB TS.get; rw [q]; rfl
    rw [e]
    rcases h1 q with h | ⟨-, h⟩
    · rcases (h2 h).2 with h | ⟨-, h⟩
      · simp [(h3 h).2.1]
      · simp [h]
    · simp [(h4 h).1]
  | some r =>
    obtain ⟨-, y, hy, -, -, -, hs⟩ := I.rq _ r q
    rw [Nat.add_sub_cancel, hx] at hy
    cases hy
    have e : mvB T (k + 1) 3 = decide (r.st = 3) := by unfold mvB TS.get; rw [q]; rfl
    rw [e]
    rcases hs with ⟨a1, -, ⟨a2, a3, a4, a5⟩ | ⟨a2, a3, a4, a5⟩ | ⟨a2, a3, a4, a5⟩ | ⟨a2, a3, a4, a5⟩⟩ | ⟨a1, a3, a4, -, a5 | a5⟩ <;> simp [*]
/-- Flags turned: what must stand ahead of what is as it was. -/
theorem Dep.flag {k0 k d : Nat} {x x' : Th} (hx : F k0 = some x) (h1 : x'.fl = x.fl) (h2 : x'.nm = x.nm) (h3 : x'.ca = x.ca) (h : Dep (put F k0 (some x')) k d) : Dep F k d := by
  have back : ∀ j z, put F k0 (some x') j = some z → ∃ z0, F j = some z0 ∧ z.fl = z0.fl ∧ z.nm = z0.nm ∧ z.ca = z0.ca := fun j z hz => by
    by_cases e : j = k0
    · subst e
      rw [put_same] at hz
      cases hz
      exact ⟨x, hx, h1, h2, h3⟩
    · rw [put_other _ _ e] at hz
      exact ⟨z, hz, rfl, rfl, rfl⟩
  obtain ⟨x1, y, Y, a1, a2, a3, a4, a5⟩ := h
  obtain ⟨x0, b1, b2, b3, -⟩ := back _ _ a1
  obtain ⟨Y0, c1, c2, -, c4⟩ := back _ _ a4
  refine ⟨x0, y, Y0, b1, by rw [← b2]; exact a2, by rw [← b3]; exact a3, c1, ?_⟩
  rcases a5 with ⟨a5, a6⟩ | ⟨a5, a6, z, a7, a8, a9⟩
  · exact Or.inl ⟨a5, by rw [← c2, ← c4]; exact a6⟩
  · obtain ⟨z0, d1, d2, d3, -⟩ := back _ _ a7
    exact Or.inr ⟨by rw [← c2]; exact a5, a6, z0, d1, by rw [← d2]; exact a8, by rw [← d3]; exact a9⟩
theorem Inv.decides (I : Inv none T n F H said) {k : Nat} {x : Th} (hx : F k = some x) (hm : mvB T (k + 1) 1 = true) :
    Inv none (T.mv (k + 1) 1 3) n (put F k (some { x with de := true })) H said := by
  have hfl := I.mv1 hx
  rw [hm] at hfl
  have f1 : x.fl = false ∧ x.ca = false ∧ x.de = false := by
    revert hfl
    cases x.fl <;> cases x.ca <;> cases x.de <;> simp
  obtain ⟨f1, f2, f3⟩ := f1
  obtain ⟨r, hr, hst, hget⟩ := get_some (T := T) (id := k + 1) (a := 1) (by unfold mvB at hm; exact of_decide_eq_true hm) (by decide)
  obtain ⟨-, x0, hx0, htag, hwr, hG, hs⟩ := I.rq _ r hr
  rw [Nat.add_sub_cancel, hx] at hx0
  cases hx0
  have hfo : r.fo = 0 := by
    rcases hs with ⟨-, h, -⟩ | ⟨h, -⟩
    · exact h
    · rw [f1] at h; cases h
  have hk := (I.dom k).1 (by rw [hx]; rfl)
  have eT : T.mv (k + 1) 1 3 = { T with R := put T.R (k + 1) (some ⟨r.tag, 3, 0⟩) } := by
    unfold TS.mv
    rw [if_pos (by rw [hget]; exact hst), hget, hfo]
  rw [eT]
  have hF : ∀ j, put F k (some { x with de := true }) j = if j = k then some { x with de := true } else F j := fun j => rfl
  have hR : ∀ id, put T.R (k + 1) (some (⟨r.tag, 3, 0⟩ : Rq)) id = if id = k + 1 then some ⟨r.tag, 3, 0⟩ else T.R id := fun id => rfl
  have hF' : ∀ j z, put F k (some { x with de := true }) j = some z → ∃ z0, F j = some z0 ∧ z.tag = z0.tag ∧ z.fl = z0.fl ∧ z.nm = z0.nm ∧ z.ca = z0.ca ∧ z.an = z0.an ∧ z.wr = z0.wr ∧ (z0.de = true → z.de = true) ∧ (j ≠ k → z = z0) := fun j z hz => by
    rw [hF] at hz
    split at hz
    · rename_i e; subst e; cases hz; exact ⟨x, hx, rfl, rfl, rfl, rfl, rfl, rfl, fun _ => rfl, fun h => absurd rfl h⟩
    · exact ⟨z, hz, rfl, rfl, rfl, rfl, rfl, rfl, id, fun _ => rfl⟩
  have hF2 : ∀ j z0, F j = some z0 → ∃ z, put F k (some { x with de := true }) j = some z ∧ z.tag = z0.tag ∧ z.fl = z0.fl ∧ z.nm = z0.nm ∧ z.ca = z0.ca ∧ z.an = z0.an ∧ z.wr = z0.wr ∧ (z0.de = true → z.de = true) := fun j z0 hz => by
    rw [hF]
    by_cases e : j = k
    · subst e; rw [hx] at hz; cases hz; exact ⟨_, if_pos rfl, rfl, rfl, rfl, rfl, rfl, rfl, fun _ => rfl⟩
    · exact ⟨z0, by rw [if_neg e]; exact hz, rfl, rfl, rfl, rfl, rfl, rfl, id⟩
  have hR' : ∀ id q, put T.R (k + 1) (some (⟨r.tag, 3, 0⟩ : Rq)) id = some q → ∃ q0, T.R id = some q0 ∧ q.tag = q0.tag ∧ q.fo = q0.fo ∧ (id ≠ k + 1 → q = q0) ∧ (id = k + 1 → q.st = 3) := fun id q hq => by
    rw [hR] at hq
    split at hq
    · rename_i e; subst e; cases hq; exact ⟨r, hr, rfl, hfo.symm, fun h => absurd rfl h, fun _ => rfl⟩
    · rename_i e; exact ⟨q, hq, rfl, rfl, fun _ => rfl, fun h => absurd h e⟩
  constructor
  case dom => intro j; rw [hF]; have := I.dom j; split <;> grind
  case last => exact I.last
  case most => exact I.most
  case tagl => have := I.tagl; grind
  case nml => have := I.nml; grind
  case flb => have := I.flb; intro j z hz hfl; grind
  case caw => have := I.caw; intro j z hz hc; grind
  case and_ => have := I.and_; intro j z hz hc; grind
  case wrn =>
    intro j z hz hw
    obtain ⟨z0, h1, h2, h3, h4, h5, h6, h7, h8, h9⟩ := hF' j z hz
    have := I.wrn j z0 h1 (by rw [← h7]; exact hw)
    have hj : j ≠ k := fun e => by subst e; rw [hr] at this; cases this.1
    refine ⟨by show put T.R (k + 1) _ (j + 1) = none; rw [hR, if_neg (by omega)]; exact this.1, ?_⟩
    rw [h9 hj]
    exact this.2
  case rq =>
    intro id q hq
    obtain ⟨q0, a1, a2, a3, a4, a5⟩ := hR' id q hq
    obtain ⟨b1, z0, b2, b3, b4, b5, b6⟩ := I.rq id q0 a1
    obtain ⟨z, c1, c2, c3, c4, c5, c6, c7, c8⟩ := hF2 _ z0 b2
    refine ⟨b1, z, c1, by rw [a2, c2]; exact b3, by rw [c7]; exact b4, by rw [c2]; exact b5, ?_⟩
    by_cases e : id = k + 1
    · subst e
      rw [Nat.add_sub_cancel, hx] at b2
      cases b2
      rw [Nat.add_sub_cancel, hF, if_pos rfl] at c1
      cases c1
      rw [a1] at hr
      cases hr
      have han : x.an = false := by
        rcases b6 with ⟨-, -, h⟩ | ⟨h, -⟩
        · rcases h with h | h | h | h <;> grind
        · rw [f1] at h; cases h
      exact Or.inl ⟨f1, by rw [a3]; exact hfo, Or.inr (Or.inr (Or.inl ⟨a5 rfl, f2, rfl, han⟩))⟩
    · rw [hF, if_neg (by omega)] at c1
      rw [b2] at c1
      cases c1
      rw [a4 e]
      exact b6
  case gone =>
    intro j z hz hn
    obtain ⟨z0, h1, h2, h3, h4, h5, h6, h7, h8, h9⟩ := hF' j z hz
    have hn2 : put T.R (k + 1) (some (⟨r.tag, 3, 0⟩ : Rq)) (j + 1) = none := hn
    rw [hR] at hn2
    have := I.gone j z0 h1
    grind
  case gm =>
    intro t id h
    obtain ⟨q, h1, h2⟩ := I.gm t id h
    show ∃ r', put T.R (k + 1) _ id = some r' ∧ _
    rw [hR]
    split
    · rename_i e; subst e; rw [hr] at h1; cases h1; exact ⟨_, rfl, h2⟩
    · exact ⟨q, h1, h2⟩
  case hm => exact I.hm
  case hl => exact I.hl
  case cnt => exact I.cnt
  case row1 =>
    intro e he
    refine ⟨(I.row1 e he).1, fun h => ?_⟩
    obtain ⟨q, h2, h3, h4, h5⟩ := (I.row1 e he).2 h
    have hne : e.id ≠ k + 1 := fun q' => by rw [q', hr] at h2; cases h2; rcases h5 with ⟨h5, -⟩ | ⟨h5, -⟩ <;> omega
    exact ⟨q, by show put T.R (k + 1) _ e.id = _; rw [hR, if_neg hne]; exact h2, h3, h4, h5⟩
  case rowd => exact I.rowd
  case rowc =>
    intro id q hq hs
    obtain ⟨q0, a1, a2, a3, a4, a5⟩ := hR' id q hq
    by_cases e : id = k + 1
    · have := a5 e; omega
    · exact I.rowc id q0 a1 (by rw [← a4 e]; exact hs)
  case saidc => exact I.saidc
  case ord =>
    intro j d hd A e B hrow he hid
    refine (I.ord j d (Dep.flag (x' := { x with de := true }) hx rfl rfl rfl hd) A e B hrow he hid).mono (fun z h1 h2 => ?_)
    obtain ⟨z', h3, -, -, -, -, -, h9, -⟩ := hF2 d z h1
    exact ⟨z', h3, by rw [h9]; exact h2⟩
  case wait =>
    intro j z q hz hq hs
    obtain ⟨q0, a1, a2, a3, a4, a5⟩ := hR' _ q hq
    obtain ⟨z0, h1, h2, h3, h4, h5, h6, h7, h8, h9⟩ := hF' j z hz
    have e : j + 1 ≠ k + 1 := fun e => by have := a5 e; omega
    rw [a4 e] at hs
    obtain ⟨ro, b1, b2, y, b3, Y, b4, b5, b6⟩ := I.wait j z0 q0 h1 a1 hs
    obtain ⟨Y', c1, c2, c3, c4, c5, c6, c7, c8⟩ := hF2 _ Y b4
    rw [a3]
    refine ⟨ro, ?_, b2, y, by rw [h4]; exact b3, Y', c1, by rw [c3]; exact b5, fun h ry hry hs' => ?_⟩
    · show put T.R (k + 1) _ q0.fo = _
      rw [hR, if_neg]
      · exact b1
      · intro e'
        rw [e', hr] at b1
        cases b1
        rcases b2 with b2 | ⟨b2, -⟩
        · omega
        · cases b2
    · obtain ⟨ry0, d1, d2, d3, d4, d5⟩ := hR' _ ry hry
      have e' : y + 1 ≠ k + 1 := fun e => by have := d5 e; omega
      rw [d3]
      exact b6 (by rw [← c3]; exact h) ry0 d1 (by rw [← d4 e']; exact hs')
  case named =>
    intro j z y Y hz hfl hnm hY hYf
    obtain ⟨z0, h1, h2, h3, h4, h5, h6, h7, h8, h9⟩ := hF' j z hz
    obtain ⟨Y0, c1, c2, c3, c4, c5, c6, c7, c8, c9⟩ := hF' y Y hY
    rcases I.named j z0 y Y0 h1 (by rw [← h3]; exact hfl) (by rw [← h4]; exact hnm) c1 (by rw [← c3]; exact hYf) with h | h
    · exact Or.inl (by rw [c5]; exact h)
    · exact Or.inr (c8 h)
  case fo6 =>
    intro j z q hz hq hs
    obtain ⟨q0, a1, a2, a3, a4, a5⟩ := hR' _ q hq
    obtain ⟨z0, h1, h2, h3, h4, h5, h6, h7, h8, h9⟩ := hF' j z hz
    have e : j + 1 ≠ k + 1 := fun e => by have := a5 e; omega
    rw [a4 e] at hs
    obtain ⟨b1, b2⟩ := I.fo6 j z0 q0 h1 a1 hs
    rw [a3]
    refine ⟨?_, fun y Y hy hY hYf hYc => ?_⟩
    · rcases b1 with b1 | ⟨O, b3, b4, b5, b6⟩
      · exact Or.inl b1
      · obtain ⟨O', c1, c2, c3, c4, c5, c6, c7, c8⟩ := hF2 _ O b3
        refine Or.inr ⟨O', c1, b4, by rw [c3]; exact b5, ?_⟩
        rcases b6 with b6 | ⟨b6, b7⟩
        · exact Or.inl (c8 b6)
        · exact Or.inr ⟨by rw [c5]; exact b6, by rw [h4]; exact b7⟩
    · obtain ⟨Y0, c1, c2, c3, c4, c5, c6, c7, c8, c9⟩ := hF' y Y hY
      exact b2 y Y0 (by rw [← h4]; exact hy) c1 (by rw [← c3]; exact hYf) (by rw [← c5]; exact hYc)
  case canc =>
    intro id q hq hs
    obtain ⟨q0, a1, a2, a3, a4, a5⟩ := hR' _ q hq
    have e : id ≠ k + 1 := fun e => by have := a5 e; omega
    rw [a4 e] at hs
    obtain ⟨j, z, rk, b1, b2, b3, b4, b5⟩ := I.canc id q0 a1 hs
    obtain ⟨z', c1, c2, c3, c4, c5, c6, c7, c8⟩ := hF2 _ z b1
    refine ⟨j, z', rk, c1, by rw [c3]; exact b2, by rw [c4]; exact b3, ?_, b5⟩
    show put T.R (k + 1) _ (j + 1) = _
    rw [hR, if_neg]
    · exact b4
    · intro e'
      rw [e', hr] at b4
      cases b4
      omega
end
end Tg
end Go.Proofs.Ytjogpafbiackbaa
