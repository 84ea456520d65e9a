/- tags: a request is answered, and those who wait for it. -/
import Derived.Test.YtjogpafbiackbaaTho
namespace Go.Proofs.Ytjogpafbiackbaa
set_option linter.unusedVariables false
open Go.RowKit Go.Shelf
namespace Tg
section
variable {pend : Option Nat} {T : TS} {n : Nat} {F : Nat → Option Th} {H : Nat → Option Int} {said : Nat}
theorem snoc_split {α : Type} : ∀ {A B l : List α} {e x : α}, l ++ [x] = A ++ e :: B → (B = [] ∧ e = x ∧ A = l) ∨ ∃ B', l = A ++ e :: B' := by
  intro A B l e x h
  rcases List.eq_nil_or_concat B with rfl | ⟨B', y, rfl⟩
  · have h2 : l = A ∧ x = e := by simpa using h
    exact Or.inl ⟨rfl, h2.2.symm, h2.1.symm⟩
  · refine Or.inr ⟨B', ?_⟩
    have h3 : l ++ [x] = (A ++ e :: B') ++ [y] := by simpa using h
    exact (List.append_inj' h3 rfl).1
theorem filter_snoc_ids (row : List Rep) (e : Rep) (h : e.apart = false) : ((row ++ [e]).filter (fun e => !e.apart)).map (·.id) = (row.filter (fun e => !e.apart)).map (·.id) ++ [e.id] := by
  rw [List.filter_append, List.map_append]
  simp [h]
theorem Inv.answer (I : Inv none T n F H said) {k : Nat} {x : Th} (hx : F k = some x) (hm : mvB T (k + 1) 3 = true) :
    Inv (some (k + 1)) (T.ans (k + 1) 121 ⟨#[]⟩) n (put F k (some { x with an := true })) H said := by
  have hfl := I.mv3 hx
  rw [hm] at hfl
  have f1 : x.de = true ∧ x.an = false := by
    revert hfl
    cases x.de <;> cases x.an <;> simp
  obtain ⟨f3, f4⟩ := f1
  obtain ⟨r, hr, hst, hget⟩ := get_some (T := T) (id := k + 1) (a := 3) (by unfold mvB at hm; exact of_decide_eq_true hm) (by decide)
  obtain ⟨-, x0, hx0, htag, hwr, hG, hs⟩ := I.rq _ r hr
  rw [Nat.add_sub_cancel, hx] at hx0
  cases hx0
  have f1 : x.fl = false ∧ x.ca = false ∧ r.fo = 0 := by
    rcases hs with ⟨a, b, c | c | c | c⟩ | ⟨a, b, c, d, e | e⟩ <;> grind
  obtain ⟨f1, f2, hfo⟩ := f1
  have hk := (I.dom k).1 (by rw [hx]; rfl)
  have eT : T.ans (k + 1) 121 ⟨#[]⟩ = { T with R := put T.R (k + 1) (some ⟨r.tag, 4, 0⟩), row := T.row ++ [⟨121, r.tag, ⟨#[]⟩, k + 1, false⟩] } := by
    have e1 : T.mv (k + 1) 3 4 = { T with R := put T.R (k + 1) (some ⟨r.tag, 4, 0⟩) } := by
      unfold TS.mv
      rw [if_pos (by rw [hget]; exact hst), hget, hfo]
    unfold TS.ans TS.push
    rw [e1]
    unfold TS.get
    simp [put_same]
  rw [eT]
  have hF : ∀ j, put F k (some { x with an := true }) j = if j = k then some { x with an := true } else F j := fun j => rfl
  have hR : ∀ id, put T.R (k + 1) (some (⟨r.tag, 4, 0⟩ : Rq)) id = if id = k + 1 then some ⟨r.tag, 4, 0⟩ else T.R id := fun id => rfl
  have hF' : ∀ j z, put F k (some { x with an := true }) j = some z → ∃ z0, F j = some z0 ∧ z.tag = z0.tag ∧ z.fl = z0.fl ∧ z.nm = z0.nm ∧ z.ca = z0.ca ∧ z.de = z0.de ∧ z.wr = z0.wr ∧ (z0.an = true → z.an = true) ∧ (j ≠ k → z = z0) := fun j z hz => by
    rw [hF] at hz
    split at hz
    · rename_i e; subst e; cases hz; exact ⟨x, hx, rfl, rfl, rfl, rfl, rfl, rfl, fun _ => rfl, fun h => absurd rfl h⟩
    · exact ⟨z, hz, rfl, rfl, rfl, rfl, rfl, rfl, id, fun _ => rfl⟩
  have hF2 : ∀ j z0, F j = some z0 → ∃ z, put F k (some { x with an := true }) j = some z ∧ z.tag = z0.tag ∧ z.fl = z0.fl ∧ z.nm = z0.nm ∧ z.ca = z0.ca ∧ z.de = z0.de ∧ z.wr = z0.wr ∧ (z0.an = true → z.an = true) := fun j z0 hz => by
    rw [hF]
    by_cases e : j = k
    · subst e; rw [hx] at hz; cases hz; exact ⟨_, if_pos rfl, rfl, rfl, rfl, rfl, rfl, rfl, fun _ => rfl⟩
    · exact ⟨z0, by rw [if_neg e]; exact hz, rfl, rfl, rfl, rfl, rfl, rfl, id⟩
  have hR' : ∀ id q, put T.R (k + 1) (some (⟨r.tag, 4, 0⟩ : Rq)) id = some q → ∃ q0, T.R id = some q0 ∧ q.tag = q0.tag ∧ q.fo = q0.fo ∧ (id ≠ k + 1 → q = q0) ∧ (id = k + 1 → q.st = 4) := fun id q hq => by
    rw [hR] at hq
    split at hq
    · rename_i e; subst e; cases hq; exact ⟨r, hr, rfl, hfo.symm, fun h => absurd rfl h, fun _ => rfl⟩
    · rename_i e; exact ⟨q, hq, rfl, rfl, fun _ => rfl, fun h => absurd h e⟩
  have hrow : ∀ e ∈ T.row, e.apart = false → e.id ≠ k + 1 := fun e he ha q' => by
    obtain ⟨q, h2, h3, h4, h5⟩ := (I.row1 e he).2 ha
    rw [q', hr] at h2
    cases h2
    rcases h5 with ⟨h5, -⟩ | ⟨h5, -⟩ <;> omega
  constructor
  case dom => intro j; rw [hF]; have := I.dom j; split <;> grind
  case last => exact I.last
  case most => exact I.most
  case tagl => have := I.tagl; grind
  case nml => have := I.nml; grind
  case flb => have := I.flb; intro j z hz hfl; grind
  case caw => have := I.caw; intro j z hz hc; grind
  case and_ => have := I.and_; intro j z hz hc; grind
  case wrn =>
    intro j z hz hw
    obtain ⟨z0, h1, h2, h3, h4, h5, h6, h7, h8, h9⟩ := hF' j z hz
    have := I.wrn j z0 h1 (by rw [← h7]; exact hw)
    have hj : j ≠ k := fun e => by subst e; rw [hr] at this; cases this.1
    refine ⟨by show put T.R (k + 1) _ (j + 1) = none; rw [hR, if_neg (by omega)]; exact this.1, ?_⟩
    rw [h9 hj]
    exact this.2
  case rq =>
    intro id q hq
    obtain ⟨q0, a1, a2, a3, a4, a5⟩ := hR' id q hq
    obtain ⟨b1, z0, b2, b3, b4, b5, b6⟩ := I.rq id q0 a1
    obtain ⟨z, c1, c2, c3, c4, c5, c6, c7, c8⟩ := hF2 _ z0 b2
    refine ⟨b1, z, c1, by rw [a2, c2]; exact b3, by rw [c7]; exact b4, by rw [c2]; exact b5, ?_⟩
    by_cases e : id = k + 1
    · subst e
      rw [Nat.add_sub_cancel, hx] at b2
      cases b2
      rw [Nat.add_sub_cancel, hF, if_pos rfl] at c1
      cases c1
      rw [a1] at hr
      cases hr
      exact Or.inl ⟨f1, by rw [a3]; exact hfo, Or.inr (Or.inr (Or.inr ⟨a5 rfl, f2, f3, rfl⟩))⟩
    · rw [hF, if_neg (by omega)] at c1
      rw [b2] at c1
      cases c1
      rw [a4 e]
      exact b6
  case gone =>
    intro j z hz hn
    obtain ⟨z0, h1, h2, h3, h4, h5, h6, h7, h8, h9⟩ := hF' j z hz
    have hn2 : put T.R (k + 1) (some (⟨r.tag, 4, 0⟩ : Rq)) (j + 1) = none := hn
    rw [hR] at hn2
    have := I.gone j z0 h1
    grind
  case gm =>
    intro t id h
    obtain ⟨q, h1, h2⟩ := I.gm t id h
    show ∃ r', put T.R (k + 1) _ id = some r' ∧ _
    rw [hR]
    split
    · rename_i e; subst e; rw [hr] at h1; cases h1; exact ⟨_, rfl, h2⟩
    · exact ⟨q, h1, h2⟩
  case hm => exact I.hm
  case hl => exact I.hl
  case cnt => exact I.cnt
  case row1 =>
    intro e he
    rw [List.mem_append, List.mem_singleton] at he
    rcases he with he | rfl
    · refine ⟨(I.row1 e he).1, fun h => ?_⟩
      obtain ⟨q, h2, h3, h4, h5⟩ := (I.row1 e he).2 h
      exact ⟨q, by show put T.R (k + 1) _ e.id = _; rw [hR, if_neg (hrow e he h)]; exact h2, h3, h4, h5⟩
    · exact ⟨fun h => (by cases h), fun _ => ⟨⟨r.tag, 4, 0⟩, put_same _ _ _, rfl, rfl, Or.inl ⟨rfl, rfl⟩⟩⟩
  case rowd =>
    rw [filter_snoc_ids _ _ rfl, List.nodup_append]
    refine ⟨I.rowd, by simp, fun a ha b hb => ?_⟩
    obtain ⟨e, he, rfl⟩ := List.mem_map.1 ha
    rw [List.mem_filter] at he
    simp only [List.mem_singleton] at hb
    subst hb
    exact hrow e he.1 (by simpa using he.2)
  case rowc =>
    intro id q hq hs
    by_cases e : id = k + 1
    · exact ⟨_, List.mem_append_right _ (List.mem_singleton.2 rfl), rfl, e.symm⟩
    · obtain ⟨q0, a1, a2, a3, a4, a5⟩ := hR' id q hq
      obtain ⟨e', h1, h2⟩ := I.rowc id q0 a1 (by rw [← a4 e]; exact hs)
      exact ⟨e', List.mem_append_left _ h1, h2⟩
  case saidc =>
    show (T.row ++ [_]).countP _ = _
    rw [List.countP_append, I.saidc]
    simp
  case ord =>
    intro j d hd A e B hr2 he hid
    have hd2 := Dep.flag (x' := { x with an := true }) hx rfl rfl rfl hd
    rcases snoc_split hr2 with ⟨-, h2, -⟩ | ⟨B', h2⟩
    · subst h2
      have : j = k := by simp at hid; omega
      subst this
      obtain ⟨x1, y, Y, a1, a2, -⟩ := hd2
      rw [hx] at a1
      cases a1
      rw [f1] at a2
      cases a2
    · refine (I.ord j d hd2 A e B' h2 he hid).mono (fun z h1 h2 => ?_)
      obtain ⟨z', h3, -, -, -, -, -, h9, -⟩ := hF2 d z h1
      exact ⟨z', h3, by rw [h9]; exact h2⟩
  case wait =>
    intro j z q hz hq hs
    obtain ⟨q0, a1, a2, a3, a4, a5⟩ := hR' _ q hq
    obtain ⟨z0, h1, h2, h3, h4, h5, h6, h7, h8, h9⟩ := hF' j z hz
    have e : j + 1 ≠ k + 1 := fun e => by have := a5 e; omega
    rw [a4 e] at hs
    obtain ⟨ro, b1, b2, y, b3, Y, b4, b5, b6⟩ := I.wait j z0 q0 h1 a1 hs
    have b2' : ro.st = 3 := by
      rcases b2 with b2 | ⟨b2, -⟩
      · exact b2
      · cases b2
    obtain ⟨Y', c1, c2, c3, c4, c5, c6, c7, c8⟩ := hF2 _ Y b4
    rw [a3]
    have hroot : ∃ ro', put T.R (k + 1) (some (⟨r.tag, 4, 0⟩ : Rq)) q0.fo = some ro' ∧ (ro'.st = 3 ∨ (some (k + 1) = some q0.fo ∧ ro'.st = 4)) := by
      rw [hR]
      by_cases e' : q0.fo = k + 1
      · exact ⟨_, if_pos e', Or.inr ⟨by rw [e'], rfl⟩⟩
      · exact ⟨ro, by rw [if_neg e']; exact b1, Or.inl b2'⟩
    obtain ⟨ro', g1, g2⟩ := hroot
    refine ⟨ro', g1, g2, y, by rw [h4]; exact b3, Y', c1, by rw [c3]; exact b5, fun h ry hry hs' => ?_⟩
    obtain ⟨ry0, d1, d2, d3, d4, d5⟩ := hR' _ ry hry
    have e' : y + 1 ≠ k + 1 := fun e => by have := d5 e; omega
    rw [d3]
    exact b6 (by rw [← c3]; exact h) ry0 d1 (by rw [← d4 e']; exact hs')
  case named =>
    intro j z y Y hz hfl hnm hY hYf
    obtain ⟨z0, h1, h2, h3, h4, h5, h6, h7, h8, h9⟩ := hF' j z hz
    obtain ⟨Y0, c1, c2, c3, c4, c5, c6, c7, c8, c9⟩ := hF' y Y hY
    rw [c5, c6]
    exact I.named j z0 y Y0 h1 (by rw [← h3]; exact hfl) (by rw [← h4]; exact hnm) c1 (by rw [← c3]; exact hYf)
  case fo6 =>
    intro j z q hz hq hs
    obtain ⟨q0, a1, a2, a3, a4, a5⟩ := hR' _ q hq
    obtain ⟨z0, h1, h2, h3, h4, h5, h6, h7, h8, h9⟩ := hF' j z hz
    have e : j + 1 ≠ k + 1 := fun e => by have := a5 e; omega
    rw [a4 e] at hs
    obtain ⟨b1, b2⟩ := I.fo6 j z0 q0 h1 a1 hs
    rw [a3]
    refine ⟨?_, fun y Y hy hY hYf hYc => ?_⟩
    · rcases b1 with b1 | ⟨O, b3, b4, b5, b6⟩
      · exact Or.inl b1
      · obtain ⟨O', c1, c2, c3, c4, c5, c6, c7, c8⟩ := hF2 _ O b3
        refine Or.inr ⟨O', c1, b4, by rw [c3]; exact b5, ?_⟩
        rw [c5, c6, h4]
        exact b6
    · obtain ⟨Y0, c1, c2, c3, c4, c5, c6, c7, c8, c9⟩ := hF' y Y hY
      exact b2 y Y0 (by rw [← h4]; exact hy) c1 (by rw [← c3]; exact hYf) (by rw [← c5]; exact hYc)
  case canc =>
    intro id q hq hs
    obtain ⟨q0, a1, a2, a3, a4, a5⟩ := hR' _ q hq
    have e : id ≠ k + 1 := fun e => by have := a5 e; omega
    rw [a4 e] at hs
    obtain ⟨j, z, rk, b1, b2, b3, b4, b5⟩ := I.canc id q0 a1 hs
    obtain ⟨z', c1, c2, c3, c4, c5, c6, c7, c8⟩ := hF2 _ z b1
    refine ⟨j, z', rk, c1, by rw [c3]; exact b2, by rw [c4]; exact b3, ?_, b5⟩
    show put T.R (k + 1) _ (j + 1) = _
    rw [hR, if_neg]
    · exact b4
    · intro e'
      rw [e', hr] at b4
      cases b4
      omega
/-- One of those who wait, the least, is answered. -/
theorem Inv.stepF {root f : Nat} {r : Rq} (I : Inv (some root) T n F H said) (hr : T.R f = some r) (hst : r.st = 5) (hfo : r.fo = root) (hleast : ∀ g q, T.R g = some q → q.st = 5 → q.fo = root → f ≤ g) (h4 : ∀ ro, T.R root = some ro → ro.st = 4) :
    Inv (some root) (Tg.stepF T f) n F H said ∧ ∀ g, (Tg.stepF T f).R g = if g = f then some ⟨r.tag, 6, root⟩ else T.R g := by
  obtain ⟨hf1, x, hx, htag, hwr, hG, hs⟩ := I.rq _ r hr
  have e0 : f - 1 + 1 = f := by omega
  have hget : T.get f = r := by unfold TS.get; rw [hr]; rfl
  have f1 : x.fl = true := by
    rcases hs with ⟨a, b, c | c | c | c⟩ | ⟨a, b, c, d, e | e⟩ <;> first | exact a | omega
  obtain ⟨ro, w1, w2, y, w3, Y, w4, w5, w6⟩ := I.wait (f - 1) x r hx (by rw [e0]; exact hr) hst
  rw [hfo] at w1 w2 w5 w6
  have eT : Tg.stepF T f = { T with R := put T.R f (some ⟨r.tag, 6, root⟩), row := T.row ++ [⟨109, r.tag, ⟨#[]⟩, f, false⟩] } := by
    have e1 : T.mv f 5 6 = { T with R := put T.R f (some ⟨r.tag, 6, root⟩) } := by
      unfold TS.mv
      rw [if_pos (by rw [hget]; exact hst), hget, hfo]
    unfold Tg.stepF TS.push rfl_
    rw [e1]
    unfold TS.get
    simp [put_same]
  rw [eT]
  have hR : ∀ id, put T.R f (some (⟨r.tag, 6, root⟩ : Rq)) id = if id = f then some ⟨r.tag, 6, root⟩ else T.R id := fun id => rfl
  refine ⟨?_, fun g => hR g⟩
  have hR' : ∀ id q, put T.R f (some (⟨r.tag, 6, root⟩ : Rq)) id = some q → ∃ q0, T.R id = some q0 ∧ q.tag = q0.tag ∧ q.fo = q0.fo ∧ (id ≠ f → q = q0) ∧ (id = f → q.st = 6) := fun id q hq => by
    rw [hR] at hq
    split at hq
    · rename_i e; subst e; cases hq; exact ⟨r, hr, rfl, hfo.symm, fun h => absurd rfl h, fun _ => rfl⟩
    · rename_i e; exact ⟨q, hq, rfl, rfl, fun _ => rfl, fun h => absurd h e⟩
  have hrow : ∀ e ∈ T.row, e.apart = false → e.id ≠ f := fun e he ha q' => by
    obtain ⟨q, h2, h3, h4, h5⟩ := (I.row1 e he).2 ha
    rw [q', hr] at h2
    cases h2
    rcases h5 with ⟨h5, -⟩ | ⟨h5, -⟩ <;> omega
  have hro4 : ro.st = 3 ∨ ro.st = 4 := by rcases w2 with h | ⟨-, h⟩ <;> simp [h]
  have hroot : ∃ O, F (root - 1) = some O ∧ 1 ≤ root ∧ O.fl = false ∧ O.de = true ∧ O.ca = false := by
    obtain ⟨g1, O, g2, -, -, -, g3⟩ := I.rq root ro w1
    refine ⟨O, g2, g1, ?_⟩
    rcases g3 with ⟨a, b, c | c | c | c⟩ | ⟨a, b, c, d, e | e⟩ <;> grind
  constructor
  case dom => exact I.dom
  case last => exact I.last
  case most => exact I.most
  case tagl => exact I.tagl
  case nml => exact I.nml
  case flb => exact I.flb
  case caw => exact I.caw
  case and_ => exact I.and_
  case wrn =>
    intro j z hz hw
    have := I.wrn j z hz hw
    refine ⟨?_, this.2⟩
    show put T.R f _ (j + 1) = none
    rw [hR, if_neg (fun e => by rw [e, hr] at this; cases this.1)]
    exact this.1
  case rq =>
    intro id q hq
    obtain ⟨q0, a1, a2, a3, a4, a5⟩ := hR' id q hq
    obtain ⟨b1, z0, b2, b3, b4, b5, b6⟩ := I.rq id q0 a1
    refine ⟨b1, z0, b2, by rw [a2]; exact b3, b4, b5, ?_⟩
    by_cases e : id = f
    · subst e
      rw [hx] at b2
      cases b2
      have := I.flb _ x hx f1
      exact Or.inr ⟨f1, this.1, this.2.1, this.2.2, Or.inr (a5 rfl)⟩
    · rw [a4 e]
      exact b6
  case gone =>
    intro j z hz hn
    have hn2 : put T.R f (some (⟨r.tag, 6, root⟩ : Rq)) (j + 1) = none := hn
    rw [hR] at hn2
    split at hn2
    · cases hn2
    · exact I.gone j z hz hn2
  case gm =>
    intro t id h
    obtain ⟨q, h1, h2⟩ := I.gm t id h
    show ∃ r', put T.R f _ id = some r' ∧ _
    rw [hR]
    split
    · rename_i e; subst e; rw [hr] at h1; cases h1; exact ⟨_, rfl, h2⟩
    · exact ⟨q, h1, h2⟩
  case hm => exact I.hm
  case hl => exact I.hl
  case cnt => exact I.cnt
  case row1 =>
    intro e he
    rw [List.mem_append, List.mem_singleton] at he
    rcases he with he | rfl
    · refine ⟨(I.row1 e he).1, fun h => ?_⟩
      obtain ⟨q, h2, h3, h4, h5⟩ := (I.row1 e he).2 h
      exact ⟨q, by show put T.R f _ e.id = _; rw [hR, if_neg (hrow e he h)]; exact h2, h3, h4, h5⟩
    · exact ⟨fun h => (by cases h), fun _ => ⟨⟨r.tag, 6, root⟩, put_same _ _ _, rfl, rfl, Or.inr ⟨rfl, rfl⟩⟩⟩
  case rowd =>
    rw [filter_snoc_ids _ _ rfl, List.nodup_append]
    refine ⟨I.rowd, by simp, fun a ha b hb => ?_⟩
    obtain ⟨e, he, rfl⟩ := List.mem_map.1 ha
    rw [List.mem_filter] at he
    simp only [List.mem_singleton] at hb
    subst hb
    exact hrow e he.1 (by simpa using he.2)
  case rowc =>
    intro id q hq hs
    by_cases e : id = f
    · exact ⟨_, List.mem_append_right _ (List.mem_singleton.2 rfl), rfl, e.symm⟩
    · obtain ⟨q0, a1, a2, a3, a4, a5⟩ := hR' id q hq
      obtain ⟨e', h1, h2⟩ := I.rowc id q0 a1 (by rw [← a4 e]; exact hs)
      exact ⟨e', List.mem_append_left _ h1, h2⟩
  case saidc =>
    show (T.row ++ [_]).countP _ = _
    rw [List.countP_append, I.saidc]
    simp
  case ord =>
    intro j d hd A e B hr2 he hid
    rcases snoc_split hr2 with ⟨-, h2, hA⟩ | ⟨B', h2⟩
    · subst h2
      subst hA
      have : j = f - 1 := by simp at hid; omega
      subst this
      -- whatever must stand ahead is written or in the row
      have inrow : ∀ d z, F d = some z → d + 1 < f → (∀ q, T.R (d + 1) = some q → q.st = 4 ∨ q.st = 6 ∨ (q.st = 5 ∧ q.fo = root)) → (z.ca = false ∨ z.fl = true) → Done F T.row d := fun d z hz hlt hq hca => by
        cases hRd : T.R (d + 1) with
        | none =>
          rcases I.gone d z hz hRd with h | ⟨h1, h2⟩
          · exact Or.inl ⟨z, hz, h⟩
          · rcases hca with h | h
            · rw [h] at h2; cases h2
            · rw [h] at h1; cases h1
        | some q =>
          rcases hq q hRd with h | h | ⟨h, h'⟩
          · exact Or.inr (I.rowc (d + 1) q hRd (Or.inl h))
          · exact Or.inr (I.rowc (d + 1) q hRd (Or.inr h))
          · have := hleast _ q hRd h h'; omega
      obtain ⟨x1, y1, Y1, a1, a2, a3, a4, a5⟩ := hd
      rw [hx] at a1
      cases a1
      have hyy : y1 = y := by omega
      subst hyy
      rw [w4] at a4
      cases a4
      have hyn := (I.nml _ x hx).2
      rcases a5 with ⟨a5, a6⟩ | ⟨a5, a6, z, a7, a8, a9⟩
      · subst a5
        by_cases hYf : Y.fl = true
        · refine inrow d Y w4 (by omega) (fun q hq => ?_) (Or.inr hYf)
          obtain ⟨-, Y', g1, -, -, -, g2⟩ := I.rq _ q hq
          rw [Nat.add_sub_cancel, w4] at g1
          cases g1
          rcases g2 with ⟨g3, -⟩ | ⟨-, -, -, -, g3 | g3⟩
          · rw [hYf] at g3; cases g3
          · exact Or.inr (Or.inr ⟨g3, w6 hYf q hq g3⟩)
          · exact Or.inr (Or.inl g3)
        · have hYf' : Y.fl = false := by simpa using hYf
          have hroot2 := w5 hYf'
          have hca : Y.ca = false := by rcases a6 with h | h; exact absurd h hYf; exact h
          have hro4' : ro.st = 4 := h4 ro w1
          exact Or.inr (I.rowc (d + 1) ro (by rw [hroot2]; exact w1) (Or.inl hro4'))
      · refine inrow d z a7 (by omega) (fun q hq => ?_) (Or.inr a8)
        obtain ⟨-, z', g1, -, -, -, g2⟩ := I.rq _ q hq
        rw [Nat.add_sub_cancel, a7] at g1
        cases g1
        rcases g2 with ⟨g3, -⟩ | ⟨-, -, -, -, g3 | g3⟩
        · rw [a8] at g3; cases g3
        · obtain ⟨ro2, v1, v2, y2, v3, Y2, v4, v5, v6⟩ := I.wait d z q a7 hq g3
          have : y2 = y1 := by omega
          subst this
          rw [w4] at v4
          cases v4
          exact Or.inr (Or.inr ⟨g3, by rw [← v5 a5]; exact w5 a5⟩)
        · exact Or.inr (Or.inl g3)
    · exact I.ord j d hd A e B' h2 he hid
  case wait =>
    intro j z q hz hq hs
    obtain ⟨q0, a1, a2, a3, a4, a5⟩ := hR' _ q hq
    have e : j + 1 ≠ f := fun e => by have := a5 e; omega
    rw [a4 e] at hs
    obtain ⟨ro2, b1, b2, y2, b3, Y2, b4, b5, b6⟩ := I.wait j z q0 hz a1 hs
    rw [a3]
    refine ⟨ro2, ?_, b2, y2, b3, Y2, b4, b5, fun h ry hry hs' => ?_⟩
    · show put T.R f _ q0.fo = _
      rw [hR, if_neg]
      · exact b1
      · intro e'
        rw [e', hr] at b1
        cases b1
        rcases b2 with b2 | ⟨-, b2⟩ <;> omega
    · obtain ⟨ry0, d1, d2, d3, d4, d5⟩ := hR' _ ry hry
      have e' : y2 + 1 ≠ f := fun e => by have := d5 e; omega
      rw [d3]
      exact b6 h ry0 d1 (by rw [← d4 e']; exact hs')
  case named => exact I.named
  case fo6 =>
    intro j z q hz hq hs
    obtain ⟨q0, a1, a2, a3, a4, a5⟩ := hR' _ q hq
    rw [a3]
    by_cases e : j + 1 = f
    · have ej : j = f - 1 := by omega
      subst ej
      rw [hx] at hz
      cases hz
      rw [e, hr] at a1
      cases a1
      obtain ⟨O, g1, g2, g3, g4, g5⟩ := hroot
      refine ⟨Or.inr ⟨O, by rw [hfo]; exact g1, by omega, g3, Or.inl g4⟩, fun y1 Y1 hy hY hYf hYc => ?_⟩
      have : y1 = y := by omega
      subst this
      rw [w4] at hY
      cases hY
      rw [hfo]
      exact (w5 hYf).symm
    · rw [a4 e] at hs
      exact I.fo6 j z q0 hz a1 hs
  case canc =>
    intro id q hq hs
    obtain ⟨q0, a1, a2, a3, a4, a5⟩ := hR' _ q hq
    have e : id ≠ f := fun e => by have := a5 e; omega
    rw [a4 e] at hs
    obtain ⟨j, z, rk, b1, b2, b3, b4, b5⟩ := I.canc id q0 a1 hs
    refine ⟨j, z, rk, b1, b2, b3, ?_, b5⟩
    show put T.R f _ (j + 1) = _
    rw [hR, if_neg]
    · exact b4
    · intro e'
      rw [e', hr] at b4
      cases b4
      omega
/-- All who wait are answered, in their order. -/
theorem Inv.answerAll {root : Nat} : ∀ (l : List Nat) (T : TS), Inv (some root) T n F H said → (∀ ro, T.R root = some ro → ro.st = 4) → l.Pairwise (· < ·) → (∀ g, g ∈ l ↔ ∃ q, T.R g = some q ∧ q.st = 5 ∧ q.fo = root) → Inv none (l.foldl Tg.stepF T) n F H said
  | [], T, I, h4, hl, hm => by
    refine { I with wait := fun j z q hz hq hs => ?_ }
    obtain ⟨ro, h1, h2, h3⟩ := I.wait j z q hz hq hs
    refine ⟨ro, h1, Or.inl ?_, h3⟩
    rcases h2 with h2 | ⟨h2, -⟩
    · exact h2
    · have : j + 1 ∈ ([] : List Nat) := (hm (j + 1)).2 ⟨q, hq, hs, by injection h2 with h2; exact h2.symm⟩
      cases this
  | f :: l, T, I, h4, hl, hm => by
    rw [List.foldl_cons]
    obtain ⟨r, hr, hst, hfo⟩ := (hm f).1 (by simp)
    obtain ⟨hl1, hl2⟩ := List.pairwise_cons.1 hl
    obtain ⟨I2, hR⟩ := I.stepF hr hst hfo (fun g q h1 h2 h3 => by
      have := (hm g).2 ⟨q, h1, h2, h3⟩
      rcases List.mem_cons.1 this with rfl | h
      · exact Nat.le_refl _
      · exact Nat.le_of_lt (hl1 g h)) h4
    refine Inv.answerAll l _ I2 (fun ro hro => ?_) hl2 (fun g => ?_)
    · rw [hR] at hro
      split at hro
      · rename_i e
        subst e
        have := h4 r hr
        omega
      · exact h4 ro hro
    · rw [hR]
      by_cases e : g = f
      · subst e
        rw [if_pos rfl]
        refine ⟨fun h => absurd (hl1 g h) (by omega), fun ⟨q, h1, h2, _⟩ => ?_⟩
        cases h1
        cases h2
      · rw [if_neg e, ← hm g, List.mem_cons]
        exact ⟨fun h => Or.inr h, fun h => h.resolve_left e⟩
theorem mem_wait {T : TS} {root : Nat} (hdom : ∀ id q, T.R id = some q → id ≤ T.last) (g : Nat) : g ∈ T.sel (waitP root) ↔ ∃ q, T.R g = some q ∧ q.st = 5 ∧ q.fo = root := by
  rw [mem_sel]
  unfold okB waitP
  cases q : T.R g with
  | none => simp
  | some r =>
    simp only [Bool.and_eq_true, decide_eq_true_eq, Option.some.injEq, exists_eq_left']
    exact ⟨fun h => h.2, fun h => ⟨hdom g r q, h⟩⟩
theorem Inv.reply (I : Inv none T n F H said) {k : Nat} {x : Th} (hx : F k = some x) (hm : mvB T (k + 1) 3 = true) :
    Inv none (T.reply (k + 1) 121 ⟨#[]⟩) n (put F k (some { x with an := true })) H said := by
  have I1 := I.answer hx hm
  unfold TS.reply
  refine Inv.answerAll _ _ I1 (fun ro hro => ?_) (sel_sorted _ _) (mem_wait (fun id q h => by rw [I1.last]; exact (I1.rn h).2))
  obtain ⟨r, hr, hst, hget⟩ := get_some (T := T) (id := k + 1) (a := 3) (by unfold mvB at hm; exact of_decide_eq_true hm) (by decide)
  have e1 : T.mv (k + 1) 3 4 = { T with R := put T.R (k + 1) (some ⟨(T.get (k + 1)).tag, 4, (T.get (k + 1)).fo⟩) } := by
    unfold TS.mv
    rw [if_pos (by rw [hget]; exact hst)]
  have e2 : (T.ans (k + 1) 121 ⟨#[]⟩).R (k + 1) = some ⟨(T.get (k + 1)).tag, 4, (T.get (k + 1)).fo⟩ := by
    unfold TS.ans TS.push
    rw [e1]
    exact put_same _ _ _
  rw [e2] at hro
  cases hro
  rfl
end
end Tg
end Go.Proofs.Ytjogpafbiackbaa
