/- tags: the first of the row is written. -/
import Derived.Test.YtjogpafbiackbaaThr
namespace Go.Proofs.Ytjogpafbiackbaa
set_option linter.unusedVariables false
open Go.RowKit Go.Shelf
namespace Tg
section
variable {pend : Option Nat} {T : TS} {n : Nat} {F : Nat → Option Th} {H : Nat → Option Int} {said : Nat}
theorem count_drop {G : Nat → Option Nat} {t v : Nat} (ht : t < 16) (hG : G t = some v) : (List.range 16).countP (fun u => (put G t none u).isSome) = (List.range 16).countP (fun u => (G u).isSome) - 1 := by
  have h1 := count_put (G := put G t none) ht (put_same _ _ _) v
  have e : put (put G t none) t (some v) = G := by
    funext u
    by_cases h : u = t
    · subst h; rw [put_same, hG]
    · rw [put_other _ _ h, put_other _ _ h]
  rw [e] at h1
  omega
/-- Whom a written answer frees beside its own: an id, or nought. -/
def frC (T : TS) (id : Nat) : Nat := if (T.get (T.get id).fo).st = 2 then (T.get id).fo else 0
def wrG (T : TS) (id c : Nat) : Nat → Option Nat := fun t => match T.G t with | some i => if i = id ∨ i = c then none else some i | none => none
def wrR (T : TS) (id c : Nat) : Nat → Option Rq := fun i => if i = id ∨ i = c then none else T.R i
open Classical in
/-- What stands between the law and the table behind the first of the row. -/
structure NextI (T : TS) (n : Nat) (F : Nat → Option Th) (H : Nat → Option Int) (said : Nat) (e : Rep) (k : Nat) (x : Th) : Prop where
  id : e.id = k + 1
  thing : F k = some x
  tag : e.tag = x.tag
  en : e.en = ⟨#[]⟩
  wr : x.wr = false
  mine : H x.tag = some (k : Int)
  kind : (x.fl = false ∧ e.kind = 121 ∧ x.an = true ∧ x.ca = false) ∨ (x.fl = true ∧ e.kind = 109)
  ahead : x.fl = true → ∀ (y : Nat) Y, x.nm = (y : Int) → F y = some Y → (Y.fl = true → Y.wr = true) ∧ (Y.fl = false → (Y.ca = true ∨ (Y.de = true ∧ Y.wr = true)) ∧ ∀ i z, i < k → F i = some z → z.fl = true → z.nm = (y : Int) → z.wr = true)
  done : ∀ H', (∀ t, t < 16 → H' t = some (if t = x.tag then -1 else if (x.fl = true ∧ ∃ (y : Nat) (Y : Th), x.nm = (y : Int) ∧ F y = some Y ∧ Y.ca = true ∧ t = Y.tag ∧ H t = some (y : Int)) then -1 else (H t).getD 0)) → (∀ t, 16 ≤ t → H' t = none) →
    Inv none (T.next e) n (put F k (some { x with wr := true })) H' said
open Classical in
theorem Inv.next (I : Inv none T n F H said) {e : Rep} {q : List Rep} (hrow : T.row = e :: q) (ha : e.apart = false) : ∃ k x, NextI T n F H said e k x := by
  obtain ⟨r, hr, htag, hen, hkind⟩ := (I.row1 e (by rw [hrow]; simp)).2 ha
  obtain ⟨h1, x, hx, hxt, hwr, hG, hs⟩ := I.rq e.id r hr
  obtain ⟨k, hk⟩ : ∃ k, e.id = k + 1 := ⟨e.id - 1, by omega⟩
  rw [hk] at hr hx hG h1
  rw [Nat.add_sub_cancel] at hx
  have hst : r.st = 4 ∨ r.st = 6 := by rcases hkind with ⟨h, -⟩ | ⟨h, -⟩ <;> simp [h]
  have hRs : ∀ id r, T.R id = some r → 1 ≤ id ∧ id ≤ n := fun id r h => I.rn h
  have hget : T.get (k + 1) = r := by unfold TS.get; rw [hr]; rfl
  have hx16 := I.tagl k x hx
  have hR0 : T.R 0 = none := by
    cases q : T.R 0 with
    | none => rfl
    | some r => have := (I.rn q).1; omega
  -- whatever must stand ahead is written
  have dep : ∀ d, Dep F k d → ∃ z, F d = some z ∧ z.wr = true := fun d hd => by
    rcases I.ord k d hd [] e q (by rw [hrow]; rfl) ha hk with h | ⟨f, h, -⟩
    · exact h
    · cases h
  -- whom it frees
  obtain ⟨c, hc⟩ : ∃ c, c = frC T (k + 1) := ⟨_, rfl⟩
  have hcn : c = 0 ∨ (c ≠ k + 1 ∧ x.fl = true ∧ r.st = 6 ∧ r.fo = c ∧ ∃ rc Y, T.R c = some rc ∧ rc.st = 2 ∧ 1 ≤ c ∧ F (c - 1) = some Y ∧ Y.ca = true ∧ Y.fl = false ∧ x.nm = (c : Int) - 1 ∧ T.G Y.tag = some c) := by
    unfold frC at hc
    rw [hget] at hc
    split at hc
    · rename_i h2
      subst hc
      obtain ⟨rc, g1, g2, -⟩ := get_some h2 (by decide)
      have gn := hRs _ _ g1
      obtain ⟨-, Y, g3, g4, -, g5, g6⟩ := I.rq _ rc g1
      have hY : Y.fl = false ∧ Y.ca = true ∧ Y.de = false := by
        rcases g6 with ⟨a, -, b | b | b | b⟩ | ⟨a, -, -, -, b | b⟩ <;> first | omega | exact ⟨a, b.2.1, b.2.2.1⟩
      rcases hs with ⟨a, b, -⟩ | ⟨a, -, -, -, b⟩
      · omega
      · have h6 : r.st = 6 := by omega
        refine Or.inr ⟨fun e' => by rw [e', hr] at g1; cases g1; omega, a, h6, rfl, rc, Y, g1, g2, gn.1, g3, hY.2.1, hY.1, ?_, g5⟩
        rcases (I.fo6 k x r hx hr h6).1 with h | ⟨O, o1, o2, o3, o4⟩
        · omega
        · rw [g3] at o1
          cases o1
          rcases o4 with o4 | ⟨-, o4⟩
          · rw [hY.2.2] at o4; cases o4
          · exact o4
    · exact Or.inl hc
  -- the table behind it
  have cutR : ∀ i, T.cut.get i = T.get i := fun i => rfl
  have eT : ∃ g, T.next e = { T with nG := g, R := wrR T (k + 1) c, G := wrG T (k + 1) c, row := q } ∧ g = (List.range 16).countP (fun u => (wrG T (k + 1) c u).isSome) := by
    have hcut : T.cut.row = q := by unfold TS.cut; rw [hrow]; rfl
    have n1 : T.next e = T.cut.writ (k + 1) := by unfold TS.next; rw [if_neg (by rw [ha]; simp), hk]
    have hGt : T.G r.tag = some (k + 1) := by rw [hxt]; exact hG
    have isx : ∀ t, T.G t = some (k + 1) → t = r.tag := fun t h => by
      obtain ⟨r', h1, h2⟩ := I.gm t _ h
      rw [hr] at h1
      cases h1
      exact h2.symm
    have f1R : (T.cut.free (k + 1)).R = put T.R (k + 1) none := rfl
    have f1G : (T.cut.free (k + 1)).G = put T.G r.tag none := by
      show put T.G (T.get (k + 1)).tag none = _
      rw [hget]
    have f1n : (T.cut.free (k + 1)).nG = (List.range 16).countP (fun u => (put T.G r.tag none u).isSome) := by
      show (if (T.G (T.get (k + 1)).tag).isSome = true then T.nG - 1 else T.nG) = _
      rw [hget, hGt, count_drop (by rw [hxt]; exact hx16) hGt, I.cnt]
      rfl
    have f1o : ∀ i, (T.cut.free (k + 1)).get i = if i = k + 1 then ⟨0, 0, 0⟩ else T.get i := fun i => by
      unfold TS.get
      rw [f1R]
      by_cases h : i = k + 1
      · rw [if_pos h, h, put_same]; rfl
      · rw [if_neg h, put_other _ _ h]
    rcases hcn with h0 | ⟨hne, hfl, h6, hfo, rc, Y, g1, g2, g3, g4, g5, g6, g7, g8⟩
    · -- nobody else
      have hns : ¬ ((T.cut.free (k + 1)).get (T.cut.get (k + 1)).fo).st = 2 := by
        rw [cutR, hget, f1o]
        split
        · decide
        · intro h2
          rw [h0] at hc
          unfold frC at hc
          rw [hget, if_pos h2] at hc
          obtain ⟨rc, g1, -⟩ := get_some h2 (by decide)
          have := hRs _ _ g1
          omega
      refine ⟨_, ?_, rfl⟩
      rw [n1]
      unfold TS.writ
      rw [if_neg hns]
      have eG : put T.G r.tag none = wrG T (k + 1) c := by
        funext t
        unfold wrG
        by_cases h : t = r.tag
        · subst h; rw [put_same, hGt]; simp
        · rw [put_other _ _ h]
          cases a : T.G t with
          | none => rfl
          | some i =>
            have h1 : i ≠ k + 1 := fun e => h (isx t (by rw [a, e]))
            have h2 : i ≠ c := fun e => by
              obtain ⟨r', b, -⟩ := I.gm t i a
              rw [e, h0, hR0] at b
              cases b
            simp [h1, h2]
      refine TS.ext rfl rfl (by rw [f1n, eG]) ?_ (by rw [f1G, eG]) hcut
      rw [f1R]
      funext i
      unfold wrR
      by_cases a : i = k + 1
      · rw [a, put_same]; simp
      · rw [put_other _ _ a]
        by_cases b : i = c
        · rw [b, h0, hR0]; simp
        · simp [a, b]
    · -- the cancelled one, too
      have gc : T.get c = rc := by unfold TS.get; rw [g1]; rfl
      have hss : ((T.cut.free (k + 1)).get (T.cut.get (k + 1)).fo).st = 2 := by
        rw [cutR, hget, f1o, hfo, if_neg hne, gc]
        exact g2
      refine ⟨_, ?_, rfl⟩
      rw [n1]
      unfold TS.writ
      rw [if_pos hss, cutR, hget, hfo]
      have hgc : (T.cut.free (k + 1)).get c = rc := by rw [f1o, if_neg hne, gc]
      have hYt : rc.tag = Y.tag := by
        obtain ⟨-, Y', a1, a2, -⟩ := I.rq _ rc g1
        rw [g4] at a1
        cases a1
        exact a2
      have hYx : Y.tag ≠ r.tag := fun e => by rw [e, hGt] at g8; cases g8; exact hne rfl
      have isc : ∀ t, T.G t = some c → t = Y.tag := fun t h => by
        obtain ⟨r', h1, h2⟩ := I.gm t _ h
        rw [g1] at h1
        cases h1
        rw [← hYt]
        exact h2.symm
      have eG : put (put T.G r.tag none) Y.tag none = wrG T (k + 1) c := by
        funext t
        unfold wrG
        by_cases h : t = Y.tag
        · subst h; rw [put_same, g8]; simp
        · rw [put_other _ _ h]
          by_cases h' : t = r.tag
          · subst h'; rw [put_same, hGt]; simp
          · rw [put_other _ _ h']
            cases a : T.G t with
            | none => rfl
            | some i =>
              have h1 : i ≠ k + 1 := fun e => h' (isx t (by rw [a, e]))
              have h2 : i ≠ c := fun e => h (isc t (by rw [a, e]))
              simp [h1, h2]
      have hG2 : put T.G r.tag none Y.tag = some c := by rw [put_other _ _ hYx]; exact g8
      refine TS.ext rfl rfl ?_ ?_ ?_ hcut
      · show (if ((T.cut.free (k + 1)).G ((T.cut.free (k + 1)).get c).tag).isSome = true then (T.cut.free (k + 1)).nG - 1 else (T.cut.free (k + 1)).nG) = _
        rw [hgc, hYt, f1G, hG2, f1n]
        rw [← eG, count_drop (I.tagl _ _ g4) hG2]
        rfl
      · show put (T.cut.free (k + 1)).R c none = _
        rw [f1R]
        funext i
        unfold wrR
        by_cases a : i = c
        · rw [a, put_same]; simp
        · rw [put_other _ _ a]
          by_cases b : i = k + 1
          · rw [b, put_same]; simp
          · rw [put_other _ _ b]; simp [a, b]
      · show put (T.cut.free (k + 1)).G ((T.cut.free (k + 1)).get c).tag none = _
        rw [hgc, hYt, f1G]
        exact eG
  obtain ⟨g, eT, hg⟩ := eT
  refine ⟨k, x, ⟨hk, hx, by rw [htag, hxt], hen, hwr, ?_, ?_, ?_, ?_⟩⟩
  · have := I.hm x.tag hx16
    rw [hG] at this
    rw [this]
    simp
  · rcases hs with ⟨a, -, b | b | b | b⟩ | ⟨a, -, -, -, b⟩
    · omega
    · omega
    · omega
    · rcases hkind with ⟨-, h⟩ | ⟨h, -⟩
      · exact Or.inl ⟨a, h, b.2.2.2, b.2.1⟩
      · omega
    · rcases hkind with ⟨h, -⟩ | ⟨-, h⟩
      · omega
      · exact Or.inr ⟨a, h⟩
  · intro hfl y Y hnm hY
    refine ⟨fun hYf => ?_, fun hYf => ⟨?_, fun i z hi hz hzf hzn => ?_⟩⟩
    · obtain ⟨z, a, b⟩ := dep y ⟨x, y, Y, hx, hfl, hnm, hY, Or.inl ⟨rfl, Or.inl hYf⟩⟩
      rw [hY] at a
      cases a
      exact b
    · cases hca : Y.ca with
      | true => exact Or.inl rfl
      | false =>
        obtain ⟨z, a, b⟩ := dep y ⟨x, y, Y, hx, hfl, hnm, hY, Or.inl ⟨rfl, Or.inr hca⟩⟩
        rw [hY] at a
        cases a
        rcases (I.wrn y Y hY b).2 with h | ⟨h, -⟩
        · rw [hYf] at h; cases h
        · exact Or.inr ⟨h, b⟩
    · obtain ⟨z', a, b⟩ := dep i ⟨x, y, Y, hx, hfl, hnm, hY, Or.inr ⟨hYf, hi, z, hz, hzf, hzn⟩⟩
      rw [hz] at a
      cases a
      exact b
  · intro H' hH hH'
    rw [eT]
    have hF : ∀ j, put F k (some { x with wr := true }) j = if j = k then some { x with wr := true } else F j := fun j => rfl
    have hR : ∀ i, wrR T (k + 1) c i = if i = k + 1 ∨ i = c then none else T.R i := fun i => rfl
    have hR' : ∀ i q', wrR T (k + 1) c i = some q' → i ≠ k + 1 ∧ i ≠ c ∧ T.R i = some q' := fun i q' h => by
      rw [hR] at h
      split at h
      · cases h
      · rename_i hne; exact ⟨fun e => hne (Or.inl e), fun e => hne (Or.inr e), h⟩
    have hR2 : ∀ i q', T.R i = some q' → i ≠ k + 1 → i ≠ c → wrR T (k + 1) c i = some q' := fun i q' h h1 h2 => by
      rw [hR, if_neg (fun h => by rcases h with h | h; exact h1 h; exact h2 h)]; exact h
    have hnc : ∀ i q', T.R i = some q' → q'.st ≠ 2 → i ≠ c := fun i q' h h2 e => by
      subst e
      rcases hcn with h0 | ⟨-, -, -, -, rc, Y, g1, g2, -⟩
      · have := hRs _ _ h; omega
      · rw [h] at g1; cases g1; exact h2 g2
    have hGs : ∀ t i, wrG T (k + 1) c t = some i ↔ T.G t = some i ∧ i ≠ k + 1 ∧ i ≠ c := fun t i => by
      unfold wrG
      cases T.G t with
      | none => simp
      | some j =>
        simp only [Option.some.injEq]
        split
        · rename_i h
          simp only [reduceCtorEq, false_iff]
          rintro ⟨rfl, a, b⟩
          rcases h with h | h
          · exact a h
          · exact b h
        · rename_i h
          simp only [Option.some.injEq]
          exact ⟨fun e => by subst e; exact ⟨rfl, fun e => h (Or.inl e), fun e => h (Or.inr e)⟩, fun e => e.1⟩
    have hF' : ∀ j z, put F k (some { x with wr := true }) j = some z → ∃ z0, F j = some z0 ∧ z.tag = z0.tag ∧ z.fl = z0.fl ∧ z.nm = z0.nm ∧ z.ca = z0.ca ∧ z.de = z0.de ∧ z.an = z0.an ∧ (z0.wr = true → z.wr = true) ∧ (j ≠ k → z = z0) := fun j z hz => by
      rw [hF] at hz
      split at hz
      · rename_i e; subst e; cases hz; exact ⟨x, hx, rfl, rfl, rfl, rfl, rfl, rfl, fun _ => rfl, fun h => absurd rfl h⟩
      · exact ⟨z, hz, rfl, rfl, rfl, rfl, rfl, rfl, id, fun _ => rfl⟩
    have hF2 : ∀ j z0, F j = some z0 → ∃ z, put F k (some { x with wr := true }) j = some z ∧ z.tag = z0.tag ∧ z.fl = z0.fl ∧ z.nm = z0.nm ∧ z.ca = z0.ca ∧ z.de = z0.de ∧ z.an = z0.an ∧ (z0.wr = true → z.wr = true) ∧ (j ≠ k → z = z0) := fun j z0 hz => by
      rw [hF]
      by_cases e : j = k
      · subst e; rw [hx] at hz; cases hz; exact ⟨_, if_pos rfl, rfl, rfl, rfl, rfl, rfl, rfl, fun _ => rfl, fun h => absurd rfl h⟩
      · exact ⟨z0, by rw [if_neg e]; exact hz, rfl, rfl, rfl, rfl, rfl, rfl, id, fun _ => rfl⟩
    have hxca : x.ca = false := by
      rcases hs with ⟨-, -, b | b | b | b⟩ | ⟨-, b, -⟩
      · omega
      · omega
      · omega
      · exact b.2.1
      · exact b
    have hxx : x.fl = true ∨ (x.de = true ∧ x.an = true) := by
      rcases hs with ⟨a, -, b | b | b | b⟩ | ⟨a, -⟩
      · omega
      · omega
      · omega
      · exact Or.inr b.2.2
      · exact Or.inl a
    constructor
    case dom => intro j; rw [hF]; have := I.dom j; split <;> grind
    case last => exact I.last
    case most => exact I.most
    case tagl => have := I.tagl; grind
    case nml => have := I.nml; grind
    case flb => have := I.flb; intro j z hz hfl; grind
    case caw => have := I.caw; intro j z hz hc2; grind
    case and_ => have := I.and_; intro j z hz h2; grind
    case wrn =>
      intro j z hz hw
      show wrR T (k + 1) c (j + 1) = none ∧ _
      by_cases e : j = k
      · subst e
        rw [hF, if_pos rfl] at hz
        cases hz
        exact ⟨by rw [hR, if_pos (Or.inl rfl)], hxx⟩
      · rw [hF, if_neg e] at hz
        have := I.wrn j z hz hw
        refine ⟨?_, this.2⟩
        rw [hR]
        split
        · rfl
        · exact this.1
    case rq =>
      intro i q' hq'
      obtain ⟨a1, a2, a3⟩ := hR' i q' hq'
      obtain ⟨b1, z0, b2, b3, b4, b5, b6⟩ := I.rq i q' a3
      refine ⟨b1, z0, by rw [hF, if_neg (by omega)]; exact b2, b3, b4, (hGs _ _).2 ⟨b5, a1, a2⟩, b6⟩
    case gone =>
      intro j z hz hn
      have hn2 : wrR T (k + 1) c (j + 1) = none := hn
      by_cases e : j = k
      · subst e
        rw [hF, if_pos rfl] at hz
        cases hz
        exact Or.inl rfl
      · rw [hF, if_neg e] at hz
        rw [hR] at hn2
        split at hn2
        · rename_i h
          rcases h with h | h
          · omega
          · rcases hcn with h0 | ⟨-, -, -, -, rc, Y, g1, g2, g3, g4, g5, g6, -⟩
            · omega
            · rw [show c - 1 = j by omega, hz] at g4
              cases g4
              exact Or.inr ⟨g6, g5⟩
        · exact I.gone j z hz hn2
    case gm =>
      intro t i h
      obtain ⟨h1, h2, h3⟩ := (hGs t i).1 h
      obtain ⟨r', h4, h5⟩ := I.gm t i h1
      exact ⟨r', hR2 _ _ h4 h2 h3, h5⟩
    case hm =>
      intro t ht
      rw [hH t ht]
      show _ = some (match wrG T (k + 1) c t with | some i => (i : Int) - 1 | none => -1)
      have hm := I.hm t ht
      by_cases e1 : t = x.tag
      · rw [if_pos e1, e1]
        unfold wrG
        rw [hG]
        simp
      · rw [if_neg e1]
        by_cases hcase : x.fl = true ∧ ∃ (y : Nat) (Y : Th), x.nm = (y : Int) ∧ F y = some Y ∧ Y.ca = true ∧ t = Y.tag ∧ H t = some (y : Int)
        · rw [if_pos hcase]
          obtain ⟨hfl, y, Y, g1, g2, g3, g4, g5⟩ := hcase
          rw [hm] at g5
          have hGt : T.G t = some (y + 1) := by
            cases a : T.G t with
            | none => rw [a] at g5; simp at g5
            | some i => rw [a] at g5; simp at g5; congr 1; omega
          have hYf : Y.fl = false := by
            cases a : Y.fl with
            | false => rfl
            | true => have := (I.flb y Y g2 a).1; rw [g3] at this; cases this
          have h6 : r.st = 6 := by
            rcases hs with ⟨a, -⟩ | ⟨-, -, -, -, b⟩
            · rw [hfl] at a; cases a
            · omega
          have hfo := (I.fo6 k x r hx hr h6).2 y Y g1 g2 hYf g3
          have hcy : c = y + 1 := by
            rw [hc]
            unfold frC
            rw [hget, hfo]
            obtain ⟨r', a1, a2⟩ := I.gm t _ hGt
            obtain ⟨-, Y', a3, -, -, -, a4⟩ := I.rq _ r' a1
            rw [Nat.add_sub_cancel, g2] at a3
            cases a3
            have : r'.st = 2 := by
              rcases a4 with ⟨-, -, b | b | b | b⟩ | ⟨b, -⟩
              · rw [g3] at b; cases b.2.1
              · exact b.1
              · rw [g3] at b; cases b.2.1
              · rw [g3] at b; cases b.2.1
              · rw [hYf] at b; cases b
            rw [if_pos]
            unfold TS.get
            rw [a1]
            exact this
          unfold wrG
          rw [hGt]
          simp [hcy]
        · rw [if_neg hcase, hm]
          unfold wrG
          cases a : T.G t with
          | none => rfl
          | some i =>
            have h1 : i ≠ k + 1 := fun e => by
              obtain ⟨r', h1, h2⟩ := I.gm t i a
              rw [e, hr] at h1
              cases h1
              exact e1 (by rw [← hxt]; exact h2.symm)
            have h2 : i ≠ c := fun e => by
              rcases hcn with h0 | ⟨-, hfl, -, hfo, rc, Y, g1, g2, g3, g4, g5, g6, g7, g8⟩
              · obtain ⟨r', b, -⟩ := I.gm t i a
                rw [e, h0, hR0] at b
                cases b
              · apply hcase
                refine ⟨hfl, c - 1, Y, by omega, g4, g5, ?_, ?_⟩
                · obtain ⟨r', b1, b2⟩ := I.gm t i a
                  rw [e] at b1
                  obtain ⟨-, Y', b3, b4, -⟩ := I.rq _ r' b1
                  rw [g4] at b3
                  cases b3
                  rw [← b4]
                  exact b2.symm
                · rw [hm, a]
                  simp only [Option.some.injEq]
                  omega
            simp [h1, h2]
    case hl => exact hH'
    case cnt => exact hg.symm
    case row1 =>
      intro f hf
      have hf2 : f ∈ T.row := by rw [hrow]; exact List.mem_cons_of_mem _ hf
      refine ⟨(I.row1 f hf2).1, fun hfa => ?_⟩
      obtain ⟨q', h2, h3, h4, h5⟩ := (I.row1 f hf2).2 hfa
      have hd := I.rowd
      rw [hrow, List.filter_cons_of_pos (by simp [ha]), List.map_cons, List.nodup_cons] at hd
      have hne : f.id ≠ k + 1 := fun e' => by
        apply hd.1
        rw [hk, ← e']
        exact List.mem_map.2 ⟨f, List.mem_filter.2 ⟨hf, by simp [hfa]⟩, rfl⟩
      exact ⟨q', hR2 _ _ h2 hne (hnc _ q' h2 (by rcases h5 with ⟨h5, -⟩ | ⟨h5, -⟩ <;> omega)), h3, h4, h5⟩
    case rowd =>
      have hd := I.rowd
      rw [hrow, List.filter_cons_of_pos (by simp [ha]), List.map_cons, List.nodup_cons] at hd
      exact hd.2
    case rowc =>
      intro i q' hq' hst'
      obtain ⟨a1, a2, a3⟩ := hR' i q' hq'
      obtain ⟨f, h1, h2, h3⟩ := I.rowc i q' a3 hst'
      rw [hrow] at h1
      rcases List.mem_cons.1 h1 with rfl | h1
      · exact absurd (h3.symm.trans hk) a1
      · exact ⟨f, h1, h2, h3⟩
    case saidc =>
      have := I.saidc
      rw [hrow, List.countP_cons_of_neg (by simp [ha])] at this
      exact this
    case ord =>
      intro j d hd A f B hr2 hf hid
      have hd2 := Dep.flag (x' := { x with wr := true }) hx rfl rfl rfl hd
      rcases I.ord j d hd2 (e :: A) f B (by rw [hrow]; rw [show q = A ++ f :: B from hr2]; rfl) hf hid with ⟨z, h1, h2⟩ | ⟨f', h1, h2, h3⟩
      · obtain ⟨z', c1, -, -, -, -, -, -, c8, -⟩ := hF2 d z h1
        exact Or.inl ⟨z', c1, c8 h2⟩
      · rcases List.mem_cons.1 h1 with rfl | h1
        · have : d = k := by omega
          subst this
          exact Or.inl ⟨_, by rw [hF, if_pos rfl], rfl⟩
        · exact Or.inr ⟨f', h1, h2, h3⟩
    case wait =>
      intro j z q' hz hq' hs5
      obtain ⟨a1, a2, a3⟩ := hR' _ q' hq'
      obtain ⟨z0, h1, h2, h3, h4, h5, h6, h7, h8, h9⟩ := hF' j z hz
      obtain ⟨ro, b1, b2, y, b3, Y, b4, b5, b6⟩ := I.wait j z0 q' h1 a3 hs5
      have b2' : ro.st = 3 := by
        rcases b2 with b2 | ⟨b2, -⟩
        · exact b2
        · cases b2
      obtain ⟨Y', c1, c2, c3, -⟩ := hF2 _ Y b4
      refine ⟨ro, hR2 _ _ b1 (fun e' => by rw [e', hr] at b1; cases b1; omega) (hnc _ _ b1 (by omega)), Or.inl b2', y, by rw [h4]; exact b3, Y', c1, by rw [c3]; exact b5, fun h ry hry hs' => ?_⟩
      exact b6 (by rw [← c3]; exact h) ry (hR' _ ry hry).2.2 hs'
    case named =>
      intro j z y Y hz hfl hnm hY hYf
      obtain ⟨z0, h1, h2, h3, h4, -⟩ := hF' j z hz
      obtain ⟨Y0, c1, c2, c3, c4, c5, c6, -⟩ := hF' y Y hY
      rw [c5, c6]
      exact I.named j z0 y Y0 h1 (by rw [← h3]; exact hfl) (by rw [← h4]; exact hnm) c1 (by rw [← c3]; exact hYf)
    case fo6 =>
      intro j z q' hz hq' hs6
      obtain ⟨a1, a2, a3⟩ := hR' _ q' hq'
      obtain ⟨z0, h1, h2, h3, h4, -⟩ := hF' j z hz
      obtain ⟨b1, b2⟩ := I.fo6 j z0 q' h1 a3 hs6
      refine ⟨?_, fun y Y hy hY hYf hYc => ?_⟩
      · rcases b1 with b1 | ⟨O, b3, b4, b5, b6⟩
        · exact Or.inl b1
        · obtain ⟨O', c1, c2, c3, c4, c5, c6, -⟩ := hF2 _ O b3
          refine Or.inr ⟨O', c1, b4, by rw [c3]; exact b5, ?_⟩
          rw [c5, c6, h4]
          exact b6
      · obtain ⟨Y0, c1, c2, c3, c4, c5, -⟩ := hF' y Y hY
        exact b2 y Y0 (by rw [← h4]; exact hy) c1 (by rw [← c3]; exact hYf) (by rw [← c5]; exact hYc)
    case canc =>
      intro i q' hq' hs2
      obtain ⟨a1, a2, a3⟩ := hR' _ q' hq'
      obtain ⟨j, z, rk, b1, b2, b3, b4, b5⟩ := I.canc i q' a3 hs2
      obtain ⟨z', c1, c2, c3, c4, -⟩ := hF2 _ z b1
      refine ⟨j, z', rk, c1, by rw [c3]; exact b2, by rw [c4]; exact b3, hR2 _ _ b4 (fun e' => ?_) (hnc _ _ b4 (by omega)), b5⟩
      -- the one that names it is not the one that is written now
      have ej : j = k := by omega
      subst ej
      rw [hx] at b1
      cases b1
      rw [hr] at b4
      cases b4
      obtain ⟨i1, Y, d1, d2, -, -, d3⟩ := I.rq i q' a3
      have hYf : Y.fl = false ∧ Y.ca = true := by
        rcases d3 with ⟨a, -, b | b | b | b⟩ | ⟨a, -, -, -, b | b⟩ <;> first | omega | exact ⟨a, b.2.1⟩
      have hfo := (I.fo6 j x r hx hr b5).2 (i - 1) Y (by omega) d1 hYf.1 hYf.2
      apply a2
      rw [hc]
      unfold frC
      rw [hget, hfo, show i - 1 + 1 = i by omega]
      unfold TS.get
      rw [a3]
      exact (if_pos hs2).symm
end
end Tg
end Go.Proofs.Ytjogpafbiackbaa
