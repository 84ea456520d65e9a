/- tags: a flush begins. -/
import Derived.Test.YtjogpafbiackbaaThp
namespace Go.Proofs.Ytjogpafbiackbaa
set_option linter.unusedVariables false
open Go.RowKit Go.Shelf
namespace Tg
section
variable {pend : Option Nat} {T : TS} {n : Nat} {F : Nat → Option Th} {H : Nat → Option Int} {said : Nat}
/-- Who is cancelled (an id, or nought). -/
def canF (F : Nat → Option Th) (c : Nat) : Nat → Option Th := fun j => (F j).map fun z => { z with ca := z.ca || decide (j + 1 = c) }
def canR (R : Nat → Option Rq) (c : Nat) : Nat → Option Rq := fun id => (R id).map fun q => if id = c then ⟨q.tag, 2, q.fo⟩ else q
/-- A flush that is taken: its name, its state, whose it is, whom it cancels. -/
def FlC (T : TS) (nm : Int) (s f c : Nat) : Prop :=
  (nm = -1 ∧ s = 6 ∧ f = 0 ∧ c = 0) ∨ ∃ (y : Nat) (r : Rq), nm = (y : Int) ∧ T.R (y + 1) = some r ∧
    ((r.st = 1 ∧ s = 6 ∧ f = y + 1 ∧ c = y + 1) ∨ (r.st = 2 ∧ s = 6 ∧ f = y + 1 ∧ c = 0) ∨ (r.st = 3 ∧ s = 5 ∧ f = y + 1 ∧ c = 0) ∨ (r.st = 4 ∧ s = 6 ∧ f = 0 ∧ c = 0) ∨ (r.st = 5 ∧ s = 5 ∧ f = r.fo ∧ c = 0) ∨ (r.st = 6 ∧ s = 6 ∧ f = 0 ∧ c = 0))
def flT (T : TS) (n tag s f c : Nat) : TS := { T with last := n + 1, nG := T.nG + 1, G := put T.G tag (some (n + 1)), R := put (canR T.R c) (n + 1) (some ⟨tag, s, f⟩), row := if s = 6 then T.row ++ [⟨109, tag, ⟨#[]⟩, n + 1, false⟩] else T.row }
theorem Inv.flush (I : Inv none T n F H said) {tag s f c : Nat} {nm : Int} (ht : tag < 16) (hE : refE T tag (n + 1) = 0) (hC : FlC T nm s f c) :
    Inv none (flT T n tag s f c) (n + 1) (put (canF F c) n (some ⟨tag, true, nm, false, false, false, false⟩)) (put H tag (some (n : Int))) said := by
  obtain ⟨-, -, hG, -⟩ := refE_zero hE
  have hRn : T.R (n + 1) = none := by
    cases q : T.R (n + 1) with
    | none => rfl
    | some r => have := (I.rn q).2; omega
  have hDs : ∀ k x, F k = some x → k < n := fun k x h => (I.dom k).1 (by rw [h]; rfl)
  have hRs : ∀ id r, T.R id = some r → 1 ≤ id ∧ id ≤ n := fun id r h => I.rn h
  have hs56 : s = 5 ∨ s = 6 := by
    rcases hC with ⟨-, h, -⟩ | ⟨y, r, -, -, ⟨-, h, -⟩ | ⟨-, h, -⟩ | ⟨-, h, -⟩ | ⟨-, h, -⟩ | ⟨-, h, -⟩ | ⟨-, h, -⟩⟩ <;> simp [h]
  -- who is cancelled is open
  have hc : c = 0 ∨ (1 ≤ c ∧ c ≤ n ∧ ∃ r x, T.R c = some r ∧ r.st = 1 ∧ F (c - 1) = some x ∧ x.fl = false ∧ x.ca = false ∧ x.de = false ∧ x.an = false ∧ x.wr = false ∧ r.fo = 0 ∧ nm = (c : Int) - 1 ∧ s = 6 ∧ f = c) := by
    rcases hC with ⟨-, -, -, h⟩ | ⟨y, r, h0, h1, ⟨h2, h3, h4, h5⟩ | ⟨-, -, -, h⟩ | ⟨-, -, -, h⟩ | ⟨-, -, -, h⟩ | ⟨-, -, -, h⟩ | ⟨-, -, -, h⟩⟩
    · exact Or.inl h
    · obtain ⟨g0, x, g1, -, g2, -, g3⟩ := I.rq _ r h1
      have := hRs _ _ h1
      refine Or.inr ⟨by omega, by omega, r, x, by rw [h5]; exact h1, h2, by rw [h5]; exact g1, ?_⟩
      rcases g3 with ⟨a, b, e | e | e | e⟩ | ⟨a, b, e, e', e'' | e''⟩ <;> first | (exfalso; omega) | exact ⟨a, e.2.1, e.2.2.1, e.2.2.2, g2, b, by omega, h3, by omega⟩
    all_goals exact Or.inl h
  have hF : ∀ j, put (canF F c) n (some (⟨tag, true, nm, false, false, false, false⟩ : Th)) j = if j = n then some ⟨tag, true, nm, false, false, false, false⟩ else (F j).map fun z => { z with ca := z.ca || decide (j + 1 = c) } := fun j => rfl
  have hR : ∀ id, (flT T n tag s f c).R id = if id = n + 1 then some ⟨tag, s, f⟩ else (T.R id).map fun q => if id = c then ⟨q.tag, 2, q.fo⟩ else q := fun id => rfl
  have hGG : ∀ t, (flT T n tag s f c).G t = if t = tag then some (n + 1) else T.G t := fun t => rfl
  have hF' : ∀ j z, put (canF F c) n (some (⟨tag, true, nm, false, false, false, false⟩ : Th)) j = some z → (j = n ∧ z = ⟨tag, true, nm, false, false, false, false⟩) ∨ (j < n ∧ ∃ z0, F j = some z0 ∧ z = { z0 with ca := z0.ca || decide (j + 1 = c) }) := fun j z hz => by
    rw [hF] at hz
    split at hz
    · rename_i e; cases hz; exact Or.inl ⟨e, rfl⟩
    · cases q : F j with
      | none => rw [q] at hz; cases hz
      | some z0 => rw [q] at hz; cases hz; exact Or.inr ⟨hDs _ _ q, z0, rfl, rfl⟩
  have hF2 : ∀ j z0, F j = some z0 → put (canF F c) n (some (⟨tag, true, nm, false, false, false, false⟩ : Th)) j = some { z0 with ca := z0.ca || decide (j + 1 = c) } := fun j z0 hz => by
    rw [hF, if_neg (by have := hDs _ _ hz; omega), hz]; rfl
  have hR' : ∀ id q, (flT T n tag s f c).R id = some q → (id = n + 1 ∧ q = ⟨tag, s, f⟩) ∨ (id ≤ n ∧ ∃ q0, T.R id = some q0 ∧ q.tag = q0.tag ∧ q.fo = q0.fo ∧ (id = c → q.st = 2) ∧ (id ≠ c → q = q0)) := fun id q hq => by
    rw [hR] at hq
    split at hq
    · rename_i e; cases hq; exact Or.inl ⟨e, rfl⟩
    · cases h : T.R id with
      | none => rw [h] at hq; cases hq
      | some q0 =>
        rw [h] at hq
        simp only [Option.map_some, Option.some.injEq] at hq
        refine Or.inr ⟨(hRs _ _ h).2, q0, rfl, ?_⟩
        split at hq <;> subst hq
        · rename_i e; exact ⟨rfl, rfl, fun _ => rfl, fun h => absurd e h⟩
        · rename_i e; exact ⟨rfl, rfl, fun h => absurd h e, fun _ => rfl⟩
  have hR2 : ∀ id q0, T.R id = some q0 → id ≠ c → (flT T n tag s f c).R id = some q0 := fun id q0 h hne => by
    rw [hR, if_neg (by have := hRs _ _ h; omega), h]
    simp [hne]
  have hnotc : ∀ id q, T.R id = some q → q.st ≠ 1 → id ≠ c := fun id q h hs e => by
    subst e
    rcases hc with h0 | ⟨-, -, r, x, h1, h2, -⟩
    · have := hRs _ _ h; omega
    · rw [h] at h1; cases h1; exact hs h2
  have hrow : ∀ e ∈ T.row, e.apart = false → e.id ≠ n + 1 ∧ e.id ≠ c := fun e he ha => by
    obtain ⟨q, h2, h3, h4, h5⟩ := (I.row1 e he).2 ha
    have := hRs _ _ h2
    exact ⟨by omega, hnotc _ q h2 (by rcases h5 with ⟨h5, -⟩ | ⟨h5, -⟩ <;> omega)⟩
  have hdep : ∀ k d, k < n → Dep (put (canF F c) n (some (⟨tag, true, nm, false, false, false, false⟩ : Th))) k d → Dep F k d := fun k d hk h => by
    obtain ⟨x1, y1, Y1, a1, a2, a3, a4, a5⟩ := h
    rcases hF' _ _ a1 with ⟨b1, -⟩ | ⟨-, x0, b1, rfl⟩
    · omega
    have hy := I.nml _ _ b1
    simp only at a2 a3
    rcases hF' _ _ a4 with ⟨b2, -⟩ | ⟨-, Y0, b2, rfl⟩
    · omega
    refine ⟨x0, y1, Y0, b1, a2, a3, b2, ?_⟩
    rcases a5 with ⟨a5, a6⟩ | ⟨a5, a6, z, a7, a8, a9⟩
    · refine Or.inl ⟨a5, ?_⟩
      rcases a6 with a6 | a6
      · exact Or.inl a6
      · exact Or.inr (by simp only [Bool.or_eq_false_iff] at a6; exact a6.1)
    · rcases hF' _ _ a7 with ⟨b3, -⟩ | ⟨-, z0, b3, rfl⟩
      · omega
      exact Or.inr ⟨a5, a6, z0, b3, a8, a9⟩
  constructor
  case dom =>
    intro j
    have := I.dom j
    rw [hF]
    split
    · rename_i e; subst e; simp
    · rw [isSome_map, this]; omega
  case last => rfl
  case most => exact I.most
  case tagl =>
    intro j z hz
    rcases hF' j z hz with ⟨-, rfl⟩ | ⟨-, z0, h, rfl⟩
    · exact ht
    · exact I.tagl j z0 h
  case nml =>
    intro j z hz
    rcases hF' j z hz with ⟨rfl, rfl⟩ | ⟨-, z0, h, rfl⟩
    · rcases hC with ⟨h, -⟩ | ⟨y, r, h0, h1, -⟩
      · subst h; exact ⟨by simp, by simp; omega⟩
      · have := hRs _ _ h1; simp only; omega
    · exact I.nml j z0 h
  case flb =>
    intro j z hz hfl
    rcases hF' j z hz with ⟨rfl, rfl⟩ | ⟨-, z0, h, rfl⟩
    · exact ⟨rfl, rfl, rfl⟩
    · have := I.flb j z0 h hfl
      refine ⟨?_, this.2⟩
      have hne : j + 1 ≠ c := fun e => by
        rcases hc with h0 | ⟨-, -, r, x, -, -, h3, h4, -⟩
        · omega
        · rw [show c - 1 = j by omega, h] at h3
          cases h3
          simp only at hfl
          rw [h4] at hfl
          cases hfl
      simp [this.1, hne]
  case caw =>
    intro j z hz hca
    rcases hF' j z hz with ⟨rfl, rfl⟩ | ⟨-, z0, h, rfl⟩
    · cases hca
    · by_cases e : j + 1 = c
      · rcases hc with h0 | ⟨-, -, r, x, -, -, h3, h4, h5, h6, h7, h8, -⟩
        · omega
        · rw [show c - 1 = j by omega, h] at h3
          cases h3
          exact ⟨h6, h7, h8⟩
      · simp only [e, decide_false, Bool.or_false] at hca
        exact I.caw j z0 h hca
  case and_ =>
    intro j z hz han
    rcases hF' j z hz with ⟨rfl, rfl⟩ | ⟨-, z0, h, rfl⟩
    · cases han
    · exact I.and_ j z0 h han
  case wrn =>
    intro j z hz hw
    rcases hF' j z hz with ⟨rfl, rfl⟩ | ⟨hj, z0, h, rfl⟩
    · cases hw
    · have := I.wrn j z0 h hw
      exact ⟨by rw [hR, if_neg (by omega), this.1]; rfl, this.2⟩
  case rq =>
    intro id q hq
    rcases hR' id q hq with ⟨rfl, rfl⟩ | ⟨hid, q0, a1, a2, a3, a4, a5⟩
    · refine ⟨by omega, _, by rw [hF, if_pos (by omega)], rfl, rfl, by rw [hGG, if_pos rfl], Or.inr ⟨rfl, rfl, rfl, rfl, hs56⟩⟩
    · obtain ⟨h1, x, h2, h3, h4, h5, h6⟩ := I.rq id q0 a1
      refine ⟨h1, _, hF2 _ _ h2, by rw [a2]; exact h3, h4, ?_, ?_⟩
      · show (flT T n tag s f c).G x.tag = some id
        rw [hGG, if_neg (fun q => by rw [q, hG] at h5; cases h5)]
        exact h5
      · by_cases e : id = c
        · have hfo : q.fo = q0.fo := a3
          rcases hc with h0 | ⟨-, -, r, x', g1, g2, g3, g4, g5, g6, g7, g8, g9, -⟩
          · omega
          · rw [e] at a1 h2
            rw [a1] at g1
            cases g1
            rw [h2] at g3
            cases g3
            exact Or.inl ⟨g4, by rw [hfo]; exact g9, Or.inr (Or.inl ⟨a4 e, by simp; right; omega, g6, g7⟩)⟩
        · rw [a5 e]
          have hne : ¬ (id - 1 + 1 = c) := by omega
          simpa [Stx, hne] using h6
  case gone =>
    intro j z hz hn
    rcases hF' j z hz with ⟨rfl, rfl⟩ | ⟨hj, z0, h, rfl⟩
    · rw [hR, if_pos rfl] at hn; cases hn
    · rw [hR, if_neg (by omega)] at hn
      have hn2 : T.R (j + 1) = none := by
        cases q : T.R (j + 1) with
        | none => rfl
        | some _ => rw [q] at hn; cases hn
      rcases I.gone j z0 h hn2 with h | ⟨h, h'⟩
      · exact Or.inl h
      · exact Or.inr ⟨h, by simp [h']⟩
  case gm =>
    intro t id h
    rw [hGG] at h
    split at h
    · rename_i e; cases h; exact ⟨_, by rw [hR, if_pos rfl], e.symm⟩
    · obtain ⟨q, h1, h2⟩ := I.gm t id h
      rw [hR, if_neg (by have := hRs _ _ h1; omega), h1]
      refine ⟨_, rfl, ?_⟩
      show (if id = c then (⟨q.tag, 2, q.fo⟩ : Rq) else q).tag = t
      split <;> exact h2
  case hm =>
    intro t ht'
    rw [hGG]
    have := I.hm t ht'
    by_cases e : t = tag
    · subst e; rw [if_pos rfl, put_same]; simp
    · rw [if_neg e, put_other _ _ e]; exact this
  case hl => have := I.hl; intro t h; rw [put_eq]; grind
  case cnt =>
    have := I.cnt
    show (List.range 16).countP (fun t => (put T.G tag (some (n + 1)) t).isSome) = T.nG + 1
    rw [count_put ht hG, this]
  case row1 =>
    intro e he
    have he2 : e ∈ T.row ∨ (s = 6 ∧ e = ⟨109, tag, ⟨#[]⟩, n + 1, false⟩) := by
      have he3 : e ∈ (if s = 6 then T.row ++ [⟨109, tag, ⟨#[]⟩, n + 1, false⟩] else T.row) := he
      split at he3
      · rename_i h6
        rw [List.mem_append, List.mem_singleton] at he3
        rcases he3 with h | h
        · exact Or.inl h
        · exact Or.inr ⟨h6, h⟩
      · exact Or.inl he3
    rcases he2 with he2 | ⟨h6, rfl⟩
    · refine ⟨(I.row1 e he2).1, fun h => ?_⟩
      obtain ⟨q, h2, h3⟩ := (I.row1 e he2).2 h
      exact ⟨q, hR2 _ _ h2 (hrow e he2 h).2, h3⟩
    · exact ⟨fun h => (by cases h), fun _ => ⟨⟨tag, s, f⟩, by rw [hR, if_pos rfl], rfl, rfl, Or.inr ⟨h6, rfl⟩⟩⟩
  case rowd =>
    show (((if s = 6 then T.row ++ [⟨109, tag, ⟨#[]⟩, n + 1, false⟩] else T.row).filter (fun e => !e.apart)).map (·.id)).Nodup
    split
    · rw [filter_snoc_ids _ _ rfl, List.nodup_append]
      refine ⟨I.rowd, by simp, fun a ha b hb => ?_⟩
      obtain ⟨e, he, rfl⟩ := List.mem_map.1 ha
      rw [List.mem_filter] at he
      simp only [List.mem_singleton] at hb
      subst hb
      exact (hrow e he.1 (by simpa using he.2)).1
    · exact I.rowd
  case rowc =>
    intro id q hq hs
    show ∃ e ∈ (if s = 6 then T.row ++ [⟨109, tag, ⟨#[]⟩, n + 1, false⟩] else T.row), _
    rcases hR' id q hq with ⟨rfl, rfl⟩ | ⟨hid, q0, a1, a2, a3, a4, a5⟩
    · simp only at hs
      rw [if_pos (by omega)]
      exact ⟨_, List.mem_append_right _ (List.mem_singleton.2 rfl), rfl, rfl⟩
    · by_cases e : id = c
      · have := a4 e; omega
      · obtain ⟨e', h1, h2⟩ := I.rowc id q0 a1 (by rw [← a5 e]; exact hs)
        refine ⟨e', ?_, h2⟩
        split
        · exact List.mem_append_left _ h1
        · exact h1
  case saidc =>
    show (if s = 6 then T.row ++ [⟨109, tag, ⟨#[]⟩, n + 1, false⟩] else T.row).countP _ = _
    split
    · rw [List.countP_append, I.saidc]; simp
    · exact I.saidc
  case ord =>
    intro j d hd A e B hr2 he hid
    have hr3 : (if s = 6 then T.row ++ [⟨109, tag, ⟨#[]⟩, n + 1, false⟩] else T.row) = A ++ e :: B := hr2
    have hold : ∀ B', T.row = A ++ e :: B' → Done (put (canF F c) n (some (⟨tag, true, nm, false, false, false, false⟩ : Th))) A d := fun B' hB => by
      have hm : e ∈ T.row := by rw [hB]; simp
      obtain ⟨q, h2, -⟩ := (I.row1 e hm).2 he
      have := hRs _ _ h2
      refine (I.ord j d (hdep j d (by omega) hd) A e B' hB he hid).mono (fun z h1 h2 => ⟨_, hF2 _ _ h1, h2⟩)
    split at hr3
    · rename_i h6
      rcases snoc_split hr3 with ⟨-, h2, hA⟩ | ⟨B', h2⟩
      · subst h2
        subst hA
        have : j = n := by simp at hid; omega
        subst this
        obtain ⟨x1, y1, Y1, a1, a2, a3, a4, a5⟩ := hd
        rcases hF' _ _ a1 with ⟨-, rfl⟩ | ⟨b1, -⟩
        · simp only at a3
          rcases hC with ⟨h, -⟩ | ⟨y, r, h0, h1, hcase⟩
          · omega
          have hyy : y1 = y := by omega
          subst hyy
          have hy1 := hRs _ _ h1
          obtain ⟨-, Y, g1, -, -, -, g2⟩ := I.rq _ r h1
          rw [Nat.add_sub_cancel] at g1
          rw [hF2 _ _ g1] at a4
          cases a4
          simp only at a5
          rcases a5 with ⟨a5, a6⟩ | ⟨a5, a6, z, a7, a8, a9⟩
          · subst a5
            have h46 : r.st = 4 ∨ r.st = 6 := by
              rcases g2 with ⟨b, -, e | e | e | e⟩ | ⟨b, -, -, -, e | e⟩
              · rcases hcase with h | h | h | h | h | h <;> first | omega | skip
                rw [b] at a6
                simp [h.2.2.2] at a6
              · rcases hcase with h | h | h | h | h | h <;> first | omega | skip
                rw [b] at a6
                simp [e.2.1] at a6
              · rcases hcase with h | h | h | h | h | h <;> omega
              · exact Or.inl e.1
              · rcases hcase with h | h | h | h | h | h <;> omega
              · exact Or.inr e
            exact Or.inr (I.rowc _ r h1 h46)
          · rcases hF' _ _ a7 with ⟨b3, -⟩ | ⟨-, z0, b3, rfl⟩
            · omega
            simp only at a8 a9
            cases hRd : T.R (d + 1) with
            | none =>
              rcases I.gone d z0 b3 hRd with h | ⟨h, -⟩
              · exact Or.inl ⟨_, hF2 _ _ b3, h⟩
              · rw [h] at a8; cases a8
            | some q =>
              obtain ⟨-, z', g3, -, -, -, g4⟩ := I.rq _ q hRd
              rw [Nat.add_sub_cancel, b3] at g3
              cases g3
              rcases g4 with ⟨b, -⟩ | ⟨-, -, -, -, e | e⟩
              · rw [a8] at b; cases b
              · obtain ⟨ro2, v1, v2, y2, v3, Y2, v4, v5, v6⟩ := I.wait d z0 q b3 hRd e
                have : y2 = y1 := by omega
                subst this
                rw [g1] at v4
                cases v4
                have := v5 a5
                rw [← this, h1] at v1
                cases v1
                rcases v2 with v2 | ⟨v2, -⟩
                · rcases hcase with h | h | h | h | h | h <;> omega
                · cases v2
              · exact Or.inr (I.rowc (d + 1) q hRd (Or.inr e))
        · omega
      · exact hold B' h2
    · exact hold B hr3
  case wait =>
    intro j z q hz hq hs5
    rcases hF' j z hz with ⟨rfl, rfl⟩ | ⟨hj, z0, h, rfl⟩
    · rcases hR' _ q hq with ⟨-, rfl⟩ | ⟨hid, -⟩
      · simp only at hs5
        rcases hC with ⟨-, h, -⟩ | ⟨y, r, h0, h1, hcase⟩
        · omega
        obtain ⟨-, Y, g1, -, -, -, g2⟩ := I.rq _ r h1
        rw [Nat.add_sub_cancel] at g1
        rcases hcase with hh | hh | hh | hh | hh | hh <;> first | omega | skip
        · have hne := hnotc _ r h1 (by omega)
          refine ⟨r, (by have := hR2 _ _ h1 hne; rw [← hh.2.2.1] at this; exact this), Or.inl hh.1, y, h0, _, hF2 _ _ g1, fun _ => by rw [hh.2.2.1], fun hfl => ?_⟩
          simp only at hfl
          rcases g2 with ⟨b, -⟩ | ⟨-, -, -, -, e | e⟩
          · rw [hfl] at b; cases b
          · omega
          · omega
        · obtain ⟨ro2, v1, v2, y2, v3, Y2, v4, v5, v6⟩ := I.wait y Y r g1 h1 hh.1
          have v2' : ro2.st = 3 := by
            rcases v2 with v2 | ⟨v2, -⟩
            · exact v2
            · cases v2
          refine ⟨ro2, (by have := hR2 _ _ v1 (hnotc _ _ v1 (by omega)); rw [← hh.2.2.1] at this; exact this), Or.inl v2', y, h0, _, hF2 _ _ g1, fun hfl => ?_, fun hfl ry hry hs' => ?_⟩
          · simp only at hfl
            rcases g2 with ⟨-, -, e | e | e | e⟩ | ⟨b, -⟩
            · omega
            · omega
            · omega
            · omega
            · rw [hfl] at b; cases b
          · have := hR2 _ _ h1 (hnotc _ r h1 (by omega))
            rw [this] at hry
            cases hry
            exact hh.2.2.1.symm
      · omega
    · rcases hR' _ q hq with ⟨hid, -⟩ | ⟨hid, q0, a1, a2, a3, a4, a5⟩
      · omega
      · have e : j + 1 ≠ c := fun e => by have := a4 e; omega
        rw [a5 e] at hs5 ⊢
        obtain ⟨ro2, v1, v2, y2, v3, Y2, v4, v5, v6⟩ := I.wait j z0 q0 h a1 hs5
        have v2' : ro2.st = 3 := by
          rcases v2 with v2 | ⟨v2, -⟩
          · exact v2
          · cases v2
        refine ⟨ro2, hR2 _ _ v1 (hnotc _ _ v1 (by omega)), Or.inl v2', y2, v3, _, hF2 _ _ v4, v5, fun hfl ry hry hs' => ?_⟩
        rcases hR' _ ry hry with ⟨hid', -⟩ | ⟨hid', ry0, b1, b2, b3, b4, b5⟩
        · have := hDs _ _ v4; omega
        · have e' : y2 + 1 ≠ c := fun e => by have := b4 e; omega
          rw [b5 e'] at hs' ⊢
          exact v6 hfl ry0 b1 hs'
  case named =>
    intro j z y Y hz hfl hnm hY hYf
    rcases hF' j z hz with ⟨rfl, rfl⟩ | ⟨hj, z0, h, rfl⟩
    · simp only at hnm
      rcases hC with ⟨h, -⟩ | ⟨y', r, h0, h1, hcase⟩
      · omega
      have hyy : y' = y := by omega
      subst hyy
      obtain ⟨-, Y0, g1, -, -, -, g2⟩ := I.rq _ r h1
      rw [Nat.add_sub_cancel] at g1
      rw [hF2 _ _ g1] at hY
      cases hY
      simp only at hYf ⊢
      rcases g2 with ⟨-, -, e | e | e | e⟩ | ⟨b, -⟩
      · rcases hcase with h | h | h | h | h | h <;> first | omega | skip
        exact Or.inl (by simp [h.2.2.2])
      · exact Or.inl (by simp [e.2.1])
      · exact Or.inr e.2.2.1
      · exact Or.inr e.2.2.1
      · rw [hYf] at b; cases b
    · have hy := I.nml j z0 h
      simp only at hnm hfl
      rcases hF' y Y hY with ⟨b, -⟩ | ⟨-, Y0, b1, rfl⟩
      · omega
      · rcases I.named j z0 y Y0 h hfl hnm b1 hYf with h | h
        · exact Or.inl (by simp [h])
        · exact Or.inr h
  case fo6 =>
    intro j z q hz hq hs6
    rcases hF' j z hz with ⟨rfl, rfl⟩ | ⟨hj, z0, h, rfl⟩
    · rcases hR' _ q hq with ⟨-, rfl⟩ | ⟨hid, -⟩
      · simp only at hs6 ⊢
        rcases hC with ⟨h, -, h2, -⟩ | ⟨y, r, h0, h1, hcase⟩
        · refine ⟨Or.inl h2, fun y Y hy => ?_⟩
          omega
        obtain ⟨-, Y, g1, -, -, -, g2⟩ := I.rq _ r h1
        rw [Nat.add_sub_cancel] at g1
        refine ⟨?_, fun y' Y' hy hY hYf hYc => ?_⟩
        · rcases hcase with hh | hh | hh | hh | hh | hh <;> first | omega | exact Or.inl hh.2.2.1 | skip
          · rcases g2 with ⟨b, -, e | e | e | e⟩ | ⟨b, -, -, -, e | e⟩ <;> first | omega | skip
            exact Or.inr ⟨{ Y with ca := Y.ca || decide (y + 1 = c) }, by rw [hh.2.2.1, Nat.add_sub_cancel]; exact hF2 _ _ g1, by omega, b, Or.inr ⟨by simp [hh.2.2.2], by omega⟩⟩
          · rcases g2 with ⟨b, -, e | e | e | e⟩ | ⟨b, -, -, -, e | e⟩ <;> first | omega | skip
            exact Or.inr ⟨{ Y with ca := Y.ca || decide (y + 1 = c) }, by rw [hh.2.2.1, Nat.add_sub_cancel]; exact hF2 _ _ g1, by omega, b, Or.inr ⟨by simp [e.2.1], by omega⟩⟩
        · have hyy : y' = y := by omega
          subst hyy
          rw [hF2 _ _ g1] at hY
          cases hY
          simp only at hYf hYc
          rcases hcase with hh | hh | hh | hh | hh | hh <;> first | exact hh.2.2.1 | omega | skip
          · exfalso
            rcases g2 with ⟨b, -, e | e | e | e⟩ | ⟨b, -, -, -, e | e⟩ <;> first | omega | skip
            simp [e.2.1, hh.2.2.2] at hYc
          · exfalso
            rcases g2 with ⟨b, -, e | e | e | e⟩ | ⟨b, -, -, -, e | e⟩ <;> first | omega | skip
            rw [hYf] at b
            cases b
      · omega
    · rcases hR' _ q hq with ⟨hid, -⟩ | ⟨hid, q0, a1, a2, a3, a4, a5⟩
      · omega
      · have e : j + 1 ≠ c := fun e => by have := a4 e; omega
        rw [a5 e] at hs6 ⊢
        obtain ⟨b1, b2⟩ := I.fo6 j z0 q0 h a1 hs6
        have hfl : z0.fl = true := by
          obtain ⟨-, z', g1, -, -, -, g2⟩ := I.rq _ q0 a1
          rw [Nat.add_sub_cancel, h] at g1
          cases g1
          rcases g2 with ⟨b, -, e | e | e | e⟩ | ⟨b, -⟩ <;> first | exact b | omega
        refine ⟨?_, fun y Y hy hY hYf hYc => ?_⟩
        · rcases b1 with b1 | ⟨O, b3, b4, b5, b6⟩
          · exact Or.inl b1
          · refine Or.inr ⟨_, hF2 _ _ b3, b4, b5, ?_⟩
            rcases b6 with b6 | ⟨b6, b7⟩
            · exact Or.inl b6
            · exact Or.inr ⟨by simp [b6], b7⟩
        · have hyb := I.nml j z0 h
          simp only at hy
          rcases hF' y Y hY with ⟨b, -⟩ | ⟨-, Y0, g1, rfl⟩
          · omega
          · simp only at hYf hYc
            by_cases e' : y + 1 = c
            · exfalso
              rcases hc with h0 | ⟨-, -, r, x, -, -, h3, h4, h5, h6, -⟩
              · omega
              · rw [show c - 1 = y by omega, g1] at h3
                cases h3
                rcases I.named j z0 y Y0 h hfl hy g1 hYf with h | h
                · rw [h5] at h; cases h
                · rw [h6] at h; cases h
            · simp only [e', decide_false, Bool.or_false] at hYc
              exact b2 y Y0 hy g1 hYf hYc
  case canc =>
    intro id q hq hs2
    rcases hR' id q hq with ⟨rfl, rfl⟩ | ⟨hid, q0, a1, a2, a3, a4, a5⟩
    · simp only at hs2; omega
    · by_cases e : id = c
      · rcases hc with h0 | ⟨-, -, r, x, -, -, -, -, -, -, -, -, -, h9, h10, -⟩
        · have := hRs _ _ a1; omega
        · exact ⟨n, _, _, by rw [hF, if_pos rfl], rfl, by rw [e]; exact h9, by rw [hR, if_pos rfl], h10⟩
      · rw [a5 e] at hs2
        obtain ⟨j, z, rk, b1, b2, b3, b4, b5⟩ := I.canc id q0 a1 hs2
        exact ⟨j, _, rk, hF2 _ _ b1, b2, b3, hR2 _ _ b4 (hnotc _ _ b4 (by omega)), b5⟩
end
end Tg
end Go.Proofs.Ytjogpafbiackbaa
