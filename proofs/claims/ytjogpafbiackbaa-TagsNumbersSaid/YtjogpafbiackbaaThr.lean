/- tags: what Flush tells; something is said; the first of the row is written. -/
import Derived.Test.YtjogpafbiackbaaThq
namespace Go.Proofs.Ytjogpafbiackbaa
set_option linter.unusedVariables false
open Go.RowKit Go.Shelf
namespace Tg
section
variable {pend : Option Nat} {T : TS} {n : Nat} {F : Nat → Option Th} {H : Nat → Option Int} {said : Nat}
theorem TS.ext {a b : TS} (h1 : a.most = b.most) (h2 : a.last = b.last) (h3 : a.nG = b.nG) (h4 : a.R = b.R) (h5 : a.G = b.G) (h6 : a.row = b.row) : a = b := by
  cases a; cases b; simp_all
/-- Whose a tag is. -/
def nmOf (T : TS) (old : Nat) : Int := match T.G old with | some id => (id : Int) - 1 | none => -1
theorem canR_zero (I : Inv none T n F H said) : canR T.R 0 = T.R := by
  funext i
  unfold canR
  cases q : T.R i with
  | none => rfl
  | some r => have := I.rn q; simp; omega
theorem flT_zero (I : Inv none T n F H said) (tag s f : Nat) (hG : T.G tag = none) : (if s = 6 then (T.take (n + 1) ⟨tag, s, f⟩).push (rfl_ ((T.take (n + 1) ⟨tag, s, f⟩).get (n + 1)).tag (n + 1)) else T.take (n + 1) ⟨tag, s, f⟩) = flT T n tag s f 0 := by
  have e1 : ((T.take (n + 1) ⟨tag, s, f⟩).get (n + 1)).tag = tag := by unfold TS.get TS.take; simp [put_same]
  have e2 : (if (T.G tag).isSome = true then T.nG else T.nG + 1) = T.nG + 1 := by rw [hG]; rfl
  rw [e1]
  unfold flT
  rw [canR_zero I]
  split
  · rename_i h
    exact TS.ext rfl rfl e2 rfl rfl rfl
  · rename_i h
    exact TS.ext rfl rfl e2 rfl rfl rfl
theorem fl_eq (I : Inv none T n F H said) {tag old : Nat} (hE : refE T tag (n + 1) = 0) : ∃ s f c, FlC T (nmOf T old) s f c ∧ T.fl tag old (n + 1) = flT T n tag s f c ∧ T.flA tag old (n + 1) = c := by
  obtain ⟨-, -, hG, -⟩ := refE_zero hE
  have hR0 : T.R 0 = none := by
    cases q : T.R 0 with
    | none => rfl
    | some r => have := (I.rn q).1; omega
  -- where nothing is cancelled
  have key : ∀ s f, flS (T.get (T.of old)).st = s → T.flO (T.of old) = f → ((flT T n tag s f 0).get f).st ≠ 1 → T.fl tag old (n + 1) = flT T n tag s f 0 ∧ T.flA tag old (n + 1) = 0 := fun s f h1 h2 h3 => by
    have e2 : T.fl2 tag old (n + 1) = flT T n tag s f 0 := by
      unfold TS.fl2 TS.fl1
      rw [h1, h2]
      exact flT_zero I tag s f hG
    unfold TS.fl TS.flA
    rw [e2, h2, if_neg h3]
    refine ⟨?_, rfl⟩
    unfold TS.mv
    rw [if_neg h3]
  have getF : ∀ s f i, i ≠ n + 1 → ((flT T n tag s f 0).get i) = T.get i := fun s f i hi => by
    unfold TS.get
    have : (flT T n tag s f 0).R i = T.R i := by
      show put (canR T.R 0) (n + 1) _ i = _
      rw [put_other _ _ hi, canR_zero I]
    rw [this]
  cases hq : T.G old with
  | none =>
    have ho : T.of old = 0 := by unfold TS.of; rw [hq]; rfl
    have hg : T.get 0 = ⟨0, 0, 0⟩ := by unfold TS.get; rw [hR0]; rfl
    obtain ⟨k1, k2⟩ := key 6 0 (by rw [ho, hg]; rfl) (by rw [ho]; unfold TS.flO; rw [hg]; rfl) (by rw [getF _ _ 0 (by omega), hg]; decide)
    exact ⟨6, 0, 0, Or.inl ⟨by unfold nmOf; rw [hq], rfl, rfl, rfl⟩, k1, k2⟩
  | some id =>
    obtain ⟨r, hr, hrt⟩ := I.gm old id hq
    have hid := I.rn hr
    have ho : T.of old = id := by unfold TS.of; rw [hq]; rfl
    have hg : T.get id = r := by unfold TS.get; rw [hr]; rfl
    have hnm : nmOf T old = ((id - 1 : Nat) : Int) := by unfold nmOf; rw [hq]; simp only; omega
    have e1 : id - 1 + 1 = id := by omega
    have mk : ∀ s f c, ((r.st = 1 ∧ s = 6 ∧ f = id - 1 + 1 ∧ c = id - 1 + 1) ∨ (r.st = 2 ∧ s = 6 ∧ f = id - 1 + 1 ∧ c = 0) ∨ (r.st = 3 ∧ s = 5 ∧ f = id - 1 + 1 ∧ c = 0) ∨ (r.st = 4 ∧ s = 6 ∧ f = 0 ∧ c = 0) ∨ (r.st = 5 ∧ s = 5 ∧ f = r.fo ∧ c = 0) ∨ (r.st = 6 ∧ s = 6 ∧ f = 0 ∧ c = 0)) → FlC T (nmOf T old) s f c := fun s f c h => Or.inr ⟨id - 1, r, hnm, by rw [e1]; exact hr, h⟩
    have hst : r.st = 1 ∨ r.st = 2 ∨ r.st = 3 ∨ r.st = 4 ∨ r.st = 5 ∨ r.st = 6 := by
      obtain ⟨-, x, -, -, -, -, g⟩ := I.rq id r hr
      rcases g with ⟨-, -, g | g | g | g⟩ | ⟨-, -, -, -, g | g⟩ <;> omega
    have hS : ∀ s, (r.st = 1 → s = 6) → (r.st = 2 → s = 6) → (r.st = 3 → s = 5) → (r.st = 4 → s = 6) → (r.st = 5 → s = 5) → (r.st = 6 → s = 6) → flS (T.get (T.of old)).st = s := fun s h1 h2 h3 h4 h5 h6 => by
      rw [ho, hg]
      unfold flS
      split
      · rename_i h
        rcases h with h | h
        · exact (h3 h).symm
        · exact (h5 h).symm
      · rcases hst with h | h | h | h | h | h
        · exact (h1 h).symm
        · exact (h2 h).symm
        · omega
        · exact (h4 h).symm
        · omega
        · exact (h6 h).symm
    have hO : ∀ f, ((r.st = 1 ∨ r.st = 2 ∨ r.st = 3) → f = id) → (r.st = 5 → f = r.fo) → ((r.st = 4 ∨ r.st = 6) → f = 0) → T.flO (T.of old) = f := fun f h1 h2 h3 => by
      rw [ho]
      unfold TS.flO
      rw [hg]
      split
      · rename_i h; exact (h1 h).symm
      · split
        · rename_i h; exact (h2 h).symm
        · exact (h3 (by omega)).symm
    rcases hst with h | h | h | h | h | h
    · -- open: it is cancelled
      refine ⟨6, id, id, mk _ _ _ (Or.inl ⟨h, rfl, e1.symm, e1.symm⟩), ?_⟩
      have h1 := hS 6 (fun _ => rfl) (by omega) (by omega) (by omega) (by omega) (by omega)
      have h2 := hO id (fun _ => rfl) (by omega) (by omega)
      have e2 : T.fl2 tag old (n + 1) = flT T n tag 6 id 0 := by
        unfold TS.fl2 TS.fl1
        rw [h1, h2]
        exact flT_zero I tag 6 id hG
      have e3 : (flT T n tag 6 id 0).get id = r := by rw [getF _ _ id (by omega), hg]
      unfold TS.fl TS.flA
      rw [e2, h2, e3, if_pos h]
      refine ⟨?_, rfl⟩
      unfold TS.mv
      rw [e3, if_pos h]
      refine TS.ext rfl rfl rfl ?_ rfl rfl
      funext i
      show put (put (canR T.R 0) (n + 1) _) id _ i = put (canR T.R id) (n + 1) _ i
      rw [canR_zero I]
      by_cases a : i = id
      · subst a
        rw [put_same, put_other _ _ (by omega)]
        unfold canR
        rw [hr]
        simp
      · rw [put_other _ _ a]
        by_cases b : i = n + 1
        · subst b; rw [put_same, put_same]
        · rw [put_other _ _ b, put_other _ _ b]
          unfold canR
          cases T.R i with
          | none => rfl
          | some q => simp [a]
    · obtain ⟨k1, k2⟩ := key 6 id (hS 6 (by omega) (fun _ => rfl) (by omega) (by omega) (by omega) (by omega)) (hO id (fun _ => rfl) (by omega) (by omega)) (by rw [getF _ _ id (by omega), hg]; omega)
      exact ⟨6, id, 0, mk _ _ _ (Or.inr (Or.inl ⟨h, rfl, e1.symm, rfl⟩)), k1, k2⟩
    · obtain ⟨k1, k2⟩ := key 5 id (hS 5 (by omega) (by omega) (fun _ => rfl) (by omega) (by omega) (by omega)) (hO id (fun _ => rfl) (by omega) (by omega)) (by rw [getF _ _ id (by omega), hg]; omega)
      exact ⟨5, id, 0, mk _ _ _ (Or.inr (Or.inr (Or.inl ⟨h, rfl, e1.symm, rfl⟩))), k1, k2⟩
    · obtain ⟨k1, k2⟩ := key 6 0 (hS 6 (by omega) (by omega) (by omega) (fun _ => rfl) (by omega) (by omega)) (hO 0 (by omega) (by omega) (fun _ => rfl)) (by rw [getF _ _ 0 (by omega)]; unfold TS.get; rw [hR0]; decide)
      exact ⟨6, 0, 0, mk _ _ _ (Or.inr (Or.inr (Or.inr (Or.inl ⟨h, rfl, rfl, rfl⟩)))), k1, k2⟩
    · obtain ⟨-, x, hx, -⟩ := I.rq id r hr
      obtain ⟨ro, w1, w2, -⟩ := I.wait (id - 1) x r hx (by rw [e1]; exact hr) h
      have hro : ro.st = 3 := by
        rcases w2 with w2 | ⟨w2, -⟩
        · exact w2
        · cases w2
      have hfo := I.rn w1
      have hgf : T.get r.fo = ro := by unfold TS.get; rw [w1]; rfl
      obtain ⟨k1, k2⟩ := key 5 r.fo (hS 5 (by omega) (by omega) (by omega) (by omega) (fun _ => rfl) (by omega)) (hO r.fo (by omega) (fun _ => rfl) (by omega)) (by rw [getF _ _ r.fo (by omega), hgf]; omega)
      exact ⟨5, r.fo, 0, mk _ _ _ (Or.inr (Or.inr (Or.inr (Or.inr (Or.inl ⟨h, rfl, rfl, rfl⟩))))), k1, k2⟩
    · obtain ⟨k1, k2⟩ := key 6 0 (hS 6 (by omega) (by omega) (by omega) (by omega) (by omega) (fun _ => rfl)) (hO 0 (by omega) (by omega) (fun _ => rfl)) (by rw [getF _ _ 0 (by omega)]; unfold TS.get; rw [hR0]; decide)
      exact ⟨6, 0, 0, mk _ _ _ (Or.inr (Or.inr (Or.inr (Or.inr (Or.inr ⟨h, rfl, rfl, rfl⟩))))), k1, k2⟩
theorem Inv.say (I : Inv none T n F H said) : Inv none (T.push sayRep) n F H (said + 1) := by
  refine { I with row1 := fun e he => ?_, rowd := ?_, rowc := fun id r hr hs => ?_, saidc := ?_, ord := fun k d hd A e B hr2 he hid => ?_ }
  · have he' : e ∈ T.row ++ [sayRep] := he
    rw [List.mem_append, List.mem_singleton] at he'
    rcases he' with h | rfl
    · exact I.row1 e h
    · exact ⟨fun _ => rfl, fun h => by cases h⟩
  · show (((T.row ++ [sayRep]).filter (fun e => !e.apart)).map (·.id)).Nodup
    rw [List.filter_append]
    simpa [sayRep] using I.rowd
  · obtain ⟨e, h1, h2⟩ := I.rowc id r hr hs
    exact ⟨e, List.mem_append_left _ h1, h2⟩
  · show (T.row ++ [sayRep]).countP _ = _
    rw [List.countP_append, I.saidc]
    rfl
  · rcases snoc_split (show T.row ++ [sayRep] = A ++ e :: B from hr2) with ⟨-, h2, -⟩ | ⟨B', h2⟩
    · rw [h2] at he; cases he
    · exact I.ord k d hd A e B' h2 he hid
theorem Inv.nextSaid (I : Inv none T n F H said) {e : Rep} {q : List Rep} (hrow : T.row = e :: q) (ha : e.apart = true) : e = sayRep ∧ 1 ≤ said ∧ Inv none T.cut n F H (said - 1) := by
  have hq : T.cut.row = q := by unfold TS.cut; rw [hrow]; rfl
  have he : e = sayRep := (I.row1 e (by rw [hrow]; simp)).1 ha
  have hc := I.saidc
  rw [hrow, List.countP_cons_of_pos (by exact ha)] at hc
  refine ⟨he, by omega, { I with row1 := fun f hf => ?_, rowd := ?_, rowc := fun id r hr hs => ?_, saidc := ?_, ord := fun k d hd A f B hr2 hf hid => ?_ }⟩
  · rw [hq] at hf
    exact I.row1 f (by rw [hrow]; exact List.mem_cons_of_mem _ hf)
  · have := I.rowd
    rw [hrow, List.filter_cons_of_neg (by simp [ha])] at this
    rw [hq]
    exact this
  · obtain ⟨f, h1, h2⟩ := I.rowc id r hr hs
    rw [hrow] at h1
    rcases List.mem_cons.1 h1 with rfl | h1
    · rw [ha] at h2; cases h2.1
    · exact ⟨f, by rw [hq]; exact h1, h2⟩
  · rw [hq]; omega
  · rw [hq] at hr2
    rcases I.ord k d hd (e :: A) f B (by rw [hrow, hr2]; rfl) hf hid with h | ⟨g, h1, h2, h3⟩
    · exact Or.inl h
    · rcases List.mem_cons.1 h1 with rfl | h1
      · rw [ha] at h2; cases h2
      · exact Or.inr ⟨g, h1, h2, h3⟩
end
end Tg
end Go.Proofs.Ytjogpafbiackbaa
