/- tags: the law's begun. -/
import Derived.Test.YtjogpafbiackbaaTle
namespace Go.Proofs.Ytjogpafbiackbaa
set_option linter.unusedVariables false
open Go.RowKit Go.Shelf
namespace Tg
open Go.Proofs.Ytjogpafbiackbaa.Mpf Go.PlainAid
section
variable {D : Nat} {w : World} {R p : Nat} {L : LS} {T : TS}
def hs0 : List Int := List.replicate 16 (-1)
def th0 : Th := ⟨15, false, -1, false, true, true, false⟩
def L0 : LS := ⟨[th0], hs0.set 15 0, 0⟩
def T1 : TS := T0.take 1 ⟨15, 1, 0⟩
def T2 : TS := T1.mv 1 1 3
def T3 : TS := T2.reply 1 121 ⟨#[]⟩
theorem inv0 : Inv none T0 0 (fun k => ([] : List Th)[k]?) (fun t => hs0[t]?) 0 := by
  constructor
  case dom => intro k; simp
  case last => rfl
  case most => rfl
  case tagl => intro k x h; simp at h
  case nml => intro k x h; simp at h
  case flb => intro k x h; simp at h
  case caw => intro k x h; simp at h
  case and_ => intro k x h; simp at h
  case wrn => intro k x h; simp at h
  case rq => intro id r h; cases h
  case gone => intro k x h; simp at h
  case gm => intro t id h; cases h
  case hm =>
    intro t ht
    show hs0[t]? = some (-1)
    unfold hs0
    rw [List.getElem?_replicate, if_pos ht]
  case hl =>
    intro t ht
    show hs0[t]? = none
    unfold hs0
    rw [List.getElem?_replicate, if_neg (by omega)]
  case cnt => rfl
  case row1 => intro e h; cases h
  case rowd => exact List.nodup_nil
  case rowc => intro id r h; cases h
  case saidc => rfl
  case ord =>
    intro k d h A e B hr
    have : ([] : List Rep) = A ++ e :: B := hr
    simp at this
  case wait => intro k x r h; simp at h
  case named => intro k x y Y h; simp at h
  case fo6 => intro k x r h; simp at h
  case canc => intro id r h; cases h
theorem ok0 : Ok T0 := inv0.ok (by omega) (by omega)
theorem ref1 : refE T0 15 1 = 0 := rfl
theorem inv1 : Inv none T1 1 (put (fun k => ([] : List Th)[k]?) 0 (some ⟨15, false, -1, false, false, false, false⟩)) (put (fun t => hs0[t]?) 15 (some 0)) 0 := inv0.begin (tag := 15) (by decide) ref1
theorem ok1 : Ok T1 := inv1.ok (by omega) (by omega)
theorem mv1 : mvB T1 1 1 = true := inv1.mv1 (k := 0) (x := ⟨15, false, -1, false, false, false, false⟩) (put_same _ _ _)
theorem inv2 : Inv none T2 1 (put (put (fun k => ([] : List Th)[k]?) 0 (some ⟨15, false, -1, false, false, false, false⟩)) 0 (some ⟨15, false, -1, false, true, false, false⟩)) (put (fun t => hs0[t]?) 15 (some 0)) 0 := inv1.decides (k := 0) (x := ⟨15, false, -1, false, false, false, false⟩) (put_same _ _ _) mv1
theorem ok2 : Ok T2 := inv2.ok (by omega) (by omega)
theorem mv2 : mvB T2 1 3 = true := inv2.mv3 (k := 0) (x := ⟨15, false, -1, false, true, false, false⟩) (put_same _ _ _)
theorem inv3' : Inv none T3 1 (put (put (put (fun k => ([] : List Th)[k]?) 0 (some ⟨15, false, -1, false, false, false, false⟩)) 0 (some ⟨15, false, -1, false, true, false, false⟩)) 0 (some th0)) (put (fun t => hs0[t]?) 15 (some 0)) 0 := inv2.reply (k := 0) (x := ⟨15, false, -1, false, true, false, false⟩) (put_same _ _ _) mv2
theorem inv3 : Inv none T3 L0.l.length (fun k => L0.l[k]?) (fun t => L0.hs[t]?) L0.said := by
  have e1 : (put (put (put (fun k => ([] : List Th)[k]?) 0 (some ⟨15, false, -1, false, false, false, false⟩)) 0 (some ⟨15, false, -1, false, true, false, false⟩)) 0 (some th0)) = fun k => L0.l[k]? := by
    funext k
    cases k with
    | zero => rfl
    | succ k => simp [put, L0]
  have e2 : put (fun t => hs0[t]?) 15 (some 0) = fun t => L0.hs[t]? := (hs_put (by decide) 0).symm
  have h := inv3'
  rw [e1, e2] at h
  exact h
theorem ok3 : Ok T3 := inv3.ok (by decide) (by decide)
theorem ref3 : refE T3 15 2 = 140 := by
  have h := inv3.hm 15 (by decide)
  have e : L0.hs[15]? = some 0 := rfl
  have hG : (T3.G 15).isSome = true := by
    cases q : T3.G 15 with
    | none => rw [q] at h; rw [e] at h; simp at h
    | some _ => rfl
  have hl : T3.last = 1 := inv3.last
  unfold refE
  rw [if_neg (by omega), if_neg (by decide), if_pos hG]
/-- What stands while the tags are laid. -/
structure BgI (D : Nat) (w wr : World) (R p : Nat) (i : Nat) : Prop where
  own : ∃ s, Bx wr R 33 #[.pointer (some ⟨p, 0, none⟩), .slice none 0 0, s, .int .i64 0] ∧ wr.ownsRow D 3 1 s i (List.replicate i (.int .i64 (-1))) ∧ ∀ g, s.ownBlock = some g → g ≠ R
  tb : TB D wr p T0
  lo : Kept [] w wr
  hR : w.heap.size ≤ R
  hD : D = w.heap.size
theorem BgI.push {w wr w2 w3 : World} {i : Nat} {s s' : Value} (h : BgI D w wr R p i) (hb : Bx wr R 33 #[.pointer (some ⟨p, 0, none⟩), .slice none 0 0, s, .int .i64 0]) (ho : wr.ownsRow D 3 1 s i (List.replicate i (.int .i64 (-1)))) (hn : ∀ g, s.ownBlock = some g → g ≠ R) (k2 : Kept [] wr w2)
    (ho' : w3.ownsRow D 3 1 s' (i + 1) (List.replicate i (.int .i64 (-1)) ++ [.int .i64 (-1)])) (hg : w2.grownBy w3 s.ownBlock) (hat : s'.ownBlock = s.ownBlock ∨ s'.ownBlock = some w2.heap.size) :
    BgI D w (w3.setCell ⟨R, 2, none⟩ s') R p (i + 1) ∧ w3.cell? ⟨R, 2, none⟩ = some s ∧ w3.frozen? ⟨R, 2, none⟩ = false := by
  have hb2 := hb.kept k2 (by simp)
  have k3 : Kept s.ownBlock.toList w2 w3 := (Kept.refl _ _).grown hg (fun k e => Or.inl (by rw [e]; simp))
  have nR : R ∉ s.ownBlock.toList := fun hm => by
    cases q : s.ownBlock with
    | none => rw [q] at hm; simp at hm
    | some g => rw [q] at hm; simp at hm; exact hn g q hm.symm
  have hb3 := hb2.kept k3 nR
  have lo3 : Kept [] w w3 := (h.lo.trans k2 (fun i hi => by cases hi)).trans k3 (fun i hi => Or.inr (by
    cases q : s.ownBlock with
    | none => rw [q] at hi; simp at hi
    | some g => rw [q] at hi; simp at hi; subst hi; have := (own_base ho _ q).1; have := h.hD; omega))
  have tb2 := h.tb.kept0 k2
  have o2 := ownsRow_kept ho k2 (by simp)
  have tb3 := tb2.keptL k3 (fun j hj hl => by
    cases q : s.ownBlock with
    | none => rw [q] at hj; simp at hj
    | some g =>
      rw [q] at hj; simp at hj; subst hj
      rcases o2.2 with ⟨rfl, -⟩ | ⟨g', cap, cur, rfl, -, hb, -⟩
      · simp [Value.ownBlock] at q
      · simp [Value.ownBlock] at q; subst q; exact ⟨_, _, _, hb, by decide, by decide⟩)
  have k4 : Kept [R] w3 (w3.setCell ⟨R, 2, none⟩ s') := (Kept.refl _ _).setCell (Or.inl (by simp)) _
  have nR' : ∀ g, s'.ownBlock = some g → g ≠ R := fun g hg' => by
    rcases hat with q | q
    · exact hn g (q ▸ hg')
    · rw [q] at hg'; cases hg'; have := hb2.lt; omega
  refine ⟨⟨⟨s', hb3.set 2 s', ?_, nR'⟩, tb3.keptL k4 (fun j hj hl => by simp at hj; subst hj; exact ⟨_, _, _, hb3, by decide, by decide⟩), lo3.trans k4 (fun i hi => Or.inr (by simp at hi; subst hi; exact h.hR)), h.hR, h.hD⟩, hb3.cell 2 rfl, hb3.frozen 2⟩
  have := ownsRow_kept ho' k4 (fun g hg' => by simpa using nR' g hg')
  rw [← List.replicate_succ'] at this
  exact this
theorem begun_mem {w2 w4 : World} {gh ch vc : Nat} {va : Option Addr} (hb : Bx w2 R 33 #[.pointer (some ⟨p, 0, none⟩), .slice none 0 0, .slice (some ⟨gh, 0, none⟩) 16 ch, .int .i64 0]) (ho : w2.ownsRow D 3 1 (.slice (some ⟨gh, 0, none⟩) 16 ch) 16 (List.replicate 16 (.int .i64 (-1)))) (ht : TB D w2 p T) (hR : D ≤ R)
    (hown : w4.ownsRow D 39 7 (.slice va 1 vc) 1 th0.C) (hgrow : (w2.alloc (.cells th0.C.toArray 39)).grownBy w4 none) (hat : (Value.slice va 1 vc).ownBlock = none ∨ (Value.slice va 1 vc).ownBlock = some (w2.alloc (.cells th0.C.toArray 39)).heap.size) :
    w4.cell? ⟨R, 1, none⟩ = some (.slice none 0 0) ∧ w4.frozen? ⟨R, 1, none⟩ = false ∧ (w4.setCell ⟨R, 1, none⟩ (.slice va 1 vc)).cell? ⟨R, 2, none⟩ = some (.slice (some ⟨gh, 0, none⟩) 16 ch) ∧
      (w4.setCell ⟨R, 1, none⟩ (.slice va 1 vc)).cell? ⟨gh, 15, none⟩ = some (.int .i64 (-1)) ∧ (w4.setCell ⟨R, 1, none⟩ (.slice va 1 vc)).frozen? ⟨gh, 15, none⟩ = false ∧
      LW D ((w4.setCell ⟨R, 1, none⟩ (.slice va 1 vc)).setCell ⟨gh, 15, none⟩ (.int .i64 0)) R p L0 ∧ TB D ((w4.setCell ⟨R, 1, none⟩ (.slice va 1 vc)).setCell ⟨gh, 15, none⟩ (.int .i64 0)) p T ∧ Lo D w2 ((w4.setCell ⟨R, 1, none⟩ (.slice va 1 vc)).setCell ⟨gh, 15, none⟩ (.int .i64 0)) := by
  have k3 : Kept [] w2 w4 := ((Kept.refl [] w2).alloc _).grown hgrow (fun k e => by cases e)
  have hb4 := hb.kept k3 (by simp)
  have ho4 := ownsRow_kept ho k3 (by simp)
  have ht4 := ht.kept0 k3
  have hgh := own_lt ho
  obtain ⟨gl, rfl⟩ : ∃ gl, va = some ⟨gl, 0, none⟩ := by
    rcases hown.2 with ⟨-, h0⟩ | ⟨g, cap, cur, hv, -⟩
    · omega
    · cases hv; exact ⟨g, rfl⟩
  have hgl : w2.heap.size < gl := by
    rcases hat with q | q
    · simp [Value.ownBlock] at q
    · simp [Value.ownBlock] at q; omega
  obtain ⟨hD, cur, hc⟩ := hgh
  have hghl := block_lt hc
  have hghR : gh ≠ R := (Bx.type_ne hb (show Bx w2 gh _ cur from hc) (by decide)).symm
  have k5 : Kept [R] w4 (w4.setCell ⟨R, 1, none⟩ (.slice (some ⟨gl, 0, none⟩) 1 vc)) := (Kept.refl _ _).setCell (Or.inl (by simp)) _
  have b5 := hb4.set 1 (.slice (some ⟨gl, 0, none⟩) 1 vc)
  have th5 := ownsRow_kept hown k5 (fun g hg => by cases hg; have := hb.lt; simp; omega)
  have ho5 := ownsRow_kept ho4 k5 (fun g hg => by cases hg; simpa using hghR)
  have e0 : (List.replicate 16 (Value.int .i64 (-1))) = hs0.map iI := by unfold hs0 iI; rw [List.map_replicate]
  rw [e0] at ho5
  have L5 : LWx D (w4.setCell ⟨R, 1, none⟩ (.slice (some ⟨gl, 0, none⟩) 1 vc)) R p gl vc gh ch ⟨[th0], hs0, 0⟩ := ⟨b5, th5, ho5, hR⟩
  have L6 := L5.seth (t := 15) (by decide) 0
  have h15 := L5.hold (t := 15) (z := -1) (by decide)
  have t5 := ht4.keptL k5 (fun j hj hl => by simp at hj; subst hj; exact ⟨_, _, _, hb4, by decide, by decide⟩)
  have k6 : Kept [gh] (w4.setCell ⟨R, 1, none⟩ (.slice (some ⟨gl, 0, none⟩) 1 vc)) ((w4.setCell ⟨R, 1, none⟩ (.slice (some ⟨gl, 0, none⟩) 1 vc)).setCell ⟨gh, 15, none⟩ (.int .i64 0)) := (Kept.refl _ _).setCell (Or.inl (by simp)) _
  have t6 := t5.own L5 k6 (by simp)
  exact ⟨hb4.cell 1 rfl, hb4.frozen 1, b5.cell 2 rfl, h15.1, h15.2, ⟨gl, vc, gh, ch, L6⟩, t6, (Lo.of_kept k3 (by simp)).trans ((Lo.of_kept k5 (by simpa using hR)).trans (Lo.of_kept k6 (by simpa using hD)))⟩
end
end Tg
end Go.Proofs.Ytjogpafbiackbaa
