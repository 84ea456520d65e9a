/- tags: put. -/
import Derived.Test.YtjogpafbiackbaaTge
namespace Go.Proofs.Ytjogpafbiackbaa
set_option linter.unusedVariables false
open Go.RowKit
namespace Tg
open Go.Proofs.Ytjogpafbiackbaa.Mpf Go.PlainAid

theorem Bx.selfs {g : Nat} {t : TypeId} {cs : Array Value} : ∀ (vs : List Value) (o : Nat) (w : World), Bx w g t cs → (∀ j v, vs[j]? = some v → cs[o + j]? = some v) → Bx (w.setCells g o vs) g t cs ∧ Kept [g] w (w.setCells g o vs)
  | [], o, w, hb, _ => ⟨by simpa [World.setCells] using hb, Kept.refl _ _⟩
  | v :: r, o, w, hb, h => by
    have h0 := h 0 v rfl
    have hb1 := Bx.self hb (i := o) h0
    obtain ⟨h2, k2⟩ := Bx.selfs r (o + 1) (w.setCell ⟨g, o, none⟩ v) hb1 (fun j u hu => by rw [show o + 1 + j = o + (j + 1) by omega]; exact h (j + 1) u hu)
    exact ⟨h2, ((Kept.refl [g] w).setCell (Or.inl (by simp)) v).trans k2 (fun i hi => Or.inl hi)⟩
/-- An append whose run is known, as a step of a region. -/
theorem step_append_run {P : Program} {W W' : World} {ops : Array Oper} {o : Oper} {a : Act} {K : Act → World → Prop} {Q : Exit → Act → World → Prop} {E : Prop} (hgd : o.guard = none) (sl x : Operand) (t : TypeId)
    (ho : o.op = .call { callee := .builtin .append, args := #[sl, x], argTypes := #[t, t] }) {v y v' : Value} (hs : a.eval sl = v) (hx : a.eval x = y) (hr : (Builtin.append_ #[t, t] o.type #[v, y]).run P W = .ok v' W') (h : K (a.put o.dst v') W') :
    if Region.wanted o (yielded ops a.tmps) = true then Oper.wp P o a W K Q else E := by
  have hw : Region.wanted o (yielded ops a.tmps) = true := by simp [Region.wanted, hgd]
  rw [if_pos hw]
  unfold Oper.wp execOp
  simp only [ho, resolve, invoke, builtin, Sem.run_bind, Sem.run_pure, Result.andThen_ok, List.map_toArray, List.map_cons, List.map_nil, hs, hx, hr]
  exact h
theorem step_lrep {w : World} {ops : Array Oper} {o : Oper} {a : Act} {K : Act → World → Prop} {Q : Exit → Act → World → Prop} {E : Prop} (hgd : o.guard = none) (x : Operand) (ho : o.op = .load 84 x) (B : Nat) (V : Array Value) (hs : V.size = 38) (h : Bx w B 84 V) (hx : a.eval x = .pointer (some ⟨B, 0, none⟩))
    (hK : K (a.put o.dst (.agg V)) w) : if Region.wanted o (yielded ops a.tmps) = true then Oper.wp Try.prog o a w K Q else E := by
  have hw : Region.wanted o (yielded ops a.tmps) = true := by simp [Region.wanted, hgd]
  rw [if_pos hw]
  exact wp_load_row 84 x ho B hx 84 _ (0, 0) _ h Try.underlying84 rfl (by rw [hs]; exact size_rep) hK
theorem any_wp {P : Program} {ops : Array Oper} {Q : Exit → Act → World → Prop} {K : Act → World → Prop} {a : Act} {w : World} {o : Oper} {i : Nat} (hi : ops[i]? = some o) (hg : o.guard = none) (h : o.wp P a w K Q) : wpOp P ops Q i K a w := by
  unfold wpOp
  rw [hi]
  simp only [show Region.wanted o (yielded ops a.tmps) = true by simp [Region.wanted, hg], if_true]
  exact Or.inl h
theorem any_val {P : Program} {ops : Array Oper} {Q : Exit → Act → World → Prop} {K : Act → World → Prop} {a : Act} {w w' : World} {o : Oper} {i : Nat} (hi : ops[i]? = some o) (hg : o.guard = none) (v : Value) (hrun : (execOp a.eval o).run P w = .ok (.value v) w') (h : K (a.put o.dst v) w') : wpOp P ops Q i K a w := by
  refine any_wp hi hg ?_
  unfold Oper.wp
  rw [hrun, Oper.upon_value]
  exact h
theorem any_skip {P : Program} {ops : Array Oper} {Q : Exit → Act → World → Prop} {K : Act → World → Prop} {a : Act} {w w' : World} {o : Oper} {i : Nat} (hi : ops[i]? = some o) (hg : o.guard = none) (hrun : (execOp a.eval o).run P w = .ok .skip w') (h : K (a.put o.dst undef) w') : wpOp P ops Q i K a w := by
  refine any_wp hi hg ?_
  unfold Oper.wp
  rw [hrun]
  exact h
theorem run_load8 {P : Program} {o : Oper} {a : Act} {w : World} (ty : TypeId) (x : Operand) (ho : o.op = .load ty x) (g : Nat) (hx : a.eval x = .pointer (some ⟨g, 0, none⟩)) (t : TypeId) (cs : Array Value) (fr : Nat × Nat) (d : TypeDesc) (hg : w.heap[g]? = some (.cells cs t fr)) (hu : P.underlying ty = some d) (hd : (match d with | .struct _ | .array _ _ => true | _ => false) = true) (hi : (P.info? ty).map (·.size) = some cs.size) : (execOp a.eval o).run P w = .ok (.value (.agg cs)) w := by
  unfold execOp
  simp only [ho, hx, Instr.loadAt, Instr.sureAddr, Sem.run_bind, Sem.run_pure, Result.andThen_ok, run_loadVar_row w g t ty cs fr d hg hu hd hi]
theorem any_append {P : Program} {W W' : World} {ops : Array Oper} {o : Oper} {a : Act} {K : Act → World → Prop} {Q : Exit → Act → World → Prop} {i : Nat} (hi : ops[i]? = some o) (hgd : o.guard = none) (sl x : Operand) (t : TypeId)
    (ho : o.op = .call { callee := .builtin .append, args := #[sl, x], argTypes := #[t, t] }) {v y v' : Value} (hs : a.eval sl = v) (hx : a.eval x = y) (hr : (Builtin.append_ #[t, t] o.type #[v, y]).run P W = .ok v' W') (h : K (a.put o.dst v') W') : wpOp P ops Q i K a W := by
  refine any_wp hi hgd ?_
  unfold Oper.wp execOp
  simp only [ho, resolve, invoke, builtin, Sem.run_bind, Sem.run_pure, Result.andThen_ok, List.map_toArray, List.map_cons, List.map_nil, hs, hx, hr]
  exact h
theorem wpAnyH_one {P : Program} {md : Region.Mode} {ops : Array Oper} {Q : Exit → Act → World → Prop} {S : World → Prop} {fuel : Nat} {listed : Array Bool} {a : Act} {w : World} {i : Nat} (hr : Region.ready md ops listed = [i])
    (h : wpOp P ops Q i (fun a' w' => S w' ∧ wpAnyH P md ops Q S fuel (listed.setIfInBounds i true) a' w') a w) : wpAnyH P md ops Q S (fuel + 1) listed a w :=
  wpAnyH_all hr (by simp) (by
    intro j hj
    obtain rfl : j = i := by simpa using hj
    exact h)
theorem run_build (e : Rep) (w : World) : (Instr.buildSlice 75 1 #[(0, .agg e.C.toArray)]).run Try.prog w = .ok (.slice (some ⟨w.heap.size, 0, none⟩) 1 1) (w.alloc (.cells e.C.toArray 84)) := by
  kernel_rfl
theorem run_bs (e : Rep) {o : Oper} {a : Act} {W : World} (x : Operand) (ho : o.op = .buildSlice 75 1 #[(0, x)]) (hx : a.eval x = .agg e.C.toArray) :
    (execOp a.eval o).run Try.prog W = .ok (.value (.slice (some ⟨W.heap.size, 0, none⟩) 1 1)) (W.alloc (.cells e.C.toArray 84)) := by
  unfold execOp
  simp only [ho, List.map_toArray, List.map_cons, List.map_nil, hx, Sem.run_bind, run_build, Result.andThen_ok, Sem.run_pure]
section
variable {Ba : Nat} {w : World} {p rm gm : Nat} {s : Value} {nR : Nat} {T : TS}
def TS.push (T : TS) (e : Rep) : TS := { T with row := T.row ++ [e] }
/-- What 'put' does behind its copy. -/
theorem put_steps (h : TBx Ba w p rm gm s nR T) (hq : T.row.length ≤ 2000) (e : Rep) {b : Nat} (hb : Bx w b 84 e.C.toArray) :
    ∃ a' c' w3, Kept s.ownBlock.toList w w3 ∧ (Builtin.append_ #[75, 75] 75 #[s, .slice (some ⟨b, 0, none⟩) 1 1]).run Try.prog w = .ok (.slice a' (T.row.length + 1) c') w3 ∧
      w3.cell? ⟨p, 4, none⟩ = some s ∧ w3.frozen? ⟨p, 4, none⟩ = false ∧ TB Ba (w3.setCell ⟨p, 4, none⟩ (.slice a' (T.row.length + 1) c')) p (T.push e) ∧ KT Ba w (w3.setCell ⟨p, 4, none⟩ (.slice a' (T.row.length + 1) c')) := by
  obtain ⟨s', w3, hAp, hr3, k3, hat⟩ := h.row.push hq e (ad := ⟨b, 0, none⟩) 1 (World.news_of_block (cs := e.C.toArray) hb) 75
  obtain ⟨a', c', hs', -, -⟩ := hr3.slice
  rw [show (T.row ++ [e]).length = T.row.length + 1 by simp] at hs'
  subst hs'
  have no : ∀ i, (∀ g, s.ownBlock = some g → g ≠ i) → i ∉ s.ownBlock.toList := fun i hi hm => by
    cases e : s.ownBlock with
    | none => rw [e] at hm; simp at hm
    | some g => rw [e] at hm; simp at hm; exact hi g e hm.symm
  have b3 := h.box.kept k3 (no p h.sp)
  have m3 := h.rmap.kept k3 (no rm h.srm)
  have g3 := h.gmap.kept k3 (no gm h.sgm)
  have b4 := b3.set 4 (.slice a' (T.row.length + 1) c')
  have sp' : ∀ g, (Value.slice a' (T.row.length + 1) c').ownBlock = some g → g ≠ p := fun g hg => by
    rcases hat with q | q
    · exact h.sp g (q ▸ hg)
    · rw [q] at hg
      cases hg
      have := h.box.lt
      omega
  have k4 : Kept [p] w3 (w3.setCell ⟨p, 4, none⟩ (.slice a' (T.row.length + 1) c')) := (Kept.refl _ _).setCell (Or.inl (by simp)) _
  have m4 := m3.kept k4 (by simpa using fun e => h.prm e.symm)
  have g4 := g3.kept k4 (by simpa using fun e => h.pgm e.symm)
  have r4 := hr3.kept k4 (fun g hg => by simpa using sp' g hg)
  have KK : Kept (p :: s.ownBlock.toList) w (w3.setCell ⟨p, 4, none⟩ (.slice a' (T.row.length + 1) c')) := (k3.mono (T := p :: s.ownBlock.toList) (fun i hi => Or.inl (by simp at hi ⊢; simp [hi]))).trans k4 (fun i hi => by simp at hi; simp [hi])
  refine ⟨a', c', w3, k3, hAp, b3.cell 4 rfl, b3.frozen 4, ⟨rm, gm, _, nR, ⟨b4, m4, g4, r4, h.ne, h.hp, h.hr, h.hg, fun g hg => ?_⟩⟩, h.kt KK (fun i hi => ?_)⟩
  · rcases hat with q | q
    · exact h.hs g (q ▸ hg)
    · rw [q] at hg
      cases hg
      have := h.box.lt
      have := h.hp
      omega
  · simp only [List.mem_cons, Option.mem_toList] at hi
    rcases hi with rfl | hi
    · exact Or.inl rfl
    · exact Or.inr (Or.inr (Or.inr (Or.inl hi)))
set_option maxHeartbeats 4000000 in
set_option maxRecDepth 100000 in
theorem put_any (h : TB Ba w p T) (hq : T.row.length ≤ 2000) (e : Rep) :
    Calls Try.prog 31 #[.pointer (some ⟨p, 0, none⟩), .agg e.C.toArray] w fun r w' => r = .returned (.tuple #[]) ∧ TB Ba w' p (T.push e) ∧ KT Ba w w' := by
  obtain ⟨V, hV⟩ : ∃ V, V = e.V.toArray := ⟨_, rfl⟩
  have PV : Hid (Pl V) := by rw [hV]; exact Pl.msg _ _ _
  have CO := Lib.hid (fun w => copied_any w PV.out)
  obtain ⟨E, hE⟩ : ∃ E, E = e.C.toArray := ⟨_, rfl⟩
  have ES : Hid (E.size = 38) := by rw [hE]; rfl
  have EV : Hid (∀ j v, V.toList[j]? = some v → E[0 + j]? = some v) := fun j v hv => by
    rw [hE]
    rw [hV] at hv
    have hj : j < 36 := by
      have := (List.getElem?_eq_some_iff.1 hv).1
      simp at this
      exact this
    rw [Nat.zero_add, List.getElem?_toArray]
    unfold Rep.C
    rw [List.getElem?_append_left (by show j < 36; exact hj)]
    simpa using hv
  have B0 : Hid (Bx (w.alloc (.cells E 84)) w.heap.size 84 E) := Bx.made _ _ _
  have KA : Hid (Kept [] w (w.alloc (.cells E 84))) := (Kept.refl _ _).alloc _
  have RA : Hid (∀ w', Bx w' w.heap.size 84 E → w'.rangeAt w.heap.size 0 V.toList) := fun w' hb j v hv => hb.cell _ (EV.out j v hv)
  have TH : Hid (∀ w', Bx w' w.heap.size 84 E → w'.there w.heap.size 0 V.size) := fun w' hb j hj => by
    rw [PV.out.size] at hj
    have : (E[0 + j]?).isSome = true := by
      rw [Array.getElem?_eq_getElem (by rw [ES.out]; omega)]; rfl
    obtain ⟨v, hv⟩ := Option.isSome_iff_exists.1 this
    exact ⟨by rw [hb.cell _ hv]; rfl, hb.frozen _⟩
  have HE := Lib.hid hE
  have HT := Lib.hid h
  rw [← hE]
  clear hE hV h
  go_enter Try.func31, Try.ntmps31
  go_wp2_with (first | (refine wpList_load_mid rfl 57 (.tmp 4) rfl w.heap.size 0 rfl V.toList _ (RA.out _ B0.out) Try.underlying57 rfl (by rw [Array.length_toList, PV.out.size]; exact size_msg) ?_; rw [Array.toArray_toList]) | (go_at_call 25; refine (CO.out _).mono ?_; rintro r w2 ⟨rfl, k2⟩; have K2 : Hid (Kept [] w w2) := KA.out.trans k2 (fun i hi => by cases hi); have B2 : Hid (Bx w2 w.heap.size 84 E) := B0.out.kept k2 (by simp); clear k2 CO B0 KA) | (refine wpList_store_mid rfl 57 (.tmp 7) (.tmp 6) rfl w.heap.size 0 V rfl rfl (TH.out _ B2.out) (by rw [PV.out.size]; exact size_msg) PV.out.one ?_; obtain ⟨b3', k3'⟩ := Bx.selfs V.toList 0 w2 B2.out EV.out; obtain ⟨w3, hw3⟩ : ∃ w3, w3 = w2.setCells w.heap.size 0 V.toList := ⟨_, rfl⟩; rw [← hw3] at b3' k3' ⊢; have K3 : Hid (Kept [] w w3) := K2.out.trans k3' (fun i hi => Or.inr (by simp at hi; omega)); have B3 := Lib.hid b3'; clear hw3 b3' k3'))
  have PL : p < w.heap.size := by obtain ⟨_, _, _, _, q⟩ := HT.out; exact q.box.lt
  obtain ⟨rm, gm, s, nR, HTy⟩ := HT.out
  have OB : Hid (∀ g, s.ownBlock = some g → g ≠ w.heap.size) := fun g hg => by have := HTy.row.lt g hg; omega
  have HTx := HTy.kept0 K3.out
  obtain ⟨D, hD⟩ : ∃ D, D = w3.drew.alloc (.cells E 84) := ⟨_, rfl⟩
  have KD : Kept [] w3 D := by rw [hD]; exact ((Kept.refl [] w3).drew).alloc _
  have BD : Bx D w3.heap.size 84 e.C.toArray := by rw [hD, ← HE.out]; exact Bx.made w3.drew _ _
  have HD := HTx.kept0 KD
  obtain ⟨a', c', w4, K45, hAp, d4, f4, T4, k4⟩ := put_steps HD hq e BD
  have NB : ∀ g, s.ownBlock = some g → g ≠ w.heap.size := fun g hg => OB.out g hg
  have HL : Hid (p < w.heap.size) := PL
  have B4 : Bx D w.heap.size 84 E := B3.out.kept KD (by simp)
  have c4 := HTx.box.drew.cell 4 (v := s) rfl
  have c4D := HD.box.cell 4 (v := s) rfl
  have K4s : Kept s.ownBlock.toList D w4 := K45
  have B5 : Hid (Bx w4 w.heap.size 84 E) := B4.kept K4s (fun hm => by
    cases q : s.ownBlock with
    | none => rw [q] at hm; simp at hm
    | some g => rw [q] at hm; simp at hm; exact NB g q hm.symm)
  have B6 : Hid (Bx (w4.setCell ⟨p, 4, none⟩ (.slice a' (T.row.length + 1) c')) w.heap.size 84 E) := B5.out.other (fun e => by have := HL.out; simp at e; omega) _
  have PO : Hid (TB Ba (w4.setCell ⟨p, 4, none⟩ (.slice a' (T.row.length + 1) c')) p (T.push e) ∧ KT Ba w (w4.setCell ⟨p, 4, none⟩ (.slice a' (T.row.length + 1) c'))) := ⟨T4, (KT.of_kept0 (K3.out.trans KD (fun i hi => by cases hi))).trans k4⟩
  have bd : Bx w3.drew w.heap.size 84 E := Bx.drew B3.out
  have sz : (Try.prog.info? 84).map (·.size) = some E.size := by rw [ES.out]; exact size_rep
  clear T4 k4 HD HTx HTy BD KD K45 K4s PL NB
  simp only [Act.put]
  refine wp_region_held (S := fun w' => Bx w' w.heap.size 84 E) (by kernel_rfl) ?_
  try (change wpAnyH _ _ _ _ _ _ _ _ (World.drew _))
  refine wpAnyH_take (i := 0) (v := .pointer (some ⟨p, 0, none⟩)) rfl (by kernel_rfl) (by kernel_rfl) (by kernel_rfl) (fun _ _ _ h => h) (Or.inl ⟨by rfl, fun w _ => by simp [execOp, go_sem]⟩) bd ?_
  refine wpAnyH_take (i := 1) (v := .pointer (some ⟨p, 0, none⟩)) rfl (by kernel_rfl) (by kernel_rfl) (by kernel_rfl) (fun _ _ _ h => h) (Or.inl ⟨by rfl, fun w _ => by simp [execOp, go_sem]⟩) bd ?_
  refine wpAnyH_take (i := 2) (v := .pointer (some ⟨p, 0, none⟩)) rfl (by kernel_rfl) (by kernel_rfl) (by kernel_rfl) (fun _ _ _ h => h) (Or.inl ⟨by rfl, fun w _ => by simp [execOp, go_sem]⟩) bd ?_
  simp [go_sem]
  refine wpAnyH_take (i := 3) (v := .pointer (some ⟨p, 4, none⟩)) rfl (by kernel_rfl) (by kernel_rfl) (by kernel_rfl) (fun _ _ _ h => h) (Or.inl ⟨by rfl, fun w _ => by simp [execOp, go_sem]⟩) bd ?_
  refine wpAnyH_take (i := 5) (v := .agg E) rfl (by kernel_rfl) (by kernel_rfl) (by kernel_rfl) (fun _ _ _ h => h) (Or.inl ⟨by rfl, fun w b => by
    exact run_load8 84 (.tmp 3) rfl _ (by simp [go_sem]) 84 E (0, 0) _ b Try.underlying84 rfl sz⟩) bd ?_
  simp [go_sem]
  refine wpAnyH_all (rs := [4, 6]) (by kernel_rfl) (by simp) ?_
  intro j hj
  have hj2 : j = 4 ∨ j = 6 := by simpa using hj
  clear hj
  rcases hj2 with rfl | rfl
  · refine any_val rfl rfl s (w' := w3.drew) (by simp [execOp, go_sem, c4]) ?_
    refine ⟨bd, ?_⟩
    · refine wpAnyH_one (i := 6) (by kernel_rfl) ?_
      refine any_val rfl rfl (.slice (some ⟨w3.heap.size, 0, none⟩) 1 1) (w' := D) (by rw [hD, HE.out]; exact run_bs e (.tmp 13) rfl (by rw [← HE.out]; simp [Act.eval, Act.put])) ?_
      refine ⟨B4, ?_⟩
      refine wpAnyH_one (i := 7) (by kernel_rfl) ?_
      refine any_append rfl rfl (.tmp 12) (.tmp 14) 75 rfl (by simp [Act.eval, Act.put]) (by simp [Act.eval, Act.put]) hAp ?_
      refine ⟨B5.out, ?_⟩
      simp [go_sem]
      refine wpAnyH_take (i := 8) (v := .pointer (some ⟨p, 0, none⟩)) rfl (by kernel_rfl) (by kernel_rfl) (by kernel_rfl) (fun _ _ _ h => h) (Or.inl ⟨by rfl, fun w _ => by simp [execOp, go_sem]⟩) B5.out ?_
      simp [go_sem]
      refine wpAnyH_take (i := 9) (v := .pointer (some ⟨p, 4, none⟩)) rfl (by kernel_rfl) (by kernel_rfl) (by kernel_rfl) (fun _ _ _ h => h) (Or.inl ⟨by rfl, fun w _ => by simp [execOp, go_sem]⟩) B5.out ?_
      refine wpAnyH_one (i := 10) (by kernel_rfl) ?_
      refine any_skip rfl rfl (w' := w4.setCell ⟨p, 4, none⟩ (.slice a' (T.row.length + 1) c')) (by simp [execOp, go_sem, d4, f4]) ?_
      refine ⟨B6.out, ?_⟩
      refine wpAnyH_done (by kernel_rfl) ?_ _
      simp [go_sem]
      refine bodyPost_end (results_none rfl _ _ _) rfl ?_
      exact ⟨rfl, PO.out⟩
  · refine any_val rfl rfl (.slice (some ⟨w3.heap.size, 0, none⟩) 1 1) (w' := D) (by rw [hD, HE.out]; exact run_bs e (.tmp 13) rfl (by rw [← HE.out]; simp [Act.eval])) ?_
    refine ⟨B4, ?_⟩
    · refine wpAnyH_one (i := 4) (by kernel_rfl) ?_
      refine any_val rfl rfl s (w' := D) (by simp [execOp, go_sem, c4D]) ?_
      refine ⟨B4, ?_⟩
      refine wpAnyH_one (i := 7) (by kernel_rfl) ?_
      refine any_append rfl rfl (.tmp 12) (.tmp 14) 75 rfl (by simp [Act.eval, Act.put]) (by simp [Act.eval, Act.put]) hAp ?_
      refine ⟨B5.out, ?_⟩
      simp [go_sem]
      refine wpAnyH_take (i := 8) (v := .pointer (some ⟨p, 0, none⟩)) rfl (by kernel_rfl) (by kernel_rfl) (by kernel_rfl) (fun _ _ _ h => h) (Or.inl ⟨by rfl, fun w _ => by simp [execOp, go_sem]⟩) B5.out ?_
      simp [go_sem]
      refine wpAnyH_take (i := 9) (v := .pointer (some ⟨p, 4, none⟩)) rfl (by kernel_rfl) (by kernel_rfl) (by kernel_rfl) (fun _ _ _ h => h) (Or.inl ⟨by rfl, fun w _ => by simp [execOp, go_sem]⟩) B5.out ?_
      refine wpAnyH_one (i := 10) (by kernel_rfl) ?_
      refine any_skip rfl rfl (w' := w4.setCell ⟨p, 4, none⟩ (.slice a' (T.row.length + 1) c')) (by simp [execOp, go_sem, d4, f4]) ?_
      refine ⟨B6.out, ?_⟩
      refine wpAnyH_done (by kernel_rfl) ?_ _
      simp [go_sem]
      refine bodyPost_end (results_none rfl _ _ _) rfl ?_
      exact ⟨rfl, PO.out⟩
end
end Tg
end Go.Proofs.Ytjogpafbiackbaa
