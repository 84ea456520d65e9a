/- RulesRights returns true for every case: the row; the tied card. Of what the row lists nothing is read but internal/bytealg.MaxLen, of which only that it holds some number. -/
import Derived.Test.YtondjodfkgefgaaGreatDoorRows
import Derived.Test.YtondjodfkgefgaaGreatDoorCards
import Derived.Test.YtondjodfkgefgaaGreatDoorTie
import Derived.Test.YtondjodfkgefgaaGreatDoorRqs
import Derived.Test.YtondjodfkgefgaaGreatDoorOcs
import Derived.WalkKit
import Derived.ProofKit
import Derived.LaidMore
import Derived.OpenShut
import Derived.Stop.Joined
import Derived.SevenTiedAt
namespace Go.Proofs.YtondjodfkgefgaaGreatDoor.rulesRights
open Go.ChangeShapes Go.WideShapes Go.ChangeAt Go.RowKit Go.WideMaps Go.WideElems Go.Shelf
open Go.Proofs.YtondjodfkgefgaaGreatDoor.Nm
set_option linter.unusedVariables false

set_option maxRecDepth 100000 in
theorem lifted (os : Os) (started : os.Started) (H : Type) (enc : TypeId × Value → H) :
    ReturnsInHanded {} Tryz.checked os 3 .any (fun w args => (Rows.rulesRightsSpec.pre enc Tryz.prog Tryz.f3 [] false w args ∧ laidMetH Tryz.prog laid2 w) ∧ sizedMet enc Tryz.prog Tryz.f3 (OpenSpec.ofChange Rows.rulesRightsSpec) false w args)
      (Rows.rulesRightsSpec.post enc Tryz.prog Tryz.f3 false true false false) := by
  refine lift8 started (by as_aux_lemma => kernel_rfl) Tryz.func3 #[.string ByteArray.empty, .string ByteArray.empty, .agg #[.int .u64 0, .int .u64 0, .string ByteArray.empty, .int .u32 0, .string ByteArray.empty, .string ByteArray.empty, .string ByteArray.empty, .int .u32 0, .int .u32 0, .int .u32 0, .int .u64 0, .int .i64 0, .int .i64 0]]
    (ChangeSpec.witness_shaped (enc := enc) (C := Tryz.checked) (os := os) (X := fun w _ => laidMetH Tryz.prog laid2 w) false (World.laidAll Tryz.prog os laid2) #[.string ByteArray.empty, .string ByteArray.empty, .agg #[.int .u64 0, .int .u64 0, .string ByteArray.empty, .int .u32 0, .string ByteArray.empty, .string ByteArray.empty, .string ByteArray.empty, .int .u32 0, .int .u32 0, .int .u32 0, .int .u64 0, .int .i64 0, .int .i64 0]] 8 (World.laidAll_os _ _ _) (wit_shaped os) (by as_aux_lemma => kernel_rfl) (by as_aux_lemma => kernel_rfl) (by as_aux_lemma => kernel_rfl) (wit_met os _)) ?_
  intro W base args ds gs before hval0 hW hsz0 hml _
  have hval : ∀ (j : Nat) t v, Tryz.f3.params[j]? = some t → args[j]? = some v → Value.okWide Tryz.prog W .any base t v := hval0
  have hW' := hW
  have hsz : (DataW.weightsEach Tryz.prog (Tryz.f3.params.toList ++ Rows.rulesRightsSpec.plain.varTypes Tryz.prog) (ds ++ gs)).all (· ≤ reachBytes) = true := hsz0
  obtain ⟨p, q, hA0, hV, rfl, hfz, hnd⟩ := hW
  have hA : DataW.TrodAll enc Tryz.prog W 0 (fun _ => true) true Tryz.f3.params.toList args.toList ds p := hA0
  rw [Tryz.params3] at hA hval hsz
  obtain ⟨v0, vs0, d0, ds0, p0, q0, hargs, rfl, rfl, h0, r0⟩ := trodAll_cons hA
  obtain ⟨v1, vs1, d1, ds1, p1, q1, rfl, rfl, rfl, h1, r1⟩ := trodAll_cons r0
  obtain ⟨v2, vs2, d2, ds2, p2, q2, rfl, rfl, rfl, h2, r2⟩ := trodAll_cons r1
  obtain ⟨rfl, rfl, rfl⟩ := trodAll_nil r2
  obtain rfl : args = #[v0, v1, v2] := by cases args; simp_all
  obtain ⟨rfl, rfl⟩ := trodVars_none hV
  have k2 := h2
  have lt2 : ∀ x ∈ p2, x.block < W.heap.size := by obtain ⟨m, hm⟩ := k2; exact DataW.trod_lt m _ _ _ hm
  have hw0 : ∀ x ∈ d0.weights Tryz.prog 9, x ≤ 140737488355328 := fun x hx => by
    have h := List.all_eq_true.1 hsz x (DataW.weights_mem_each (j := 0) (t := 9) (d := d0) rfl rfl x hx)
    have h2 : x ≤ reachBytes := by simpa using h
    have h3 := reachBytes_lt
    omega
  have hw1 : ∀ x ∈ d1.weights Tryz.prog 9, x ≤ 140737488355328 := fun x hx => by
    have h := List.all_eq_true.1 hsz x (DataW.weights_mem_each (j := 1) (t := 9) (d := d1) rfl rfl x hx)
    have h2 : x ≤ reachBytes := by simpa using h
    have h3 := reachBytes_lt
    omega
  have hw2 : ∀ x ∈ d2.weights Tryz.prog 25, x ≤ 140737488355328 := fun x hx => by
    have h := List.all_eq_true.1 hsz x (DataW.weights_mem_each (j := 2) (t := 25) (d := d2) rfl rfl x hx)
    have h2 : x ≤ reachBytes := by simpa using h
    have h3 := reachBytes_lt
    omega
  obtain ⟨text, rfl, rfl, rfl, w0⟩ := Go.ChangeMaps.open_string Tryz.underlying9 (hval 0 9 v0 rfl rfl) h0
  obtain ⟨u, rfl, rfl, rfl, w1⟩ := Go.ChangeMaps.open_string Tryz.underlying9 (hval 1 9 v1 rfl rfl) h1
  have s0 : text.size ≤ 140737488355328 := by
    have e : text.size = text.data.toList.length := (Array.length_toList).symm
    rw [e]
    exact hw0 _ (by simp [DataW.weights])
  have s1 : u.size ≤ 140737488355328 := by
    have e : u.size = u.data.toList.length := (Array.length_toList).symm
    rw [e]
    exact hw1 _ (by simp [DataW.weights])
  obtain ⟨cs2, rfl, hc2⟩ := okWide_struct Tryz.underlying25 (hval 2 25 v2 rfl rfl)
  obtain ⟨fu2, hf2⟩ := h2
  obtain ⟨n, hn, sn⟩ := Ocs.node (show (Value.agg cs2).cells.toList.length = 13 from (by show cs2.toList.length = 13; rw [Array.length_toList]; exact hc2.trans Ocs.k_n)) hf2 hw2
  obtain rfl : cs2 = n.L.toArray := by
    have : cs2.toList = n.L := hn
    rw [← this, Array.toArray_toList]
  clear hA0 hval0 hval
  simp only [List.append_nil] at hW'
  refine (Ru.rights_law W hml text u n s0 s1 sn.name sn.uid sn.gid sn.muid sn.mode).mono fun e W' ⟨he, hk⟩ => ?_
  have bel : Below W.heap.size W W' := hk.below (fun i hi => by simp at hi) (Nat.le_refl _)
  subst he
  exact ⟨_, rfl, _, _, _, [], _, [], hW', trodAll_mk1 (shut_bool Tryz.underlying4 _), (trodAll_cons_mk (Go.ChangeMaps.shut_string Tryz.underlying9 w0) (trodAll_cons_mk (Go.ChangeMaps.shut_string Tryz.underlying9 w1) (trodAll_cons_mk (Below.trod Ocs.laidOut (by as_aux_lemma => kernel_rfl) (of_decide_eq_true (by as_aux_lemma => kernel_rfl)) k2 bel lt2) trodAll_mk0))), rfl, bel.frame _, fun h => by cases h⟩

set_option maxHeartbeats 4000000 in
theorem row : Rows.RulesRightsSaid :=
  OpenClaim.holds_of_wide 3 Tryz.f3 rfl rfl rfl rfl rfl rfl rfl ⟨rfl, rfl, rfl, rfl, rfl⟩ rfl rfl rfl rfl rfl (by as_aux_lemma => kernel_rfl) Tryz.func3 (by as_aux_lemma => kernel_rfl)
    (of_decide_eq_true (by as_aux_lemma => kernel_rfl)) (by unfold Func.isWrapper; first | (rw [if_pos (by decide +kernel)]; as_aux_lemma => kernel_rfl) | (rw [if_neg (by decide +kernel)]; exact ⟨rfl, rfl⟩))
    (fun os started H enc _ => lifted os started H enc)

set_option maxHeartbeats 4000000 in
/-- ████ THE STATEMENT: THE TIED CARD ████ -/
theorem proved : Rows.RulesRightsCardSaid :=
  Claim7.holds_tied_plain_at .later [] [.data, .pinned] true (true, "2c8d9bbb1093542f37ba0be78f378d638feb49ebbdb19fe1c50f9e086917052c") true
    row (fun _ h => by cases h) (by as_aux_lemma => kernel_rfl) (fun _ h => by cases h) rulesRights_row_tie rfl ⟨rfl, rfl⟩ (by as_aux_lemma => kernel_rfl) rfl
    (fun f fn hf hfn => by
      obtain rfl : f = 3 := Option.some.inj ((show Tryz.prog.funcNamed "verger/vergerlaw09.RulesRights" = some 3 by as_aux_lemma => kernel_rfl).symm.trans hf) |>.symm
      obtain rfl : fn = Tryz.f3 := (Option.some.inj (Tryz.func3.symm.trans hfn)).symm
      exact ⟨by as_aux_lemma => kernel_rfl, fun j t ht => by
        rw [Tryz.params3] at ht
        have hm : t ∈ [9, 9, 25] := by
          have := Array.mem_of_getElem? ht
          simp only [List.mem_toArray, List.mem_cons, List.not_mem_nil, or_false, or_self_left] at this ⊢
          exact this
        have hall : ([9, 9, 25].all fun u => !Tryz.prog.wantsStandIn u) = true := by kernel_rfl
        exact (show Tryz.prog.wantsStandIn t = false by simpa using List.all_eq_true.1 hall t hm)⟩)
    (by as_aux_lemma => kernel_rfl)
#print axioms proved
end Go.Proofs.YtondjodfkgefgaaGreatDoor.rulesRights
