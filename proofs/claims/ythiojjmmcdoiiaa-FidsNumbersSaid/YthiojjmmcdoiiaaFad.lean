/- fids: Add. -/
import Derived.Test.YthiojjmmcdoiiaaFga
namespace Go.Proofs.Ythiojjmmcdoiiaa
set_option linter.unusedVariables false
open Go.RowKit
namespace Fi
open Go.Proofs.Ythiojjmmcdoiiaa.Mpf Go.PlainAid

def updF (F : Nat → Option Fd) (x : Nat) (v : Option Fd) : Nat → Option Fd := fun y => if y = x then v else F y
/-- A map that is written to. -/
theorem Ent.updv {w w' : World} {g : Nat → Option Value} {F : Nat → Option Fd} (h : Ent w' g F) (x : Nat) (d : Fd) (a : Option Addr) (c : Nat) (hr : Rd8 w' (.slice a d.heard.length c) d.heard) (hl : d.heard.length ≤ maxB) :
    Ent w' (Mpf.upd g x (some (d.V (.slice a d.heard.length c)))) (updF F x (some d)) := fun y => by
  by_cases hy : y = x
  · subst hy
    exact Or.inr ⟨d, a, c, upd_same _ _ _, by unfold updF; rw [if_pos rfl], hr, hl⟩
  · rw [upd_other _ _ hy]
    have : updF F x (some d) y = F y := by unfold updF; rw [if_neg hy]
    rw [this]
    exact h y
theorem Ent.drop {w' : World} {g : Nat → Option Value} {F : Nat → Option Fd} (h : Ent w' g F) (x : Nat) : Ent w' (Mpf.upd g x none) (updF F x none) := fun y => by
  by_cases hy : y = x
  · subst hy
    exact Or.inl ⟨upd_same _ _ _, by unfold updF; rw [if_pos rfl]⟩
  · rw [upd_other _ _ hy]
    have : updF F x none y = F y := by unfold updF; rw [if_neg hy]
    rw [this]
    exact h y
/-- Something is put under a number. -/
theorem Tb.put {w : World} {p m most n : Nat} {F : Nat → Option Fd} (h : Tb w p m most n F) (x : Nat) (hx : x < 4294967296) (d : Fd) (a : Option Addr) (c : Nat) (hr : Rd8 w (.slice a d.heard.length c) d.heard) (hl : d.heard.length ≤ maxB) :
    ∃ w', (Instr.mapUpdate 85 (.map (some m)) (.int .u32 x) (d.V (.slice a d.heard.length c))).run Try.prog w = .ok () w' ∧ Tb w' p m most (if (F x).isSome then n else n + 1) (updF F x (some d)) ∧ Kept [m] w w' := by
  obtain ⟨g, hg, he⟩ := h.map
  obtain ⟨w', hU, hM, k, _⟩ := hg.update Try.underlying85 (x := x) hx (d.V (.slice a d.heard.length c))
  rw [he.has_eq] at hM
  refine ⟨w', hU, ⟨h.box.kept k (by simpa using h.ne), _, hM, ?_⟩, k⟩
  exact (he.kept k h.no8).updv (w := w) x d a c (hr.kept k h.no8) hl
/-- The error of Add. -/
def addE (F : Nat → Option Fd) (most n x : Nat) (d : Fd) : Int := if stateOk d.state = false then 1 else newE F most n x
def AddOut (w : World) (p m most n x : Nat) (F : Nat → Option Fd) (d : Fd) (e : Ending) (w' : World) : Prop :=
  (addE F most n x d = 0 ∧ e = .returned (.int .i64 0) ∧ Tb w' p m most (n + 1) (updF F x (some d)) ∧ Kept [m] w w') ∨ (addE F most n x d ≠ 0 ∧ e = .returned (.int .i64 (addE F most n x d)) ∧ Kept [] w w')
set_option maxHeartbeats 4000000 in
set_option maxRecDepth 100000 in
theorem Add_any {w : World} {p m most n : Nat} {F : Nat → Option Fd} (h : Tb w p m most n F) (x : Nat) (hx : x < 4294967296) (d : Fd) (s : Value) (T : List Nat) (hs : Src w s d.heard T) (hl : d.heard.length ≤ maxB) :
    Calls Try.prog 29 #[.pointer (some ⟨p, 0, none⟩), .int .u32 x, d.V s] w (AddOut w p m most n x F d) := by
  have IS := Lib.hid (fun w => isState_any w d.state)
  have MN := Lib.hid (fun w' k => mayBeNew_any (w := w') (h.kept0 k) x hx)
  obtain ⟨V, hV⟩ : ∃ V, V = (d.L s).toArray := ⟨_, rfl⟩
  have DV : d.V s = .agg V := by rw [hV]; rfl
  have KA : Hid (Kept [] w (w.alloc (.cells V 51))) := (Kept.refl _ _).alloc _
  have B0 : Hid (Bx (w.alloc (.cells V 51)) w.heap.size 51 V) := Bx.made _ _ _
  have V0 : V[0]? = some (.int .u8 d.state) := by rw [hV]; rfl
  have hc0 : (w.alloc (.cells V 51)).cell? ⟨w.heap.size, 0, none⟩ = some (.int .u8 d.state) := B0.out.cell 0 V0
  have HV := Lib.hid hV
  rw [DV]
  clear hV
  cases hst : stateOk d.state with
  | false =>
    have e1 : addE F most n x d = 1 := by unfold addE; rw [if_pos hst]
    have PO : Hid (∀ w', Kept [] w w' → AddOut w p m most n x F d (.returned (.int .i64 1)) w') := fun w' k => Or.inr ⟨by rw [e1]; decide, by rw [e1], k⟩
    rw [hst] at IS
    clear h hx hs hl hst MN e1 HV DV V0
    go_enter Try.func29, Try.ntmps29
    go_wp2_with (go_at_call 51; refine (IS.out _).mono ?_; rintro e w2 ⟨rfl, k2⟩)
    go_ret
    exact PO.out _ (KA.out.trans k2 (fun i hi => by cases hi))
  | true =>
    have e1 : addE F most n x d = newE F most n x := by unfold addE; rw [if_neg (by rw [hst]; simp)]
    rw [hst] at IS
    by_cases hz : newE F most n x = 0
    · rw [hz] at MN e1
      have hnone : F x = none := by
        unfold newE at hz
        split at hz
        · cases hz
        · split at hz
          · cases hz
          · rename_i h2
            cases hF : F x with
            | none => rfl
            | some v => rw [hF] at h2; exact absurd rfl h2
      have HT := Lib.hid h
      have HE1 := Lib.hid e1
      have CO : Hid (∀ w', Kept [] w w' → Calls Try.prog 53 #[.agg V] w' (Copied w' d)) := fun w' k => by
        rw [HV.out]
        exact copied_any w' d s T (hs.kept k (fun _ _ h => by cases h)) (by unfold maxB at hl; omega)
      have HRM : Hid (w.heap.size ≠ m) := fun e => by
        obtain ⟨g, hg, -⟩ := h.map
        have := hg.lt
        omega
      have PUT : Hid (∀ w', Kept [] w w' → ∀ a c, Rd8 w' (.slice a d.heard.length c) d.heard → ∃ w'', (Instr.mapUpdate 85 (.map (some m)) (.int .u32 x) (d.V (.slice a d.heard.length c))).run Try.prog w' = .ok () w'' ∧ Tb w'' p m most (n + 1) (updF F x (some d)) ∧ Kept [m] w' w'') := fun w' k a c hr => by
        have := (h.kept0 k).put x hx d a c hr hl
        rw [hnone] at this
        exact this
      have BT := Lib.hid (fun w' (k : Kept [] w w') => (h.kept0 k).box.cell 1 (v := .map (some m)) rfl)
      clear h hx hs hl hst e1 DV V0 hz hnone
      go_enter Try.func29, Try.ntmps29
      go_wp2_with (first | (go_at_call 51; refine (IS.out _).mono ?_; rintro e w2 ⟨rfl, k2⟩; have K2 : Hid (Kept [] w w2) := KA.out.trans k2 (fun i hi => by cases hi); have b2 := Lib.hid (Bx.kept B0.out k2 (by simp)); clear k2) | (go_at_call 52; refine (MN.out _ K2.out).mono ?_; rintro e w3 ⟨rfl, k3⟩; have K3 : Hid (Kept [] w w3) := K2.out.trans k3 (fun i hi => by cases hi); have b3 := Lib.hid (b2.out.kept k3 (by simp)); clear k3))
      clear hc0
      have SL : Hid (∀ w', w'.cell? ⟨p, 1, none⟩ = some (Value.map (some m)) → Bx w' w.heap.size 51 V → w'.cell? ⟨p, 1, none⟩ = some (Value.map (some m)) ∧ w'.cell? ⟨w.heap.size, 0, none⟩ = some (Value.int .u8 d.state) ∧ w'.cell? ⟨w.heap.size, 1, none⟩ = some (Value.int .u64 d.node) ∧ w'.cell? ⟨w.heap.size, 2, none⟩ = some (Value.string d.user) ∧ w'.cell? ⟨w.heap.size, 3, none⟩ = some (Value.int .u8 d.mode) ∧ w'.cell? ⟨w.heap.size, 4, none⟩ = some (Value.bool d.remove) ∧ w'.cell? ⟨w.heap.size, 5, none⟩ = some (Value.int .u64 d.last) ∧ w'.cell? ⟨w.heap.size, 6, none⟩ = some (Value.int .u64 d.told) ∧ w'.cell? ⟨w.heap.size, 7, none⟩ = some (Value.string d.tuser) ∧ w'.cell? ⟨w.heap.size, 8, none⟩ = some (Value.string d.ttree) ∧ w'.cell? ⟨w.heap.size, 9, none⟩ = some (Value.int .u64 d.ours) ∧ w'.cell? ⟨w.heap.size, 10, none⟩ = some (Value.int .u64 d.theirs) ∧ w'.cell? ⟨w.heap.size, 11, none⟩ = some (Value.int .u8 d.step) ∧ w'.cell? ⟨w.heap.size, 12, none⟩ = some (Value.int .i64 d.said) ∧ w'.cell? ⟨w.heap.size, 13, none⟩ = some (s)) := fun w' k b => by
        rw [HV.out] at b
        refine ⟨k, ?_⟩
        refine ⟨?_, ?_, ?_, ?_, ?_, ?_, ?_, ?_, ?_, ?_, ?_, ?_, ?_, ?_⟩ <;> (rw [cell_of_row w' _ _ _ _ (0, 0) b]; rfl)
      have CO2 : Hid (∀ w', Kept [] w w' → Calls Try.prog 53 #[.agg #[.int .u8 d.state, .int .u64 d.node, .string d.user, .int .u8 d.mode, .bool d.remove, .int .u64 d.last, .int .u64 d.told, .string d.tuser, .string d.ttree, .int .u64 d.ours, .int .u64 d.theirs, .int .u8 d.step, .int .i64 d.said, s]] w' (Copied w' d)) := fun w' k => by
        have := CO.out w' k
        rw [HV.out] at this
        exact this
      have K3d : Hid (Kept [] w w3.drew) := K3.out.drew
      have CO3 := Lib.hid (CO2.out _ K3d.out)
      clear CO CO2
      go_region_held3 (fun w' => w'.cell? ⟨p, 1, none⟩ = some (Value.map (some m)) ∧ w'.cell? ⟨w.heap.size, 0, none⟩ = some (Value.int .u8 d.state) ∧ w'.cell? ⟨w.heap.size, 1, none⟩ = some (Value.int .u64 d.node) ∧ w'.cell? ⟨w.heap.size, 2, none⟩ = some (Value.string d.user) ∧ w'.cell? ⟨w.heap.size, 3, none⟩ = some (Value.int .u8 d.mode) ∧ w'.cell? ⟨w.heap.size, 4, none⟩ = some (Value.bool d.remove) ∧ w'.cell? ⟨w.heap.size, 5, none⟩ = some (Value.int .u64 d.last) ∧ w'.cell? ⟨w.heap.size, 6, none⟩ = some (Value.int .u64 d.told) ∧ w'.cell? ⟨w.heap.size, 7, none⟩ = some (Value.string d.tuser) ∧ w'.cell? ⟨w.heap.size, 8, none⟩ = some (Value.string d.ttree) ∧ w'.cell? ⟨w.heap.size, 9, none⟩ = some (Value.int .u64 d.ours) ∧ w'.cell? ⟨w.heap.size, 10, none⟩ = some (Value.int .u64 d.theirs) ∧ w'.cell? ⟨w.heap.size, 11, none⟩ = some (Value.int .u8 d.step) ∧ w'.cell? ⟨w.heap.size, 12, none⟩ = some (Value.int .i64 d.said) ∧ w'.cell? ⟨w.heap.size, 13, none⟩ = some (s)) (first | exact SL.out _ (BT.out _ K3d.out) b3.out | exact SL.out _ (BT.out _ K4.out) b4.out | exact SL.out _ (HT5.out.box.cell 1 rfl) b5.out) (first | (go_at_call 53; refine CO3.out.mono ?_; rintro e w4 ⟨s', rfl, own, k4⟩; have K4 : Hid (Kept [] w w4) := K3d.out.trans k4 (fun i hi => by cases hi); have b4 := Lib.hid (Bx.kept (Bx.drew b3.out) k4 (by simp)); obtain ⟨a', c', hs'⟩ := own_slice own.out; subst hs'; obtain ⟨w5, hU, T5, k5⟩ := PUT.out w4 K4.out a' c' (Rd8.of_own own.out); have HT5 := Lib.hid T5; have K5 := Lib.hid k5; have b5 := Lib.hid (b4.out.kept k5 (by simp; exact HRM.out)); clear T5 k5 k4 own))
      rename_i hh
      clear hh
      go_wp2_with fail
      go_ret
      exact Or.inl ⟨HE1.out, rfl, HT5.out, (K4.out.mono (fun i hi => by cases hi)).trans K5.out (fun i hi => Or.inl hi)⟩
    · have PO : Hid (∀ w', Kept [] w w' → AddOut w p m most n x F d (.returned (.int .i64 (newE F most n x))) w') := fun w' k => Or.inr ⟨by rw [e1]; exact hz, by rw [e1], k⟩
      obtain ⟨z, hz2⟩ : ∃ z, z = newE F most n x := ⟨_, rfl⟩
      rw [← hz2] at MN PO hz
      clear h hx hs hl hst e1 HV DV V0 hz2
      have hz3 : (z == 0) = false := by simpa using hz
      clear hz
      go_enter Try.func29, Try.ntmps29
      go_wp2_with (first | (go_at_call 51; refine (IS.out _).mono ?_; rintro e w2 ⟨rfl, k2⟩; have K2 : Hid (Kept [] w w2) := KA.out.trans k2 (fun i hi => by cases hi); clear k2) | (go_at_call 52; refine (MN.out _ K2.out).mono ?_; rintro e w3 ⟨rfl, k3⟩; have K3 : Hid (Kept [] w w3) := K2.out.trans k3 (fun i hi => by cases hi); clear k3))
      go_ret
      exact PO.out _ K3.out
end Fi
end Go.Proofs.Ythiojjmmcdoiiaa
