/- users: tableOf and Print where the accounts are as they may be. -/
import Derived.Test.YteeheapenfklcaaDoorUpt
import Derived.Test.YteeheapenfklcaaDoorUtx
import Derived.Test.YteeheapenfklcaaDoorUmk
import Derived.Test.YteeheapenfklcaaDoorUad
import Derived.Test.YteeheapenfklcaaDoorUp1
import Derived.Test.YteeheapenfklcaaDoorUpa
namespace Go.Proofs.YteeheapenfklcaaDoor
set_option linter.unusedVariables false
open Go.RowKit Go.Shelf
attribute [local go_sem] Oper.semAt_some
namespace Us
open Go.Proofs.YteeheapenfklcaaDoor.Utf Go.Proofs.YteeheapenfklcaaDoor.Txt Go.PlainAid Go.Proofs.YteeheapenfklcaaDoor.Mpf
/-- Accounts in memory, or none. -/
structure RowsA (w : World) (sl : Value) (L : List (Acc × Value)) : Prop where
  row : w.ownsRow 0 45 4 sl L.length (L.flatMap accC)
  mem : ∀ x ∈ L, Mem w x.2 x.1.members
theorem RowsA.kept0 {w w' : World} {sl : Value} {L : List (Acc × Value)} (h : RowsA w sl L) (k : Kept [] w w') : RowsA w' sl L :=
  ⟨own_kept h.row k (fun b hb hm => by cases hm), fun x hx => own_kept (h.mem x hx) k (fun b hb hm => by cases hm)⟩
theorem RowsA.at' {w : World} {a : Option Addr} {c : Nat} {L : List (Acc × Value)} (h : RowsA w (.slice a L.length c) L) {k : Nat} (hk : k < L.length) : ∃ g, a = some ⟨g, 0, none⟩ ∧ w.cell? ⟨g, k * 4, none⟩ = some (.string L[k].1.name) ∧ w.cell? ⟨g, k * 4 + 1, none⟩ = some (.string L[k].1.leader) ∧ w.cell? ⟨g, k * 4 + 2, none⟩ = some L[k].2 ∧ w.cell? ⟨g, k * 4 + 3, none⟩ = some (.string L[k].1.key) := by
  have hrow := h.row
  rcases hrow.2 with ⟨_, h0⟩ | ⟨g, cap, cur, e, -⟩
  · omega
  cases e
  obtain ⟨f0, f1, f2, f3⟩ := flat_at L k hk
  exact ⟨g, rfl, (World.ownsRow.cellAt hrow (k * 4) (by omega)).trans f0, (World.ownsRow.cellAt hrow (k * 4 + 1) (by omega)).trans f1, (World.ownsRow.cellAt hrow (k * 4 + 2) (by omega)).trans f2, (World.ownsRow.cellAt hrow (k * 4 + 3) (by omega)).trans f3⟩
theorem accs_at {L : List (Acc × Value)} {k : Nat} (hk : k < L.length) : (accs L)[k]'(by rw [accs_length]; exact hk) = L[k].1 := by unfold accs; rw [List.getElem_map]
/-- Sizes out of the form. -/
theorem form_fit {a : Acc} (h : form a = true) (hm : a.members.length ≤ 65537) : Fit a := by
  have f := formed h
  have nz : ∀ s, isName s = true → s.size ≤ 32 := fun s hs => by
    unfold isName at hs
    simp only [Bool.and_eq_true, decide_eq_true_eq] at hs
    exact hs.1.1.2
  unfold form isKey at h
  simp only [Bool.and_eq_true, decide_eq_true_eq] at h
  refine ⟨nz _ f.name, ?_, h.2.2, fun m hx => nz _ (f.mem m hx), hm⟩
  rcases f.lead with h | h
  · omega
  · exact nz _ h
/-- What may be printed. -/
structure Good (T : List Acc) : Prop where
  form : ∀ a ∈ T, form a = true
  adds : ∀ k (h : k < T.length), addOk (T.take k) T[k] = true
  knows : ∀ a ∈ T, knows T a = true
  text : (textL T).length ≤ 65536
  much : T.length ≤ 65537 ∧ ∀ a ∈ T, a.members.length ≤ 65537
theorem Good.parse {T : List Acc} (g : Good T) : parse (ofL (textL T)) = (some T, 0, 0) := parse_text g.form g.adds g.knows g.text
theorem OutAdd.ok {w : World} {B p : Nat} {sl : Value} {m1 m2 : Nat} {L : List (Acc × Value)} {a : Acc} {e : Ending} {w' : World} (h : OutAdd w B p sl m1 m2 L a e w') (ha : addOk (accs L) a = true) : e = .returned (.tuple #[]) ∧ ∃ sl' n2' v', TbX w' B p sl' m1 m2 n2' (bel (accs L ++ [a])) (L ++ [(a, v')]) ∧ Kept (tbS p m1 m2 sl) w w' := by
  rcases h with ⟨_, rfl, sl', n2', v', h1, h2⟩ | ⟨h1, _⟩
  · exact ⟨rfl, sl', n2', v', h1, h2⟩
  · rw [ha] at h1; cases h1
set_option maxHeartbeats 16000000 in
set_option maxRecDepth 100000 in
theorem tableOf_ok {w : World} {a : Option Addr} {c : Nat} {L : List (Acc × Value)} (hR : RowsA w (.slice a L.length c) L) (g : Good (accs L)) :
    Calls Tryd.prog 28 #[.slice a L.length c] w fun e w' => ∃ B p, e = .returned (.pointer (some ⟨p, 0, none⟩)) ∧ Tb w' B p (accs L) ∧ Kept [] w w' := by
  obtain ⟨gF, gA, gK, gT, gM1, gM2⟩ := g
  have hLL : L.length ≤ 65537 := by rw [accs_length] at gM1; exact gM1
  have FITS : Hid (∀ k (h : k < L.length), Fit L[k].1 ∧ form L[k].1 = true ∧ addOk ((accs L).take k) L[k].1 = true ∧ knows (accs L) L[k].1 = true) := fun k h => by
    have hm : L[k].1 ∈ accs L := List.mem_map.2 ⟨L[k], List.getElem_mem h, rfl⟩
    have ha := gA k (by rw [accs_length]; exact h)
    rw [accs_at h] at ha
    exact ⟨form_fit (gF _ hm) (gM2 _ hm), gF _ hm, ha, gK _ hm⟩
  have FALL : Hid (∀ x ∈ accs L, Fit x) := fun x hx => form_fit (gF x hx) (gM2 x hx)
  have TK : Hid (∀ k (h : k < L.length), (accs L).take k ++ [L[k].1] = (accs L).take (k + 1)) := fun k h => by
    rw [List.take_succ_eq_append_getElem (by rw [accs_length]; exact h), accs_at h]
  have TA : Hid ((accs L).take L.length = accs L) := by
    show _ = _
    exact List.take_of_length_le (by rw [accs_length]; exact Nat.le_refl _)
  have GT : Hid (decide ((textL (accs L)).length ≤ 65536) = true) := decide_eq_true gT
  have HR := Lib.hid hR
  clear hR gF gA gK gT gM1 gM2
  go_enter Tryd.func28, Tryd.ntmps28
  go_wp2_with fail
  go_loopw [12] (fun iv wr => ∃ i : Nat, i ≤ L.length ∧ iv = .int .i64 i ∧ Hid (Kept [] w wr)) (fun iv _ => L.length - (intOf iv).toNat)
  case atStart => exact ⟨0, by omega, rfl, Kept.refl _ _⟩
  case round =>
    obtain ⟨i, hi, rfl, hK⟩ := hrel
    by_cases hlt : i < L.length
    · have j1 : (i : Int) < (L.length : Int) := by omega
      obtain ⟨g, hg, c0, c1, c2, c3⟩ := (HR.out.kept0 hK.out).at' hlt
      subst hg
      have ME := (HR.out.kept0 hK.out).mem _ (List.getElem_mem hlt)
      obtain ⟨ft, fo, -, -⟩ := FITS.out i hlt
      obtain ⟨x, hx⟩ : ∃ x, x = L[i] := ⟨_, rfl⟩
      rw [← hx] at c0 c1 c2 c3 ME ft fo
      clear hx
      obtain ⟨⟨name, leader, ms, key⟩, v⟩ := x
      simp only at c0 c1 c2 c3 ME
      obtain ⟨va, vc, rfl⟩ := ME.slice
      obtain ⟨q1, q2, q3, q4, q5⟩ := ft
      simp only at q1 q2 q3 q4 q5
      have KA : Hid (Kept [] w (wr.alloc (.cells #[.string name, .string leader, .slice va ms.length vc, .string key] 45 (0, 0)))) := hK.out.alloc _
      have MH := Lib.hid (mustHaveForm_any (wr.alloc (.cells #[.string name, .string leader, .slice va ms.length vc, .string key] 45 (0, 0))) ⟨name, leader, ms, key⟩ (.slice va ms.length vc) (own_kept ME ((Kept.refl [] wr).alloc _) (fun k hk hm => by cases hm)) (by simp only; omega) (by simp only; omega) (by simp only; omega) (fun m hm => by have := q4 m hm; omega) (by simp only; omega))
      rw [fo] at MH
      clear ME q1 q2 q3 q4 q5 fo
      go_wp2_with fail
      refine MH.out.mono ?_
      rintro e w3 (⟨-, rfl, k3⟩ | ⟨h, -⟩)
      · have K3 : Hid (Kept [] w w3) := KA.out.trans k3 (fun i hi => by cases hi)
        clear k3 KA MH hK c0 c1 c2 c3
        go_wp2_with fail
        go_roundw
        case rel => exact ⟨i + 1, by omega, by go_num, K3⟩
        case measure => simp [intOf]; omega
      · cases h
    · have j1 : ¬ (i : Int) < (L.length : Int) := by omega
      go_wp2_with fail
      refine (newTable_any _).mono ?_
      rintro e w2 ⟨p, m1, m2, rfl, hT, k2⟩
      have K2 : Hid (Kept [] w w2) := hK.out.trans k2 (fun i hi => by cases hi)
      obtain ⟨B, hB⟩ : ∃ B, B = wr.heap.size := ⟨_, rfl⟩
      rw [← hB] at hT
      have HB : Hid (w.heap.size ≤ B ∧ B ≤ w2.heap.size) := by have a := hK.out.size; have b := k2.size; show _ ∧ _; omega
      have T2 := Lib.hid hT
      have NIL : Hid (accs [] = (accs L).take 0) := rfl
      clear hB hT k2 hK j1 hlt hi
      go_wp2_with fail
      go_loopw [22] (fun iv wr => ∃ (i n2 : Nat) (sl : Value) (M : List (Acc × Value)), i ≤ L.length ∧ iv = .int .i64 i ∧ Hid (Kept [] w wr) ∧ Hid (B ≤ wr.heap.size) ∧ Hid (accs M = (accs L).take i) ∧ Hid (TbX wr B p sl m1 m2 n2 (bel (accs M)) M)) (fun iv _ => L.length - (intOf iv).toNat)
      case atStart => exact ⟨0, 0, _, [], by omega, rfl, K2, HB.out.2, NIL, T2⟩
      case round =>
        clear T2 K2 NIL
        obtain ⟨i, n2, sl, M, hi, rfl, hK, hBw, hM, hT⟩ := hrel
        by_cases hlt : i < L.length
        · have j1 : (i : Int) < (L.length : Int) := by omega
          obtain ⟨g, hg, c0, c1, c2, c3⟩ := (HR.out.kept0 hK.out).at' hlt
          subst hg
          have ME := (HR.out.kept0 hK.out).mem _ (List.getElem_mem hlt)
          obtain ⟨ft, -, fa, -⟩ := FITS.out i hlt
          have tk := TK.out i hlt
          have ML : M.length ≤ 1048576 := by
            have := congrArg List.length hM.out
            rw [accs_length, List.length_take, accs_length] at this
            omega
          obtain ⟨x, hx⟩ : ∃ x, x = L[i] := ⟨_, rfl⟩
          rw [← hx] at c0 c1 c2 c3 ME ft fa tk
          clear hx
          rw [← hM.out] at fa
          obtain ⟨⟨name, leader, ms, key⟩, v⟩ := x
          simp only at c0 c1 c2 c3 ME tk
          obtain ⟨va, vc, rfl⟩ := ME.slice
          have TKK := Lib.hid tk
          obtain ⟨q1, q2, q3, q4, q5⟩ := ft
          simp only at q1 q2 q3 q4 q5
          have KA : Hid (Kept [] w (wr.alloc (.cells #[.string name, .string leader, .slice va ms.length vc, .string key] 45 (0, 0)))) := hK.out.alloc _
          have AD := Lib.hid (add_x (hT.out.kept ((Kept.refl [] wr).alloc (.cells #[.string name, .string leader, .slice va ms.length vc, .string key] 45 (0, 0)))) ⟨name, leader, ms, key⟩ (.slice va ms.length vc) (own_kept ME ((Kept.refl [] wr).alloc _) (fun k hk hm => by cases hm)) (by have := hBw.out; simp; omega) (by simp only; omega) (fun m hm => by have := q4 m hm; omega) (by simp only; omega) ML)
          have FA := Lib.hid fa
          have LOW : Hid (∀ i ∈ tbS p m1 m2 sl, B ≤ i) := fun i hm => by
            by_cases hb : B ≤ i
            · exact hb
            · exact absurd hm (hT.out.low (by omega))
          clear ME q1 q2 q3 q4 q5 fa tk ML
          go_wp2_with fail
          refine AD.out.mono ?_
          rintro e w3 ho
          obtain ⟨rfl, sl', n2', v', t3, k3⟩ := ho.ok FA.out
          have K3 : Hid (Kept [] w w3) := KA.out.trans k3 (fun i hi => Or.inr (by have a := LOW.out i hi; have b := HB.out.1; omega))
          have B3 : Hid (B ≤ w3.heap.size) := by have a := k3.size; have b := hBw.out; simp at a; show _ ≤ _; omega
          have T3 : Hid (TbX w3 B p sl' m1 m2 n2' (bel (accs (M ++ [(⟨name, leader, ms, key⟩, v')]))) (M ++ [(⟨name, leader, ms, key⟩, v')])) := by
            have e : accs (M ++ [(⟨name, leader, ms, key⟩, v')]) = accs M ++ [⟨name, leader, ms, key⟩] := by simp [accs]
            rw [e]
            exact t3
          have M3 : Hid (accs (M ++ [(⟨name, leader, ms, key⟩, v')]) = (accs L).take (i + 1)) := by
            have e : accs (M ++ [(⟨name, leader, ms, key⟩, v')]) = accs M ++ [⟨name, leader, ms, key⟩] := by simp [accs]
            show _ = _
            rw [e, hM.out]
            exact TKK.out
          clear ho t3 k3 KA AD FA LOW hK hBw hM hT c0 c1 c2 c3 TKK
          go_wp2_with fail
          go_roundw
          case rel => exact ⟨i + 1, n2', sl', _, by omega, by go_num, K3, B3, M3, T3⟩
          case measure => simp [intOf]; omega
        · have j1 : ¬ (i : Int) < (L.length : Int) := by omega
          have ei : i = L.length := by omega
          subst ei
          have HM : Hid (accs M = accs L) := hM.out.trans TA.out
          have MLN : M.length ≤ 65537 := by
            have := congrArg List.length HM.out
            rw [accs_length, accs_length] at this
            omega
          clear hM j1 hlt hi hBw
          have K0 := hK
          have T0 := hT
          obtain ⟨wb, hwb⟩ : ∃ x, x = wr := ⟨_, rfl⟩
          have T0' : Hid (∀ w', Kept [] wr w' → TbX w' B p sl m1 m2 n2 (bel (accs M)) M) := fun w' k => hT.out.kept k
          clear hT
          go_wp2_with fail
          go_loopw [32] (fun iv wx => ∃ i : Nat, i ≤ L.length ∧ iv = .int .i64 i ∧ Hid (Kept [] wr wx)) (fun iv _ => L.length - (intOf iv).toNat)
          case atStart => exact ⟨0, by omega, rfl, Kept.refl _ _⟩
          case round =>
            obtain ⟨i, hi, rfl, hX⟩ := hrel
            have hKX : Hid (Kept [] w _) := K0.out.trans hX.out (fun i hi => by cases hi)
            by_cases hlt : i < L.length
            · have j1 : (i : Int) < (L.length : Int) := by omega
              obtain ⟨g, hg, c0, c1, c2, c3⟩ := (HR.out.kept0 hKX.out).at' hlt
              subst hg
              have ME := (HR.out.kept0 hKX.out).mem _ (List.getElem_mem hlt)
              obtain ⟨ft, -, -, fk⟩ := FITS.out i hlt
              obtain ⟨x, hx⟩ : ∃ x, x = L[i] := ⟨_, rfl⟩
              rw [← hx] at c0 c1 c2 c3 ME ft fk
              clear hx
              rw [← HM.out] at fk
              obtain ⟨⟨name, leader, ms, key⟩, v⟩ := x
              simp only at c0 c1 c2 c3 ME
              obtain ⟨va, vc, rfl⟩ := ME.slice
              obtain ⟨q1, q2, q3, q4, q5⟩ := ft
              simp only at q1 q2 q3 q4 q5
              have KA := Lib.hid (hX.out.alloc (.cells #[.string name, .string leader, .slice va ms.length vc, .string key] 45 (0, 0)))
              have MK := Lib.hid (mustKnow_x (T0'.out _ KA.out) ⟨name, leader, ms, key⟩ (.slice va ms.length vc) (own_kept ME ((Kept.refl [] _).alloc _) (fun k hk hm => by cases hm)) (by simp only; omega) (fun m hm => by have := q4 m hm; omega) (by simp only; omega))
              rw [fk] at MK
              clear ME q1 q2 q3 q4 q5 fk
              go_wp2_with fail
              refine MK.out.mono ?_
              rintro e w3 (⟨-, rfl, k3⟩ | ⟨h, -⟩)
              · have K3 := Lib.hid (KA.out.trans k3 (fun i hi => by cases hi))
                clear k3 KA MK hX hKX c0 c1 c2 c3
                go_wp2_with fail
                go_roundw
                case rel => exact ⟨i + 1, by omega, by go_num, K3⟩
                case measure => simp [intOf]; omega
              · cases h
            · have j1 : ¬ (i : Int) < (L.length : Int) := by omega
              have MF := Lib.hid (mustFit_x (T0'.out _ hX.out) MLN (fun x hx => FALL.out x (by rw [← HM.out]; exact hx)))
              rw [HM.out, GT.out] at MF
              go_wp2_with fail
              refine MF.out.mono ?_
              rintro e w3 (⟨-, rfl, k3⟩ | ⟨h, -⟩)
              · go_wp2_with fail
                go_ret
                refine ⟨B, p, rfl, ⟨sl, m1, m2, n2, M, ?_, HM.out⟩, hKX.out.trans k3 (fun i hi => by cases hi)⟩
                have := T0'.out _ (hX.out.trans k3 (fun i hi => by cases hi))
                rw [HM.out] at this
                exact this
              · cases h
theorem print1_idle (p q : Value) (w : World) :
    CallsD Tryd.prog 27 #[p, q] .returning w fun e u' w' => e = .returned (.tuple #[]) ∧ u' = .returning ∧ w' = w := by
  refine callsD_of_wpS Tryd.func27 rfl fun c₀ cs hu => ?_
  apply wpS_seq
  apply wpS_region
  simp [wpOpsS, go_sem, recoverD, hu, Tryd.ntmps27, Exit.thenS]
  apply wpS_seq
  apply wpS_region
  simp [wpOpsS, go_sem, Exit.thenS]
  refine wpS_cond (t := false) (by simp [Act.eval, Array.replicate]) ?_
  simp only [Bool.false_eq_true, if_false]
  refine wpS_of_wp (wp_skip ?_)
  cases c₀
  simp_all [bodyPostS, results, Tryd.results27]
set_option maxHeartbeats 16000000 in
set_option maxRecDepth 100000 in
theorem Print_ok {w : World} {a : Option Addr} {c : Nat} {L : List (Acc × Value)} (hR : RowsA w (.slice a L.length c) L) (g : Good (accs L)) :
    Calls Tryd.prog 9 #[.slice a L.length c] w fun e w' => e = .returned (.tuple #[.string (bA (textL (accs L))), .int .i64 0]) ∧ Kept [] w w' := by
  have hmf : ∀ (fn : Fn) (first cap : Array Value) (w : World), (Instr.makeFunc fn first cap).run Tryd.prog w = .ok (.func fn first cap) w := fun _ _ _ _ => rfl
  obtain ⟨w1, hw1⟩ : ∃ w1, w1 = (w.alloc (.cells #[.string ⟨#[]⟩] 9)).alloc (.cells #[.int .i64 0] 25) := ⟨_, rfl⟩
  obtain ⟨R3, hR3⟩ : ∃ R, R = w.heap.size + 1 := ⟨_, rfl⟩
  obtain ⟨R2, hR2⟩ : ∃ R, R = w.heap.size := ⟨_, rfl⟩
  have k1 : Kept [] w w1 := by rw [hw1]; exact ((Kept.refl _ _).alloc _).alloc _
  have b2 : w1.heap[R2]? = some (.cells #[.string ⟨#[]⟩] 9 (0, 0)) := by rw [hw1, hR2]; exact (Below.heap_alloc _ _ _ (by simp)).trans (MapKept.heap_alloc w _).1
  have b3 : w1.heap[R3]? = some (.cells #[.int .i64 0] 25 (0, 0)) := by
    rw [hw1, hR3]
    have := (MapKept.heap_alloc (w.alloc (.cells #[.string ⟨#[]⟩] 9)) (.cells #[.int .i64 0] 25)).1
    rwa [World.size_alloc] at this
  have HRL : Hid (w.heap.size ≤ R2 ∧ w.heap.size ≤ R3 ∧ R2 ≠ R3) := (by omega : w.heap.size ≤ R2 ∧ w.heap.size ≤ R3 ∧ R2 ≠ R3)
  have TO := Lib.hid (tableOf_ok (hR.kept0 k1) g)
  have K1 := Lib.hid k1
  have B2 := Lib.hid b2
  have B3 := Lib.hid b3
  have HW1 := Lib.hid hw1
  have HR2 := Lib.hid hR2
  have HR3 := Lib.hid hR3
  have MX : Hid (L.length ≤ 65537 ∧ ∀ x ∈ accs L, Fit x) := ⟨by have := g.much.1; rw [accs_length] at this; exact this, fun x hx => form_fit (g.form x hx) (g.much.2 x hx)⟩
  obtain ⟨z, hz⟩ : ∃ z, z = bA (textL (accs L)) := ⟨_, rfl⟩
  have HZ := Lib.hid hz
  rw [← hz]
  clear hw1 hR2 hR3 k1 b2 b3 hR g hz
  go_enter_defers Tryd.func9, Tryd.ntmps9
  go_wp2_with fail
  rw [← HW1.out, ← HR3.out, ← HR2.out]
  refine TO.out.mono ?_
  rintro e w2 ⟨B, p, rfl, ⟨sl, m1, m2, n2, M, hT, hM⟩, k2⟩
  have TX := Lib.hid (text_x hT (by have h1 := congrArg List.length hM; rw [accs_length, accs_length] at h1; have := MX.out.1; omega) (fun x hx => MX.out.2 x (by rw [← hM]; exact hx)))
  rw [hM, ← HZ.out] at TX
  have c2 := (k2.block _ (block_lt B2.out) (by simp)).trans B2.out
  have c3 := (k2.block _ (block_lt B3.out) (by simp)).trans B3.out
  have C2 := Lib.hid c2
  have C3 := Lib.hid c3
  have K2 : Hid (Kept [] w w2) := K1.out.trans k2 (fun i hi => by cases hi)
  clear hT hM c2 c3 k2 TO B2 B3 K1 MX HZ
  go_wp2_with fail
  refine TX.out.mono ?_
  rintro e w3 ⟨rfl, k3⟩
  have d2 := (k3.block _ (block_lt C2.out) (by simp)).trans C2.out
  have d3 := (k3.block _ (block_lt C3.out) (by simp)).trans C3.out
  have K3 : Hid (Kept [] w w3) := K2.out.trans k3 (fun i hi => by cases hi)
  obtain ⟨wf, hwf⟩ : ∃ wf, wf = (w3.setCell ⟨R2, 0, none⟩ (.string z)).setCell ⟨R3, 0, none⟩ (.int .i64 0) := ⟨_, rfl⟩
  have g2 : w3.cell? ⟨R2, 0, none⟩ = some (.string ⟨#[]⟩) := by rw [cell_of_row w3 R2 0 _ _ (0, 0) d2]; rfl
  have g3 : w3.cell? ⟨R3, 0, none⟩ = some (.int .i64 0) := by rw [cell_of_row w3 R3 0 _ _ (0, 0) d3]; rfl
  have fz2 : w3.frozen? ⟨R2, 0, none⟩ = false := by simp [World.frozen?, d2]
  have fz3 : w3.frozen? ⟨R3, 0, none⟩ = false := by simp [World.frozen?, d3]
  have g32 : (w3.setCell ⟨R2, 0, none⟩ (.string z)).cell? ⟨R3, 0, none⟩ = some (.int .i64 0) := by rw [World.cell?_setCell_far _ _ _ _ HRL.out.2.2]; exact g3
  have h2f : wf.heap[R2]? = some (.cells #[.string z] 9 (0, 0)) := by
    have x2 := heap_set (w := w3) (i := 0) (Value.string z) d2
    rw [hwf]
    exact (Below.heap_setCell _ _ _ _ HRL.out.2.2).trans (by simpa using x2)
  have h3f : wf.heap[R3]? = some (.cells #[.int .i64 0] 25 (0, 0)) := by
    rw [hwf]
    have x3 : (w3.setCell ⟨R2, 0, none⟩ (.string z)).heap[R3]? = some (.cells #[.int .i64 0] 25 (0, 0)) := (Below.heap_setCell _ _ _ _ (fun h => HRL.out.2.2 h.symm)).trans d3
    simpa using heap_set (i := 0) (Value.int .i64 0) x3
  have kf : Kept [R2, R3] w3 wf := by rw [hwf]; exact ((Kept.refl _ w3).setCell (p := ⟨R2, 0, none⟩) (Or.inl (by simp)) _).setCell (p := ⟨R3, 0, none⟩) (Or.inl (by simp)) _
  have KF : Kept [] w wf := K3.out.trans kf (fun i hi => by have := HRL.out; simp at hi; omega)
  have c2 : wf.cell? ⟨R2, 0, none⟩ = some (.string z) := by rw [cell_of_row wf R2 0 _ _ (0, 0) h2f]; rfl
  have c3 : wf.cell? ⟨R3, 0, none⟩ = some (.int .i64 0) := by rw [cell_of_row wf R3 0 _ _ (0, 0) h3f]; rfl
  have HWF := Lib.hid hwf
  have KFH := Lib.hid KF
  have C2F := Lib.hid c2
  have C3F := Lib.hid c3
  clear hwf h2f h3f kf KF k3 d2 d3 c2 c3 C2 C3 K2 K3
  go_wp2_with fail
  unfold bodyPostD
  rw [← HWF.out]
  have c2 := C2F.out
  have c3 := C3F.out
  refine leaves_cons (f := 27) (args := #[.pointer (some ⟨R2, 0, none⟩), .pointer (some ⟨R3, 0, none⟩)]) (by simp) (by simp [go_sem]) ?_
  refine (print1_idle _ _ _).mono ?_
  rintro e u' w'' ⟨rfl, rfl, rfl⟩
  simp [Leaves, settle, results, Tryd.f9, go_sem, c2, c3]
  exact KFH.out
end Us
end Go.Proofs.YteeheapenfklcaaDoor
