/- UsersGroups walked. -/
import Derived.Test.YteeheapenfklcaaDoorUgm
import Derived.Test.YteeheapenfklcaaDoorOwh
namespace Go.Proofs.YteeheapenfklcaaDoor
set_option linter.unusedVariables false
open Go.RowKit Go.Shelf
attribute [local go_sem] Oper.semAt_some
namespace Us
open Go.Proofs.YteeheapenfklcaaDoor.Utf Go.Proofs.YteeheapenfklcaaDoor.Txt Go.PlainAid Go.Proofs.YteeheapenfklcaaDoor.Mpf
theorem bytesLess_of_lt : ∀ a b : List UInt8, a < b → Op.bytesLess a b = true
  | _, [], h => by simp at h
  | [], _ :: _, _ => rfl
  | a :: x, b :: y, h => by
    rcases List.cons_lt_cons_iff.1 h with h1 | ⟨h1, h2⟩
    · simp [Op.bytesLess, h1]
    · subst h1
      simp [Op.bytesLess, bytesLess_of_lt x y h2]
theorem toList_dl (s : ByteArray) : s.toList = dl s := ByteArray.toList_eq s
/-- Between two rounds. -/
structure GwF (w : World) (W : World) (B p : Nat) (T : List Acc) (a : Option Addr) (c : Nat) (L : List (Acc × Value)) : Prop where
  tb : Tb W B p T
  rows : RowsA W (.slice a L.length c) L
  kept : Kept [] w W
theorem GwF.step {w W W' : World} {B p : Nat} {T : List Acc} {a : Option Addr} {c : Nat} {L : List (Acc × Value)} (h : GwF w W B p T a c L) (k : Kept [] W W') : GwF w W' B p T a c L :=
  ⟨h.tb.kept k, h.rows.kept0 k, h.kept.trans k (fun i hi => by cases hi)⟩
/-- The cells of an account. -/
def AtA (w' : World) (g k : Nat) (n l : ByteArray) (v : Value) (key : ByteArray) : Prop :=
  w'.cell? ⟨g, k * 4, none⟩ = some (.string n) ∧ w'.cell? ⟨g, k * 4 + 1, none⟩ = some (.string l) ∧ w'.cell? ⟨g, k * 4 + 2, none⟩ = some v ∧ w'.cell? ⟨g, k * 4 + 3, none⟩ = some (.string key)
theorem AtA.kept {w w' : World} {g k : Nat} {n l : ByteArray} {v : Value} {key : ByteArray} (h : AtA w g k n l v key) (kk : Kept [] w w') : AtA w' g k n l v key :=
  ⟨wk kk h.1, wk kk h.2.1, wk kk h.2.2.1, wk kk h.2.2.2⟩
theorem RowsA.atA {w : World} {g c : Nat} {L : List (Acc × Value)} (h : RowsA w (.slice (some ⟨g, 0, none⟩) L.length c) L) {k : Nat} (hk : k < L.length) : AtA w g k L[k].1.name L[k].1.leader L[k].2 L[k].1.key := by
  obtain ⟨g', e, r⟩ := h.at' hk
  simp only [Option.some.injEq, Addr.mk.injEq, and_true] at e
  subst e
  exact r
theorem good_of {L : List (Acc × Value)} {ws : List WhoD} (h : accs L = madeT ws) : Good (accs L) := by rw [h]; exact made_good ws
set_option maxHeartbeats 16000000 in
set_option maxRecDepth 100000 in
theorem groups_law (w : World) (hm : Ml w) (a0 : Option Addr) (c0 : Nat) (ws : List (WhoD × Value)) (hW : Whs w (.slice a0 ws.length c0) ws) :
    Calls Tryd.prog 4 #[.slice a0 ws.length c0] w fun e w' => e = .returned (.bool true) ∧ Kept [] w w' := by
  have KN := Lib.hid (known06 w hm)
  have MD := Lib.hid (fun (w' : World) (k : Kept [] w w') => made_any w' a0 c0 ws (hW.kept k))
  have TA : Hid (∀ (w' : World) (a : Option Addr) (c : Nat) (L : List (Acc × Value)), Kept [] w w' → RowsA w' (.slice a L.length c) L → Good (accs L) → Calls Tryd.prog 16 #[.slice a L.length c] w' fun e w'' => ∃ B p, e = .returned (.pointer (some ⟨p, 0, none⟩)) ∧ Tb w'' B p (accs L) ∧ Kept [] w' w'') := fun w' a c L k hR g => table_ok (hm.kept0 k) hR g
  clear hm hW
  go_enter Tryd.func4, Tryd.ntmps4
  go_wp2_with (first | (go_at_call 8; refine KN.out.mono ?_; rintro e w1 ⟨rfl, k1⟩; have K1 := Lib.hid k1; clear k1) | (go_at_call 15; refine (MD.out _ K1.out).mono ?_; rintro e w2 ⟨v, L, rfl, hT, hR, k2⟩; have K2 : Hid (Kept [] w w2) := K1.out.trans k2 (fun i hi => by cases hi); obtain ⟨a, c, hv⟩ := own_slg hR.row; subst hv; have HT := Lib.hid hT; have HR := Lib.hid hR; have GD : Hid (Good (accs L)) := good_of hT; clear hT hR k2) | (go_at_call 16; refine (TA.out _ a c L K2.out HR.out GD.out).mono ?_; rintro e w3 ⟨B, p, rfl, tb3, k3⟩; have I3 : Hid (GwF w w3 B p (accs L) a c L) := ⟨tb3, HR.out.kept0 k3, K2.out.trans k3 (fun i hi => by cases hi)⟩; clear tb3 k3))
  have SO : Hid (Sole (accs L)) := by show Sole _; rw [HT.out]; exact made_sole _
  have TR : Hid (Trim (accs L)) := by show Trim _; rw [HT.out]; exact made_trim _
  have FI := Lib.hid (good_fit GD.out)
  have hLL : L.length ≤ 30 := by
    have h1 := congrArg List.length HT.out
    rw [accs_length, madeT_length] at h1
    omega
  clear HT HR GD KN MD TA K1 K2
  go_loopw [6] (fun iv wr => ∃ i : Nat, iv = .int .i64 i ∧ i ≤ L.length ∧ Hid (GwF w wr B p (accs L) a c L)) (fun iv _ => L.length - (intOf iv).toNat)
  case atStart => exact ⟨0, rfl, by omega, I3⟩
  case round =>
    obtain ⟨i, rfl, hi, IF⟩ := hrel
    by_cases hlt : i < L.length
    · have j1 : (i : Int) < (L.length : Int) := by omega
      obtain ⟨g1, rfl, -⟩ := IF.out.rows.at' hlt
      have hat := IF.out.rows.atA hlt
      obtain ⟨⟨⟨xn, xl, xm, xk⟩, xv⟩, hx⟩ : ∃ x, x = L[i] := ⟨_, rfl⟩
      have hil : i < (accs L).length := by rw [accs_length]; exact hlt
      have hxT : (accs L)[i]'hil = ⟨xn, xl, xm, xk⟩ := by rw [accs_at hlt, ← hx]
      rw [← hx] at hat
      simp only at hat
      have HAT := Lib.hid hat
      have HXT : Hid (∀ h : i < (accs L).length, (accs L)[i]'h = ⟨xn, xl, xm, xk⟩) := fun _ => hxT
      have HIL := Lib.hid hil
      obtain ⟨n0, n1, n2, n3⟩ := hat
      have hx3 : xn.size = 3 := by have := TR.out.name _ (List.getElem_mem hil); rw [hxT] at this; exact this
      have HX3 := Lib.hid hx3
      have GR := Lib.hid (groups_t IF.out.tb (by rw [accs_length]; omega) FI.out xn (by rw [hx3]; decide))
      obtain ⟨gs, hgs⟩ : ∃ gs, gs = sortB (gsel (accs L) xn (accs L)) := ⟨_, rfl⟩
      rw [← hgs] at GR
      have HGS := Lib.hid hgs
      have HGL : Hid (gs.length ≤ 30) := by
        show _ ≤ _
        rw [hgs, sortB_length]
        have := gsel_len (accs L) xn (accs L)
        rw [accs_length] at this
        omega
      clear hx hil hxT hx3 hgs
      go_wp2_with (go_at_call 17; refine GR.out.mono ?_; rintro e w4 ⟨ga, gc, rfl, mg, k4⟩; have I4 := Lib.hid (IF.out.step k4); have MG := Lib.hid mg; have AT4 := Lib.hid (HAT.out.kept k4); clear mg k4)
      clear GR n0 n1 n2 n3 HAT
      go_loopw [9, 10] (fun nv kv wk => ∃ k cn : Nat, nv = .int .i64 cn ∧ kv = .int .i64 k ∧ k ≤ L.length ∧ cn ≤ k ∧ Hid (cn = cntG (accs L) xn k) ∧ Hid (GwF w wk B p (accs L) (some ⟨g1, 0, none⟩) c L) ∧ Hid (Mem wk (.slice ga gs.length gc) gs) ∧ Hid (AtA wk g1 i xn xl xv xk)) (fun _ kv _ => L.length - (intOf kv).toNat)
      case atStart => exact ⟨0, 0, rfl, rfl, by omega, by omega, rfl, I4, MG, AT4⟩
      case round =>
        obtain ⟨k, cn, rfl, rfl, hk, hcn, HCN, IK, MK, AK⟩ := hrel
        by_cases hkl : k < L.length
        · have j2 : (k : Int) < (L.length : Int) := by omega
          have hmem := IK.out.rows.mem _ (List.getElem_mem hkl)
          have hak := IK.out.rows.atA hkl
          obtain ⟨⟨⟨yn, yl, ym, yk⟩, yv⟩, hy⟩ : ∃ x, x = L[k] := ⟨_, rfl⟩
          have hkT : k < (accs L).length := by rw [accs_length]; exact hkl
          have hyT : (accs L)[k]'hkT = ⟨yn, yl, ym, yk⟩ := by rw [accs_at hkl, ← hy]
          rw [← hy] at hak hmem
          simp only at hak hmem
          obtain ⟨ya, yc, rfl⟩ := hmem.slice
          have hy3 : yn.size = 3 := by have := TR.out.name _ (List.getElem_mem hkT); rw [hyT] at this; exact this
          have hxm : xn.size ≤ maxLen := by rw [HX3.out]; decide
          have hym : yn.size ≤ maxLen := by rw [hy3]; decide
          have hTl : (accs L).length ≤ 1048576 := by rw [accs_length]; omega
          have hymL : ym.length ≤ 140737488355328 := by
            have := (FI.out _ (List.getElem_mem hkT)).2.2.2.2
            rw [hyT] at this
            simp only at this
            omega
          have CELL := Lib.hid (fun (w' : World) (kk : Kept [] wr w') => hak.kept kk)
          have AM1 := Lib.hid (among_any wr ym xn ya yc hmem hymL)
          have AM20 := Lib.hid (fun (w' : World) (kk : Kept [] wr w') => among_any w' gs yn ga gc (MK.out.kept0 kk) (by have := HGL.out; omega))
          have MEM0 := Lib.hid (fun (w' : World) (kk : Kept [] wr w') => Ukt.member_t (IK.out.tb.kept kk) xn yn hxm hym)
          have LEA0 := Lib.hid (fun (w' : World) (kk : Kept [] wr w') => Ukt.leads_t (IK.out.tb.kept kk) hTl xn yn hxm hym)
          have eM : member (accs L) xn yn = (decide (i = k) || memB xn ym) := by
            have := SO.out.member HIL.out hkT
            rw [HXT.out, hyT] at this
            exact this
          have eL : leads (accs L) xn yn = (decide (yl = xn) || (decide (yl.size = 0) && member (accs L) xn yn)) := by
            have := SO.out.leads2 hkT HX3.out
            rw [hyT] at this
            exact this
          have eG : memB yn gs = member (accs L) xn yn := by
            have := SO.out.groups hkT xn
            rw [hyT, ← HGS.out] at this
            exact this
          have CY : Hid (member (accs L) xn yn = true → cn + 1 = cntG (accs L) xn (k + 1)) := fun h => by
            have := cntG_yes (T := accs L) (u := xn) hkT (by rw [hyT]; exact h)
            rw [this, ← HCN.out]
          have CN : Hid (member (accs L) xn yn = false → cn = cntG (accs L) xn (k + 1)) := fun h => by
            have := cntG_no (T := accs L) (u := xn) hkT (by rw [hyT]; exact h)
            rw [this, ← HCN.out]
          have q1 := beq_str yl xn
          have q2 := beq_str yl ⟨#[]⟩
          have e0 : decide (yl = (⟨#[]⟩ : ByteArray)) = decide (yl.size = 0) := by
            by_cases h0 : yl.size = 0
            · rw [decide_eq_true h0]
              refine decide_eq_true ?_
              apply ByteArray.ext
              exact Array.eq_empty_of_size_eq_zero h0
            · rw [decide_eq_false h0]
              exact decide_eq_false (fun e => h0 (by rw [e]; rfl))
          rw [e0] at q2
          have qe : ((i : Int) == (k : Int)) = decide (i = k) := by
            by_cases h : i = k
            · subst h; simp
            · rw [decide_eq_false h]; simp; omega
          rw [eG] at AM20
          rw [eL] at LEA0
          rw [eM] at AM20 LEA0 MEM0 CY CN
          obtain ⟨eb, heb⟩ : ∃ b, b = decide (i = k) := ⟨_, rfl⟩
          obtain ⟨ib, hib⟩ : ∃ b, b = memB xn ym := ⟨_, rfl⟩
          obtain ⟨b1, hb1⟩ : ∃ b, b = decide (yl = xn) := ⟨_, rfl⟩
          obtain ⟨b2, hb2⟩ : ∃ b, b = decide (yl.size = 0) := ⟨_, rfl⟩
          rw [← heb] at qe AM20 LEA0 MEM0 CY CN
          rw [← hib] at AM1 AM20 LEA0 MEM0 CY CN
          rw [← hb1] at q1 LEA0
          rw [← hb2] at q2 LEA0
          have z2 : (b2 = true → yl = ⟨#[]⟩) ∧ (b2 = false → ¬ yl.toList = []) := by
            rw [hb2]
            refine ⟨fun h => ?_, fun h e => ?_⟩
            · have h0 := of_decide_eq_true h
              apply ByteArray.ext
              exact Array.eq_empty_of_size_eq_zero h0
            · refine (of_decide_eq_false h) ?_
              have h1 : yl.toList.length = 0 := by rw [e]; rfl
              rw [toList_dl, dl_length] at h1
              exact h1
          have x3 : ¬ xn.toList = [] := fun e => by
            have h1 : xn.toList.length = 0 := by rw [e]; rfl
            rw [toList_dl, dl_length, HX3.out] at h1
            cases h1
          have x4 : (([] : List UInt8) == xn.toList) = false := by
            cases hxx : xn.toList with
            | nil => exact absurd hxx x3
            | cons a r => rfl
          have x5 : ¬ ([] : List UInt8) = xn.toList := fun e => x3 e.symm
          clear heb hib hb1 hb2 eM eL eG e0 hmem hy hyT hkT hymL hxm hym hTl hy3 HCN
          cases eb with
          | true =>
            cases b1 with
            | true =>
              clear z2 q2
              obtain ⟨m0, m1, m2, m3⟩ := hak
              have MEM : Hid (∀ w', Kept [] wr w' → Calls Tryd.prog 19 #[.pointer (some ⟨p, 0, none⟩), .string xn, .string yn] w' fun e w'' => e = .returned (.bool true) ∧ Kept [] w' w'') := MEM0.out
              have LEA : Hid (∀ w', Kept [] wr w' → Calls Tryd.prog 20 #[.pointer (some ⟨p, 0, none⟩), .string xn, .string yn] w' fun e w'' => e = .returned (.bool true) ∧ Kept [] w' w'') := LEA0.out
              have AM2 : Hid (∀ w', Kept [] wr w' → Calls Tryd.prog 18 #[.slice ga gs.length gc, .string yn] w' fun e w'' => e = .returned (.bool true) ∧ Kept [] w' w'') := AM20.out
              clear MEM0 LEA0 AM20
              have C2 : Hid (cn + 1 = cntG (accs L) xn (k + 1)) := CY.out (by simp)
              clear CY CN
              go_wp2_with (first | (go_at_call 18; refine AM1.out.mono ?_; rintro e v1 ⟨rfl, k1⟩; have V1 := Lib.hid k1; obtain ⟨m0', m1', m2', m3'⟩ := CELL.out _ k1; clear k1 AM1) | (go_at_call 19; refine (MEM.out _ V1.out).mono ?_; rintro e v2 ⟨rfl, k2⟩; have V2 : Hid (Kept [] wr v2) := V1.out.trans k2 (fun i hi => by cases hi); obtain ⟨m0'', m1'', m2'', m3''⟩ := CELL.out _ V2.out; clear k2) | (go_at_call 20; refine (LEA.out _ V2.out).mono ?_; rintro e v3 ⟨rfl, k3⟩; have V3 : Hid (Kept [] wr v3) := V2.out.trans k3 (fun i hi => by cases hi); obtain ⟨m0v, m1v, m2v, m3v⟩ := CELL.out _ V3.out; clear k3) | (go_at_call 18; refine (AM2.out _ V3.out).mono ?_; rintro e v4 ⟨rfl, k4⟩; have V4 : Hid (Kept [] wr v4) := V3.out.trans k4 (fun i hi => by cases hi); clear k4))
              go_roundw
              case rel => exact ⟨k + 1, cn + 1, by go_num, by go_num, by omega, by omega, C2, IK.out.step V4.out |> Lib.hid, Lib.hid (MK.out.kept0 V4.out), Lib.hid (AK.out.kept V4.out)⟩
              case measure => simp [intOf]; omega
            | false =>
              cases b2 with
              | true =>
                obtain rfl := z2.1 rfl
                clear z2 q1 q2
                obtain ⟨m0, m1, m2, m3⟩ := hak
                have MEM : Hid (∀ w', Kept [] wr w' → Calls Tryd.prog 19 #[.pointer (some ⟨p, 0, none⟩), .string xn, .string yn] w' fun e w'' => e = .returned (.bool true) ∧ Kept [] w' w'') := MEM0.out
                have LEA : Hid (∀ w', Kept [] wr w' → Calls Tryd.prog 20 #[.pointer (some ⟨p, 0, none⟩), .string xn, .string yn] w' fun e w'' => e = .returned (.bool true) ∧ Kept [] w' w'') := LEA0.out
                have AM2 : Hid (∀ w', Kept [] wr w' → Calls Tryd.prog 18 #[.slice ga gs.length gc, .string yn] w' fun e w'' => e = .returned (.bool true) ∧ Kept [] w' w'') := AM20.out
                clear MEM0 LEA0 AM20
                have C2 : Hid (cn + 1 = cntG (accs L) xn (k + 1)) := CY.out (by simp)
                clear CY CN
                go_wp2_with (first | (go_at_call 18; refine AM1.out.mono ?_; rintro e v1 ⟨rfl, k1⟩; have V1 := Lib.hid k1; obtain ⟨m0', m1', m2', m3'⟩ := CELL.out _ k1; clear k1 AM1) | (go_at_call 19; refine (MEM.out _ V1.out).mono ?_; rintro e v2 ⟨rfl, k2⟩; have V2 : Hid (Kept [] wr v2) := V1.out.trans k2 (fun i hi => by cases hi); obtain ⟨m0'', m1'', m2'', m3''⟩ := CELL.out _ V2.out; clear k2) | (go_at_call 20; refine (LEA.out _ V2.out).mono ?_; rintro e v3 ⟨rfl, k3⟩; have V3 : Hid (Kept [] wr v3) := V2.out.trans k3 (fun i hi => by cases hi); obtain ⟨m0v, m1v, m2v, m3v⟩ := CELL.out _ V3.out; clear k3) | (go_at_call 18; refine (AM2.out _ V3.out).mono ?_; rintro e v4 ⟨rfl, k4⟩; have V4 : Hid (Kept [] wr v4) := V3.out.trans k4 (fun i hi => by cases hi); clear k4))
                go_roundw
                case rel => exact ⟨k + 1, cn + 1, by go_num, by go_num, by omega, by omega, C2, IK.out.step V4.out |> Lib.hid, Lib.hid (MK.out.kept0 V4.out), Lib.hid (AK.out.kept V4.out)⟩
                case measure => simp [intOf]; omega
              | false =>
                have z3 := z2.2 rfl
                clear z2
                obtain ⟨m0, m1, m2, m3⟩ := hak
                have MEM : Hid (∀ w', Kept [] wr w' → Calls Tryd.prog 19 #[.pointer (some ⟨p, 0, none⟩), .string xn, .string yn] w' fun e w'' => e = .returned (.bool true) ∧ Kept [] w' w'') := MEM0.out
                have LEA : Hid (∀ w', Kept [] wr w' → Calls Tryd.prog 20 #[.pointer (some ⟨p, 0, none⟩), .string xn, .string yn] w' fun e w'' => e = .returned (.bool false) ∧ Kept [] w' w'') := LEA0.out
                have AM2 : Hid (∀ w', Kept [] wr w' → Calls Tryd.prog 18 #[.slice ga gs.length gc, .string yn] w' fun e w'' => e = .returned (.bool true) ∧ Kept [] w' w'') := AM20.out
                clear MEM0 LEA0 AM20
                have C2 : Hid (cn + 1 = cntG (accs L) xn (k + 1)) := CY.out (by simp)
                clear CY CN
                go_wp2_with (first | (go_at_call 18; refine AM1.out.mono ?_; rintro e v1 ⟨rfl, k1⟩; have V1 := Lib.hid k1; obtain ⟨m0', m1', m2', m3'⟩ := CELL.out _ k1; clear k1 AM1) | (go_at_call 19; refine (MEM.out _ V1.out).mono ?_; rintro e v2 ⟨rfl, k2⟩; have V2 : Hid (Kept [] wr v2) := V1.out.trans k2 (fun i hi => by cases hi); obtain ⟨m0'', m1'', m2'', m3''⟩ := CELL.out _ V2.out; clear k2) | (go_at_call 20; refine (LEA.out _ V2.out).mono ?_; rintro e v3 ⟨rfl, k3⟩; have V3 : Hid (Kept [] wr v3) := V2.out.trans k3 (fun i hi => by cases hi); obtain ⟨m0v, m1v, m2v, m3v⟩ := CELL.out _ V3.out; clear k3) | (go_at_call 18; refine (AM2.out _ V3.out).mono ?_; rintro e v4 ⟨rfl, k4⟩; have V4 : Hid (Kept [] wr v4) := V3.out.trans k4 (fun i hi => by cases hi); clear k4))
                go_roundw
                case rel => exact ⟨k + 1, cn + 1, by go_num, by go_num, by omega, by omega, C2, IK.out.step V4.out |> Lib.hid, Lib.hid (MK.out.kept0 V4.out), Lib.hid (AK.out.kept V4.out)⟩
                case measure => simp [intOf]; omega
          | false =>
            cases ib with
            | true =>
              cases b1 with
              | true =>
                clear z2 q2
                obtain ⟨m0, m1, m2, m3⟩ := hak
                have MEM : Hid (∀ w', Kept [] wr w' → Calls Tryd.prog 19 #[.pointer (some ⟨p, 0, none⟩), .string xn, .string yn] w' fun e w'' => e = .returned (.bool true) ∧ Kept [] w' w'') := MEM0.out
                have LEA : Hid (∀ w', Kept [] wr w' → Calls Tryd.prog 20 #[.pointer (some ⟨p, 0, none⟩), .string xn, .string yn] w' fun e w'' => e = .returned (.bool true) ∧ Kept [] w' w'') := LEA0.out
                have AM2 : Hid (∀ w', Kept [] wr w' → Calls Tryd.prog 18 #[.slice ga gs.length gc, .string yn] w' fun e w'' => e = .returned (.bool true) ∧ Kept [] w' w'') := AM20.out
                clear MEM0 LEA0 AM20
                have C2 : Hid (cn + 1 = cntG (accs L) xn (k + 1)) := CY.out (by simp)
                clear CY CN
                go_wp2_with (first | (go_at_call 18; refine AM1.out.mono ?_; rintro e v1 ⟨rfl, k1⟩; have V1 := Lib.hid k1; obtain ⟨m0', m1', m2', m3'⟩ := CELL.out _ k1; clear k1 AM1) | (go_at_call 19; refine (MEM.out _ V1.out).mono ?_; rintro e v2 ⟨rfl, k2⟩; have V2 : Hid (Kept [] wr v2) := V1.out.trans k2 (fun i hi => by cases hi); obtain ⟨m0'', m1'', m2'', m3''⟩ := CELL.out _ V2.out; clear k2) | (go_at_call 20; refine (LEA.out _ V2.out).mono ?_; rintro e v3 ⟨rfl, k3⟩; have V3 : Hid (Kept [] wr v3) := V2.out.trans k3 (fun i hi => by cases hi); obtain ⟨m0v, m1v, m2v, m3v⟩ := CELL.out _ V3.out; clear k3) | (go_at_call 18; refine (AM2.out _ V3.out).mono ?_; rintro e v4 ⟨rfl, k4⟩; have V4 : Hid (Kept [] wr v4) := V3.out.trans k4 (fun i hi => by cases hi); clear k4))
                go_roundw
                case rel => exact ⟨k + 1, cn + 1, by go_num, by go_num, by omega, by omega, C2, IK.out.step V4.out |> Lib.hid, Lib.hid (MK.out.kept0 V4.out), Lib.hid (AK.out.kept V4.out)⟩
                case measure => simp [intOf]; omega
              | false =>
                cases b2 with
                | true =>
                  obtain rfl := z2.1 rfl
                  clear z2 q1 q2
                  obtain ⟨m0, m1, m2, m3⟩ := hak
                  have MEM : Hid (∀ w', Kept [] wr w' → Calls Tryd.prog 19 #[.pointer (some ⟨p, 0, none⟩), .string xn, .string yn] w' fun e w'' => e = .returned (.bool true) ∧ Kept [] w' w'') := MEM0.out
                  have LEA : Hid (∀ w', Kept [] wr w' → Calls Tryd.prog 20 #[.pointer (some ⟨p, 0, none⟩), .string xn, .string yn] w' fun e w'' => e = .returned (.bool true) ∧ Kept [] w' w'') := LEA0.out
                  have AM2 : Hid (∀ w', Kept [] wr w' → Calls Tryd.prog 18 #[.slice ga gs.length gc, .string yn] w' fun e w'' => e = .returned (.bool true) ∧ Kept [] w' w'') := AM20.out
                  clear MEM0 LEA0 AM20
                  have C2 : Hid (cn + 1 = cntG (accs L) xn (k + 1)) := CY.out (by simp)
                  clear CY CN
                  go_wp2_with (first | (go_at_call 18; refine AM1.out.mono ?_; rintro e v1 ⟨rfl, k1⟩; have V1 := Lib.hid k1; obtain ⟨m0', m1', m2', m3'⟩ := CELL.out _ k1; clear k1 AM1) | (go_at_call 19; refine (MEM.out _ V1.out).mono ?_; rintro e v2 ⟨rfl, k2⟩; have V2 : Hid (Kept [] wr v2) := V1.out.trans k2 (fun i hi => by cases hi); obtain ⟨m0'', m1'', m2'', m3''⟩ := CELL.out _ V2.out; clear k2) | (go_at_call 20; refine (LEA.out _ V2.out).mono ?_; rintro e v3 ⟨rfl, k3⟩; have V3 : Hid (Kept [] wr v3) := V2.out.trans k3 (fun i hi => by cases hi); obtain ⟨m0v, m1v, m2v, m3v⟩ := CELL.out _ V3.out; clear k3) | (go_at_call 18; refine (AM2.out _ V3.out).mono ?_; rintro e v4 ⟨rfl, k4⟩; have V4 : Hid (Kept [] wr v4) := V3.out.trans k4 (fun i hi => by cases hi); clear k4))
                  go_roundw
                  case rel => exact ⟨k + 1, cn + 1, by go_num, by go_num, by omega, by omega, C2, IK.out.step V4.out |> Lib.hid, Lib.hid (MK.out.kept0 V4.out), Lib.hid (AK.out.kept V4.out)⟩
                  case measure => simp [intOf]; omega
                | false =>
                  have z3 := z2.2 rfl
                  clear z2
                  obtain ⟨m0, m1, m2, m3⟩ := hak
                  have MEM : Hid (∀ w', Kept [] wr w' → Calls Tryd.prog 19 #[.pointer (some ⟨p, 0, none⟩), .string xn, .string yn] w' fun e w'' => e = .returned (.bool true) ∧ Kept [] w' w'') := MEM0.out
                  have LEA : Hid (∀ w', Kept [] wr w' → Calls Tryd.prog 20 #[.pointer (some ⟨p, 0, none⟩), .string xn, .string yn] w' fun e w'' => e = .returned (.bool false) ∧ Kept [] w' w'') := LEA0.out
                  have AM2 : Hid (∀ w', Kept [] wr w' → Calls Tryd.prog 18 #[.slice ga gs.length gc, .string yn] w' fun e w'' => e = .returned (.bool true) ∧ Kept [] w' w'') := AM20.out
                  clear MEM0 LEA0 AM20
                  have C2 : Hid (cn + 1 = cntG (accs L) xn (k + 1)) := CY.out (by simp)
                  clear CY CN
                  go_wp2_with (first | (go_at_call 18; refine AM1.out.mono ?_; rintro e v1 ⟨rfl, k1⟩; have V1 := Lib.hid k1; obtain ⟨m0', m1', m2', m3'⟩ := CELL.out _ k1; clear k1 AM1) | (go_at_call 19; refine (MEM.out _ V1.out).mono ?_; rintro e v2 ⟨rfl, k2⟩; have V2 : Hid (Kept [] wr v2) := V1.out.trans k2 (fun i hi => by cases hi); obtain ⟨m0'', m1'', m2'', m3''⟩ := CELL.out _ V2.out; clear k2) | (go_at_call 20; refine (LEA.out _ V2.out).mono ?_; rintro e v3 ⟨rfl, k3⟩; have V3 : Hid (Kept [] wr v3) := V2.out.trans k3 (fun i hi => by cases hi); obtain ⟨m0v, m1v, m2v, m3v⟩ := CELL.out _ V3.out; clear k3) | (go_at_call 18; refine (AM2.out _ V3.out).mono ?_; rintro e v4 ⟨rfl, k4⟩; have V4 : Hid (Kept [] wr v4) := V3.out.trans k4 (fun i hi => by cases hi); clear k4))
                  go_roundw
                  case rel => exact ⟨k + 1, cn + 1, by go_num, by go_num, by omega, by omega, C2, IK.out.step V4.out |> Lib.hid, Lib.hid (MK.out.kept0 V4.out), Lib.hid (AK.out.kept V4.out)⟩
                  case measure => simp [intOf]; omega
            | false =>
              cases b1 with
              | true =>
                clear z2 q2
                obtain ⟨m0, m1, m2, m3⟩ := hak
                have MEM : Hid (∀ w', Kept [] wr w' → Calls Tryd.prog 19 #[.pointer (some ⟨p, 0, none⟩), .string xn, .string yn] w' fun e w'' => e = .returned (.bool false) ∧ Kept [] w' w'') := MEM0.out
                have LEA : Hid (∀ w', Kept [] wr w' → Calls Tryd.prog 20 #[.pointer (some ⟨p, 0, none⟩), .string xn, .string yn] w' fun e w'' => e = .returned (.bool true) ∧ Kept [] w' w'') := LEA0.out
                have AM2 : Hid (∀ w', Kept [] wr w' → Calls Tryd.prog 18 #[.slice ga gs.length gc, .string yn] w' fun e w'' => e = .returned (.bool false) ∧ Kept [] w' w'') := AM20.out
                clear MEM0 LEA0 AM20
                have C2 : Hid (cn = cntG (accs L) xn (k + 1)) := CN.out rfl
                clear CY CN
                go_wp2_with (first | (go_at_call 18; refine AM1.out.mono ?_; rintro e v1 ⟨rfl, k1⟩; have V1 := Lib.hid k1; obtain ⟨m0', m1', m2', m3'⟩ := CELL.out _ k1; clear k1 AM1) | (go_at_call 19; refine (MEM.out _ V1.out).mono ?_; rintro e v2 ⟨rfl, k2⟩; have V2 : Hid (Kept [] wr v2) := V1.out.trans k2 (fun i hi => by cases hi); obtain ⟨m0'', m1'', m2'', m3''⟩ := CELL.out _ V2.out; clear k2) | (go_at_call 20; refine (LEA.out _ V2.out).mono ?_; rintro e v3 ⟨rfl, k3⟩; have V3 : Hid (Kept [] wr v3) := V2.out.trans k3 (fun i hi => by cases hi); obtain ⟨m0v, m1v, m2v, m3v⟩ := CELL.out _ V3.out; clear k3) | (go_at_call 18; refine (AM2.out _ V3.out).mono ?_; rintro e v4 ⟨rfl, k4⟩; have V4 : Hid (Kept [] wr v4) := V3.out.trans k4 (fun i hi => by cases hi); clear k4))
                go_roundw
                case rel => exact ⟨k + 1, cn, rfl, by go_num, by omega, by omega, C2, IK.out.step V4.out |> Lib.hid, Lib.hid (MK.out.kept0 V4.out), Lib.hid (AK.out.kept V4.out)⟩
                case measure => simp [intOf]; omega
              | false =>
                cases b2 with
                | true =>
                  obtain rfl := z2.1 rfl
                  clear z2 q1 q2
                  obtain ⟨m0, m1, m2, m3⟩ := hak
                  have MEM : Hid (∀ w', Kept [] wr w' → Calls Tryd.prog 19 #[.pointer (some ⟨p, 0, none⟩), .string xn, .string yn] w' fun e w'' => e = .returned (.bool false) ∧ Kept [] w' w'') := MEM0.out
                  have LEA : Hid (∀ w', Kept [] wr w' → Calls Tryd.prog 20 #[.pointer (some ⟨p, 0, none⟩), .string xn, .string yn] w' fun e w'' => e = .returned (.bool false) ∧ Kept [] w' w'') := LEA0.out
                  have AM2 : Hid (∀ w', Kept [] wr w' → Calls Tryd.prog 18 #[.slice ga gs.length gc, .string yn] w' fun e w'' => e = .returned (.bool false) ∧ Kept [] w' w'') := AM20.out
                  clear MEM0 LEA0 AM20
                  have C2 : Hid (cn = cntG (accs L) xn (k + 1)) := CN.out rfl
                  clear CY CN
                  go_wp2_with (first | (go_at_call 18; refine AM1.out.mono ?_; rintro e v1 ⟨rfl, k1⟩; have V1 := Lib.hid k1; obtain ⟨m0', m1', m2', m3'⟩ := CELL.out _ k1; clear k1 AM1) | (go_at_call 19; refine (MEM.out _ V1.out).mono ?_; rintro e v2 ⟨rfl, k2⟩; have V2 : Hid (Kept [] wr v2) := V1.out.trans k2 (fun i hi => by cases hi); obtain ⟨m0'', m1'', m2'', m3''⟩ := CELL.out _ V2.out; clear k2) | (go_at_call 20; refine (LEA.out _ V2.out).mono ?_; rintro e v3 ⟨rfl, k3⟩; have V3 : Hid (Kept [] wr v3) := V2.out.trans k3 (fun i hi => by cases hi); obtain ⟨m0v, m1v, m2v, m3v⟩ := CELL.out _ V3.out; clear k3) | (go_at_call 18; refine (AM2.out _ V3.out).mono ?_; rintro e v4 ⟨rfl, k4⟩; have V4 : Hid (Kept [] wr v4) := V3.out.trans k4 (fun i hi => by cases hi); clear k4))
                  go_roundw
                  case rel => exact ⟨k + 1, cn, rfl, by go_num, by omega, by omega, C2, IK.out.step V4.out |> Lib.hid, Lib.hid (MK.out.kept0 V4.out), Lib.hid (AK.out.kept V4.out)⟩
                  case measure => simp [intOf]; omega
                | false =>
                  have z3 := z2.2 rfl
                  clear z2
                  obtain ⟨m0, m1, m2, m3⟩ := hak
                  have MEM : Hid (∀ w', Kept [] wr w' → Calls Tryd.prog 19 #[.pointer (some ⟨p, 0, none⟩), .string xn, .string yn] w' fun e w'' => e = .returned (.bool false) ∧ Kept [] w' w'') := MEM0.out
                  have LEA : Hid (∀ w', Kept [] wr w' → Calls Tryd.prog 20 #[.pointer (some ⟨p, 0, none⟩), .string xn, .string yn] w' fun e w'' => e = .returned (.bool false) ∧ Kept [] w' w'') := LEA0.out
                  have AM2 : Hid (∀ w', Kept [] wr w' → Calls Tryd.prog 18 #[.slice ga gs.length gc, .string yn] w' fun e w'' => e = .returned (.bool false) ∧ Kept [] w' w'') := AM20.out
                  clear MEM0 LEA0 AM20
                  have C2 : Hid (cn = cntG (accs L) xn (k + 1)) := CN.out rfl
                  clear CY CN
                  go_wp2_with (first | (go_at_call 18; refine AM1.out.mono ?_; rintro e v1 ⟨rfl, k1⟩; have V1 := Lib.hid k1; obtain ⟨m0', m1', m2', m3'⟩ := CELL.out _ k1; clear k1 AM1) | (go_at_call 19; refine (MEM.out _ V1.out).mono ?_; rintro e v2 ⟨rfl, k2⟩; have V2 : Hid (Kept [] wr v2) := V1.out.trans k2 (fun i hi => by cases hi); obtain ⟨m0'', m1'', m2'', m3''⟩ := CELL.out _ V2.out; clear k2) | (go_at_call 20; refine (LEA.out _ V2.out).mono ?_; rintro e v3 ⟨rfl, k3⟩; have V3 : Hid (Kept [] wr v3) := V2.out.trans k3 (fun i hi => by cases hi); obtain ⟨m0v, m1v, m2v, m3v⟩ := CELL.out _ V3.out; clear k3) | (go_at_call 18; refine (AM2.out _ V3.out).mono ?_; rintro e v4 ⟨rfl, k4⟩; have V4 : Hid (Kept [] wr v4) := V3.out.trans k4 (fun i hi => by cases hi); clear k4))
                  go_roundw
                  case rel => exact ⟨k + 1, cn, rfl, by go_num, by omega, by omega, C2, IK.out.step V4.out |> Lib.hid, Lib.hid (MK.out.kept0 V4.out), Lib.hid (AK.out.kept V4.out)⟩
                  case measure => simp [intOf]; omega
        · have j2 : ¬ (k : Int) < (L.length : Int) := by omega
          have hend : cn = gs.length := by
            have h1 := cntG_all (accs L) xn
            rw [accs_length, ← HGS.out] at h1
            rw [HCN.out, ← h1, show k = L.length by omega]
          subst hend
          have n3 := AK.out.2.2.2
          have hx3 := HX3.out
          have hTl : (accs L).length ≤ 1048576 := by rw [accs_length]; omega
          have hxm : xn.size ≤ maxLen := by rw [hx3]; decide
          have hxx : (xn ++ (⟨#[120]⟩ : ByteArray)).size ≤ maxLen := by
            have := size_x xn
            unfold xB at this
            rw [this, hx3]
            decide
          have zs : ¬ 9223372036854775807 < xn.size + 1 := by rw [hx3]; decide
          have zs2 : ¬ (9223372036854775807 : Int) < (xn.size : Int) + 1 := by omega
          have eK : (accT (accs L) xn).key = xk := by
            have := SO.out.key HIL.out
            rw [HXT.out] at this
            rw [this]
          have eN : known (accs L) xn = true := by
            have := Sole.known HIL.out
            rw [HXT.out] at this
            exact this
          have eNX : known (accs L) (xn ++ (⟨#[120]⟩ : ByteArray)) = false := TR.out.known_x hx3
          have eMX : member (accs L) xn (xn ++ (⟨#[120]⟩ : ByteArray)) = false := TR.out.member_x hx3
          have eLX : leads (accs L) (xn ++ (⟨#[120]⟩ : ByteArray)) xn = false := by
            have := TR.out.leads_x SO.out HIL.out
            rw [HXT.out] at this
            exact this
          have KEY := Lib.hid (fun (w' : World) (kk : Kept [] wr w') => key_t (IK.out.tb.kept kk) hTl xn hxm)
          have KNO := Lib.hid (fun (w' : World) (kk : Kept [] wr w') => Ukt.known_t (IK.out.tb.kept kk) xn hxm)
          have KNX := Lib.hid (fun (w' : World) (kk : Kept [] wr w') => Ukt.known_t (IK.out.tb.kept kk) (xn ++ (⟨#[120]⟩ : ByteArray)) hxx)
          have MEX := Lib.hid (fun (w' : World) (kk : Kept [] wr w') => Ukt.member_t (IK.out.tb.kept kk) xn (xn ++ (⟨#[120]⟩ : ByteArray)) hxm hxx)
          have LEX := Lib.hid (fun (w' : World) (kk : Kept [] wr w') => Ukt.leads_t (IK.out.tb.kept kk) hTl (xn ++ (⟨#[120]⟩ : ByteArray)) xn hxx hxm)
          rw [eK] at KEY
          rw [eN] at KNO
          rw [eNX] at KNX
          rw [eMX] at MEX
          rw [eLX] at LEX
          have KD : Hid (Kept [] wr wr.drew) := (Kept.refl [] wr).drew
          have RI : Hid (gs.Pairwise (fun x y => dl x ≤ dl y ∧ dl x ≠ dl y)) := by
            show List.Pairwise _ _
            rw [HGS.out]
            exact sortB_rises (gsel_nodup SO.out xn)
          clear eK eN eNX eMX eLX hxx hxm hTl hx3
          go_wp2_with fail
          go_region_held3 (fun w' => w'.cell? ⟨g1, i * 4 + 3, none⟩ = some (.string xk)) (first | exact n3 | exact S1.out | exact S2.out | exact S3.out | exact S4.out | exact S5.out) (first | (go_at_call 21; refine (KEY.out _ KD.out).mono ?_; rintro e v1 ⟨rfl, k1⟩; have V1 : Hid (Kept [] wr v1) := KD.out.trans k1 (fun i hi => by cases hi); have S1 := Lib.hid (AK.out.kept V1.out).2.2.2; clear k1 KEY) | (go_at_call 22; refine (KNO.out _ V1.out).mono ?_; rintro e v2 ⟨rfl, k2⟩; have V2 : Hid (Kept [] wr v2) := V1.out.trans k2 (fun i hi => by cases hi); have S2 := Lib.hid (AK.out.kept V2.out).2.2.2; clear k2 KNO) | (go_at_call 22; refine (KNX.out _ V2.out).mono ?_; rintro e v3 ⟨rfl, k3⟩; have V3 : Hid (Kept [] wr v3) := V2.out.trans k3 (fun i hi => by cases hi); have S3 := Lib.hid (AK.out.kept V3.out).2.2.2; clear k3 KNX) | (go_at_call 19; refine (MEX.out _ V3.out).mono ?_; rintro e v4 ⟨rfl, k4⟩; have V4 : Hid (Kept [] wr v4) := V3.out.trans k4 (fun i hi => by cases hi); have S4 := Lib.hid (AK.out.kept V4.out).2.2.2; clear k4 MEX) | (go_at_call 20; refine (LEX.out _ V4.out).mono ?_; rintro e v5 ⟨rfl, k5⟩; have V5 : Hid (Kept [] wr v5) := V4.out.trans k5 (fun i hi => by cases hi); have S5 := Lib.hid (AK.out.kept V5.out).2.2.2; clear k5 LEX))
          rename_i hh
          clear hh
          have I5 : Hid (GwF w v5 B p (accs L) (some ⟨g1, 0, none⟩) c L) := IK.out.step V5.out
          have M5 : Hid (Mem v5 (.slice ga gs.length gc) gs) := MK.out.kept0 V5.out
          have hgl := HGL.out
          clear n3 zs zs2 S1 S2 S3 S4 S5 V1 V2 V3 V4 KD IK MK AK HCN
          go_wp2_with fail
          go_loopw [15] (fun kv wx => ∃ m m1 : Nat, kv = .int .i64 m1 ∧ m1 = m + 1 ∧ m ≤ gs.length ∧ Hid (GwF w wx B p (accs L) (some ⟨g1, 0, none⟩) c L) ∧ Hid (Mem wx (.slice ga gs.length gc) gs)) (fun kv _ => gs.length + 1 - (intOf kv).toNat)
          case atStart => exact ⟨0, 1, rfl, rfl, by omega, I5, M5⟩
          case round =>
            obtain ⟨m, m1, rfl, hm1, hmg, IX, MX⟩ := hrel
            by_cases hml : m1 < gs.length
            · have j3 : (m1 : Int) < (gs.length : Int) := by omega
              have hs1 : (m1 : Int) - 1 = (m : Int) := by omega
              obtain ⟨gg, rfl, y1, -⟩ := MX.out.at' (show m < gs.length by omega)
              obtain ⟨gg', e', y2, -⟩ := MX.out.at' hml
              simp only [Option.some.injEq, Addr.mk.injEq, and_true] at e'
              subst e'
              have hb : Op.bytesLess gs[m].toList gs[m1].toList = true := by
                subst hm1
                rw [toList_dl, toList_dl]
                exact bytesLess_of_lt _ _ (rises_lt RI.out hml)
              obtain ⟨ya, hya⟩ : ∃ x, x = gs[m] := ⟨_, rfl⟩
              obtain ⟨yb, hyb⟩ : ∃ x, x = gs[m1] := ⟨_, rfl⟩
              rw [← hya] at y1 hb
              rw [← hyb] at y2 hb
              have ID : Hid (GwF w wr.drew B p (accs L) (some ⟨g1, 0, none⟩) c L) := IX.out.step (Kept.refl [] wr).drew
              have MD2 : Hid (Mem wr.drew (.slice (some ⟨gg, 0, none⟩) gs.length gc) gs) := MX.out.kept0 (Kept.refl [] wr).drew
              have HM1 := Lib.hid hm1
              clear hya hyb hm1
              go_wp2_with fail
              go_region
              go_wp2_with fail
              go_roundw
              case rel => exact ⟨m + 1, m1 + 1, by go_num, by have := HM1.out; omega, by have := HM1.out; omega, ID, MD2⟩
              case measure => simp [intOf]; omega
            · have j3 : ¬ (m1 : Int) < (gs.length : Int) := by omega
              clear hm1
              go_wp2_with fail
              go_roundw
              case rel => exact ⟨i + 1, by go_num, by omega, IX⟩
              case measure => simp [intOf]; omega
    · have j1 : ¬ (i : Int) < (L.length : Int) := by omega
      go_wp2_with fail
      go_ret
      exact ⟨rfl, IF.out.kept⟩
end Us
end Go.Proofs.YteeheapenfklcaaDoor
