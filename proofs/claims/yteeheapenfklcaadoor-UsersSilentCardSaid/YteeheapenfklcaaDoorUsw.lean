/- UsersSilent walked. -/
import Derived.Test.YteeheapenfklcaaDoorUso
namespace Go.Proofs.YteeheapenfklcaaDoor
set_option linter.unusedVariables false
open Go.RowKit Go.Shelf
attribute [local go_sem] Oper.semAt_some
namespace Us
open Go.Proofs.YteeheapenfklcaaDoor.Utf Go.Proofs.YteeheapenfklcaaDoor.Txt Go.PlainAid Go.Proofs.YteeheapenfklcaaDoor.Mpf
theorem made_new (ws : List WhoD) : ∀ a ∈ madeT ws, a.name ≠ newN ∧ a.name ≠ nobN := fun a ha => by
  obtain ⟨k, hk, rfl⟩ := List.getElem_of_mem ha
  rw [made_name ws hk]
  constructor
  · intro e
    have := congrArg (fun b : ByteArray => b.data[0]?) e
    simp [nameL, newN] at this
  · intro e
    have := congrArg (fun b : ByteArray => b.data[0]?) e
    simp [nameL, nobN] at this
set_option maxHeartbeats 16000000 in
set_option maxRecDepth 100000 in
theorem silent_law (w : World) (hm : Ml w) (a0 : Option Addr) (c0 : Nat) (ws : List (WhoD × Value)) (hW : Whs w (.slice a0 ws.length c0) ws) (a1 : Option Addr) (c1 : Nat) (ls : List ByteArray) (hL : LstS w (.slice a1 ls.length c1) ls) (tu : Int) (htu : -9223372036854775808 ≤ tu ∧ tu ≤ 9223372036854775807) :
    Calls Tryd.prog 6 #[.slice a0 ws.length c0, .slice a1 ls.length c1, .int .i64 tu] w fun e w' => e = .returned (.bool true) ∧ Kept [] w w' := by
  have KN := Lib.hid (known06 w hm)
  have MD := Lib.hid (fun (w' : World) (k : Kept [] w w') => made_any w' a0 c0 ws (hW.kept k))
  have TA : Hid (∀ (w' : World) (a : Option Addr) (c : Nat) (L : List (Acc × Value)), Kept [] w w' → RowsA w' (.slice a L.length c) L → Good (accs L) → Calls Tryd.prog 16 #[.slice a L.length c] w' fun e w'' => ∃ B p, e = .returned (.pointer (some ⟨p, 0, none⟩)) ∧ Tb w'' B p (accs L) ∧ Kept [] w' w'') := fun w' a c L k hR g => table_ok (hm.kept0 k) hR g
  have PK : Hid (∀ (n : Nat) (w' : World), n ≤ 30 → Calls Tryd.prog 23 #[.int .i64 tu, .int .i64 ((n : Int) + 1)] w' fun e w'' => e = .returned (.int .i64 (pickN tu (n + 1) : Nat)) ∧ w' = w'') := fun n w' h => pick_any w' tu (n + 1) (by omega) htu.1 htu.2 (by omega)
  have FPA := Lib.hid (fun (X : List Ln) (h : FineX X) (z : ByteArray) (hz : z = ofL (textX X)) (q : Int) (hq : q = (X.length : Nat)) => four_parse hm h hz hq)
  have HLS := Lib.hid hL
  have hls : ls.length ≤ 9223372036854775807 := by obtain ⟨_, _, -, h, -⟩ := hL; exact h
  clear hm hW hL htu
  go_enter Tryd.func6, Tryd.ntmps6
  go_upto_region 6 with (first | (go_at_call 8; refine KN.out.mono ?_; rintro e w1 ⟨rfl, k1⟩; have K1 := Lib.hid k1; clear k1 KN) | (go_at_call 15; refine (MD.out _ K1.out).mono ?_; rintro e w2 ⟨v, L, rfl, hT, hR, k2⟩; have K2 : Hid (Kept [] w w2) := K1.out.trans k2 (fun i hi => by cases hi); obtain ⟨a, c, hv⟩ := own_slg hR.row; subst hv; have HT := Lib.hid hT; have HR2 := Lib.hid hR; have GD : Hid (Good (accs L)) := good_of hT; clear hT hR k2 MD) | (go_at_call 16; refine (TA.out _ a c L K2.out HR2.out GD.out).mono ?_; rintro e w3 ⟨B, p, rfl, -, k3⟩; have K3 : Hid (Kept [] w w3) := K2.out.trans k3 (fun i hi => by cases hi); have HR3 := Lib.hid (HR2.out.kept0 k3); clear k3 TA))
  have HR : Hid (∀ w', Kept [] w3 w' → RowsA w' (.slice a L.length c) L) := fun w' k => HR3.out.kept0 k
  have FI := Lib.hid (good_fit GD.out)
  have hLL : L.length ≤ 30 := by
    have h1 := congrArg List.length HT.out
    rw [accs_length, madeT_length] at h1
    omega
  obtain ⟨kk, hkk⟩ : ∃ k, k = pickN tu (L.length + 1) := ⟨_, rfl⟩
  have PKL : Hid (∀ w', Calls Tryd.prog 23 #[.int .i64 tu, .int .i64 ((L.length : Int) + 1)] w' fun e w'' => e = .returned (.int .i64 kk) ∧ w' = w'') := fun w' => by rw [hkk]; exact PK.out _ w' hLL
  have HKL : kk < L.length + 1 := by rw [hkk]; exact Nat.mod_lt _ (by omega)
  obtain ⟨S, hS⟩ : ∃ S, S = sils ls 60 := ⟨_, rfl⟩
  have HSE := Lib.hid hS
  have SS : Hid (∀ j, j ≤ 60 → (textX (sils ls j)).length ≤ 3720) := fun j hj => by
    have h8 := textX_len (X := sils ls j) (m := 61) (fun x hx => by obtain ⟨s, -, rfl⟩ := List.mem_map.1 hx; exact sil_len s)
    have h9 := sils_len60 ls j
    have h7 := Nat.mul_le_mul_right 62 h9
    omega
  have ZS : Hid (∀ i, i ≤ L.length + 1 → (textX (XA S (accs L) kk i)).length ≤ 6200) := fun i hi => by
    rw [hS]
    exact short_X kk i (fun x hx => by obtain ⟨s, -, rfl⟩ := List.mem_map.1 hx; have := sil_len s; omega) (sils_len60 ls 60) FI.out (by rw [accs_length]; exact hLL) (by rw [accs_length]; exact hi)
  have FX : Hid (FineX (XA S (accs L) kk (L.length + 1))) := by
    have h8 := sil_X (ls := ls) (T := accs L) (k := kk) (by rw [accs_length]; exact hLL) GD.out.form FI.out (by rw [HT.out]; exact made_sole _) (by rw [HT.out]; exact made_new _)
    rw [accs_length] at h8
    rw [hS]
    exact h8
  have XL : (XA S (accs L) kk (L.length + 1)).length = cntS S kk (L.length + 1) + L.length := by
    rw [XA_len, accs_length]
    omega
  have CN : cntS S kk (L.length + 1) ≤ 60 := by
    have := sils_len60 ls 60
    rw [← hS] at this
    unfold cntS
    split <;> omega
  have HXL := Lib.hid XL
  have HCN := Lib.hid CN
  have K0 : Hid (Kept [] w w3) := K3.out
  have KW : Hid (∀ w', Kept [] w3 w' → Kept [] w w') := fun w' k => K0.out.trans k (fun i hi => by cases hi)
  have HM0 : Hid (0 = cntS S kk 0) := by show _ = _; unfold cntS; rw [if_neg (by omega)]
  have HZ0 : Hid ((⟨#[]⟩ : ByteArray) = ofL (textX (XA S (accs L) kk 0))) := rfl
  have KR : Hid (Kept [] w3 w3) := Kept.refl [] w3
  have HLS3 : Hid (∀ w', Kept [] w3 w' → LstS w' (.slice a1 ls.length c1) ls) := fun w' k => HLS.out.kept (KW.out w' k)
  obtain ⟨wz, hwz⟩ : ∃ x, x = w3 := ⟨_, rfl⟩
  clear HT K1 K2 K3 PK XL CN hkk hS HLS HR2 HR3
  go_wp2_with (go_at_call 23; refine (PKL.out _).mono ?_; rintro e u ⟨rfl, rfl⟩)
  clear PKL
  go_loopw [11, 12, 13] (fun sv nv iv wr => ∃ (i m : Nat) (z : ByteArray), sv = .string z ∧ nv = .int .i64 m ∧ iv = .int .i64 i ∧ i ≤ L.length + 1 ∧ Hid (m = cntS S kk i) ∧ Hid (z = ofL (textX (XA S (accs L) kk i))) ∧ Hid (Kept [] w3 wr)) (fun _ _ iv _ => L.length + 1 - (intOf iv).toNat)
  case atStart => exact ⟨0, 0, ⟨#[]⟩, rfl, rfl, rfl, by omega, HM0, HZ0, KR⟩
  case round =>
    obtain ⟨i, m, z, rfl, rfl, rfl, hi, IM, IZ, IK⟩ := hrel
    by_cases hil : i ≤ L.length
    · have j0 : (i : Int) ≤ (L.length : Int) := by omega
      by_cases hk : i = kk
      · subst hk
        have m0 : m = 0 := by rw [IM.out]; unfold cntS; rw [if_neg (by omega)]
        subst m0
        have IZ0 : Hid (z = ofL (textX (XA S (accs L) i i ++ sils ls 0))) := by show _ = _; rw [IZ.out]; simp [sils]
        clear IZ IM
        go_wp2_with fail
        go_loopw [11, 12, 14] (fun sv nv jv wx => ∃ (j : Nat) (z : ByteArray), sv = .string z ∧ nv = .int .i64 j ∧ jv = .int .i64 j ∧ j ≤ ls.length ∧ j ≤ 60 ∧ Hid (z = ofL (textX (XA S (accs L) i i ++ sils ls j))) ∧ Hid (Kept [] w3 wx)) (fun _ _ jv _ => 60 - (intOf jv).toNat)
        case atStart => exact ⟨0, z, rfl, rfl, rfl, by omega, by omega, IZ0, IK⟩
        case round =>
          obtain ⟨j, z, rfl, rfl, rfl, hj1, hj2, IZ, KX⟩ := hrel
          by_cases hjl : j < ls.length
          · have s1 : (j : Int) < (ls.length : Int) := by omega
            by_cases h60 : j < 60
            · have s2 : (j : Int) < 60 := by omega
              obtain ⟨x, hx⟩ : ∃ x, x = ls[j] := ⟨_, rfl⟩
              have XC : ∃ b o, a1 = some ⟨b, o, none⟩ ∧ wr.cell? ⟨b, o + j, none⟩ = some (.string x) := by
                obtain ⟨a9, c9, e9, -, h9⟩ := HLS3.out _ KX.out
                cases e9
                rcases h9 with h9 | ⟨b, o, rfl, h9⟩
                · rw [h9] at hjl; exact absurd hjl (by simp)
                · exact ⟨b, o, rfl, by rw [hx]; exact h9 j hjl⟩
              obtain ⟨b, o, rfl, xc⟩ := XC
              obtain ⟨y, hy⟩ : ∃ y, y = ofL ((silLn x).lin ++ [10]) := ⟨_, rfl⟩
              have SI : Hid (∀ w', Calls Tryd.prog 25 #[.string x] w' fun e w'' => e = .returned (.string y) ∧ Kept [] w' w'') := fun w' => by rw [hy]; exact silent_any w' x
              have zs : ¬ 9223372036854775807 < z.size + y.size := by
                have h8 := ZS.out i (by omega)
                have h9 := SS.out j hj2
                have h7 := sil_len x
                rw [IZ.out, hy, ofL_size, ofL_size, textX_append, List.length_append, List.length_append]
                simp only [List.length_cons, List.length_nil]
                omega
              have IZ2 : Hid (z ++ y = ofL (textX (XA S (accs L) i i ++ sils ls (j + 1)))) := by
                show _ = _
                rw [IZ.out, hy, sils_step ls hjl, ← hx, ← List.append_assoc, textX_append _ [_], ← ofL_add]
                simp [textX]
              clear IZ hy hx
              go_wp2_with (go_at_call 25; refine (SI.out _).mono ?_; rintro e ws ⟨rfl, ks⟩; have KS : Hid (Kept [] w3 ws) := KX.out.trans ks (fun i hi => by cases hi); clear ks SI)
              go_roundw
              case rel => exact ⟨j + 1, z ++ y, rfl, by go_num, by go_num, by omega, by omega, IZ2, KS⟩
              case measure => simp [intOf]; omega
            · have s2 : ¬ (j : Int) < 60 := by omega
              have HSJ : sils ls j = sils ls 60 := by rw [show j = 60 by omega]
              have e9 : S = sils ls j := HSE.out.trans HSJ.symm
              have HM : Hid (j = cntS S i (i + 1)) := by
                show _ = _
                have c0 : cntS S i i = 0 := by unfold cntS; rw [if_neg (by omega)]
                rw [cnt_step, if_pos rfl, c0, e9, sils_len ls hj1]
                omega
              have HZ : Hid (z = ofL (textX (XA S (accs L) i i ++ (if i = i then S else [])))) := by
                show _ = _
                rw [if_pos rfl]
                have h := IZ.out
                rw [← e9] at h
                exact h
              have Z2S : Hid (z.size ≤ 20000) := by
                show _ ≤ _
                rw [IZ.out, ofL_size, textX_append, List.length_append]
                have h8 := ZS.out i (by omega)
                have h9 := SS.out j hj2
                omega
              clear IZ HSJ e9
              by_cases hlt : i < L.length
              · have j1 : (i : Int) < (L.length : Int) := by omega
                have RX := HR.out _ KX.out
                obtain ⟨g1, rfl, -⟩ := RX.at' hlt
                have hat := RX.atA hlt
                obtain ⟨⟨⟨xn, xl, xm, xk⟩, xv⟩, hx⟩ : ∃ x, x = L[i] := ⟨_, rfl⟩
                have hil : i < (accs L).length := by rw [accs_length]; exact hlt
                have hxT : (accs L)[i]'hil = ⟨xn, xl, xm, xk⟩ := by rw [accs_at hlt, ← hx]
                rw [← hx] at hat
                simp only at hat
                obtain ⟨n0, -, -, n3⟩ := hat
                have PB : Hid (∀ (W : World) (R : Nat), W.heap[R]? = some (.cells #[.string xn, .string ⟨#[]⟩, .slice none 0 0, .string xk] 45 (0, 0)) → Calls Tryd.prog 9 #[.slice (some ⟨R, 0, none⟩) 1 1] W fun e w' => e = .returned (.tuple #[.string (ofL (textX [.acc (bare ⟨xn, xl, xm, xk⟩)])), .int .i64 0]) ∧ Kept [] W w') := fun W R h => print_bare ⟨xn, xl, xm, xk⟩ h (by rw [← hxT]; exact GD.out.form _ (List.getElem_mem hil)) (by rw [← hxT]; exact FI.out _ (List.getElem_mem hil))
                have YS : (ofL (textX [.acc (bare ⟨xn, xl, xm, xk⟩)])).size ≤ 68 := by
                  have h9 := textX_len (X := [.acc (bare ⟨xn, xl, xm, xk⟩)]) (m := 67) (fun x hx => by rw [List.mem_singleton] at hx; subst hx; exact bare_len (by rw [← hxT]; exact FI.out _ (List.getElem_mem hil)))
                  rw [ofL_size]
                  simpa using h9
                have EB : barA (accs L) i = [.acc (bare ⟨xn, xl, xm, xk⟩)] := by unfold barA; rw [List.getElem?_eq_getElem hil, hxT]; rfl
                obtain ⟨y, hy⟩ : ∃ y, y = ofL (textX [.acc (bare ⟨xn, xl, xm, xk⟩)]) := ⟨_, rfl⟩
                rw [← hy] at PB YS
                have hzy : ¬ 9223372036854775807 < z.size + y.size := by have := Z2S.out; omega
                have HZ3 : Hid (z ++ y = ofL (textX (XA S (accs L) i (i + 1)))) := by
                  show _ = _
                  rw [HZ.out, hy, ← ofL_add, ← textX_append]
                  rw [show XA S (accs L) i (i + 1) = XA S (accs L) i i ++ ((if i = i then S else []) ++ barA (accs L) i) from rfl, EB, List.append_assoc]
                have S0 : Hid (wr.cell? ⟨g1, i * 4, none⟩ = some (.string xn) ∧ wr.cell? ⟨g1, i * 4 + 3, none⟩ = some (.string xk)) := ⟨n0, n3⟩
                have KA : Hid (Kept [] w3 (wr.alloc (.cells #[.string xn, .string ⟨#[]⟩, .slice none 0 0, .string xk] 45))) := KX.out.alloc _
                have SA : Hid ((wr.alloc (.cells #[.string xn, .string ⟨#[]⟩, .slice none 0 0, .string xk] 45)).cell? ⟨g1, i * 4, none⟩ = some (.string xn) ∧ (wr.alloc (.cells #[.string xn, .string ⟨#[]⟩, .slice none 0 0, .string xk] 45)).cell? ⟨g1, i * 4 + 3, none⟩ = some (.string xk)) := ⟨wk ((Kept.refl [] wr).alloc _) n0, wk ((Kept.refl [] wr).alloc _) n3⟩
                clear hx hil hxT hy EB n0 n3 RX HZ
                go_wp2_with fail
                go_region_held3 (fun w' => w'.cell? ⟨g1, i * 4, none⟩ = some (.string xn) ∧ w'.cell? ⟨g1, i * 4 + 3, none⟩ = some (.string xk)) (first | exact S0.out | exact SA.out | exact S1.out) (first | (go_at_call 9; refine (PB.out _ _ (by exact (MapKept.heap_alloc wr _).1)).mono ?_; rintro e wp ⟨rfl, kp⟩; have KP : Hid (Kept [] w3 wp) := (by first | exact KA.out.trans kp (fun i hi => by cases hi) | exact KA.out.drew.trans kp (fun i hi => by cases hi)); have S1 : Hid (wp.cell? ⟨g1, i * 4, none⟩ = some (.string xn) ∧ wp.cell? ⟨g1, i * 4 + 3, none⟩ = some (.string xk)) := (by first | exact ⟨wk kp SA.out.1, wk kp SA.out.2⟩); clear kp PB))
                rename_i hh
                clear hh S0 SA S1 KA
                go_wp2_with fail
                go_roundw
                case rel => exact ⟨i + 1, j, z ++ y, rfl, rfl, by go_num, by omega, HM, HZ3, KP⟩
                case measure => simp [intOf]; omega
              · have j1 : ¬ (i : Int) < (L.length : Int) := by omega
                have HZ3 : Hid (z = ofL (textX (XA S (accs L) i (i + 1)))) := by
                  show _ = _
                  have EB : barA (accs L) i = [] := by unfold barA; rw [List.getElem?_eq_none (by rw [accs_length]; omega)]; rfl
                  rw [HZ.out]
                  rw [show XA S (accs L) i (i + 1) = XA S (accs L) i i ++ ((if i = i then S else []) ++ barA (accs L) i) from rfl, EB, List.append_nil]
                clear HZ
                go_wp2_with fail
                go_roundw
                case rel => exact ⟨i + 1, j, z, rfl, rfl, by go_num, by omega, HM, HZ3, KX⟩
                case measure => simp [intOf]; omega
          · have s1 : ¬ (j : Int) < (ls.length : Int) := by omega
            have HSJ : sils ls j = sils ls 60 := sils_end (by omega) hj2
            have e9 : S = sils ls j := HSE.out.trans HSJ.symm
            have HM : Hid (j = cntS S i (i + 1)) := by
              show _ = _
              have c0 : cntS S i i = 0 := by unfold cntS; rw [if_neg (by omega)]
              rw [cnt_step, if_pos rfl, c0, e9, sils_len ls hj1]
              omega
            have HZ : Hid (z = ofL (textX (XA S (accs L) i i ++ (if i = i then S else [])))) := by
              show _ = _
              rw [if_pos rfl]
              have h := IZ.out
              rw [← e9] at h
              exact h
            have Z2S : Hid (z.size ≤ 20000) := by
              show _ ≤ _
              rw [IZ.out, ofL_size, textX_append, List.length_append]
              have h8 := ZS.out i (by omega)
              have h9 := SS.out j hj2
              omega
            clear IZ HSJ e9
            by_cases hlt : i < L.length
            · have j1 : (i : Int) < (L.length : Int) := by omega
              have RX := HR.out _ KX.out
              obtain ⟨g1, rfl, -⟩ := RX.at' hlt
              have hat := RX.atA hlt
              obtain ⟨⟨⟨xn, xl, xm, xk⟩, xv⟩, hx⟩ : ∃ x, x = L[i] := ⟨_, rfl⟩
              have hil : i < (accs L).length := by rw [accs_length]; exact hlt
              have hxT : (accs L)[i]'hil = ⟨xn, xl, xm, xk⟩ := by rw [accs_at hlt, ← hx]
              rw [← hx] at hat
              simp only at hat
              obtain ⟨n0, -, -, n3⟩ := hat
              have PB : Hid (∀ (W : World) (R : Nat), W.heap[R]? = some (.cells #[.string xn, .string ⟨#[]⟩, .slice none 0 0, .string xk] 45 (0, 0)) → Calls Tryd.prog 9 #[.slice (some ⟨R, 0, none⟩) 1 1] W fun e w' => e = .returned (.tuple #[.string (ofL (textX [.acc (bare ⟨xn, xl, xm, xk⟩)])), .int .i64 0]) ∧ Kept [] W w') := fun W R h => print_bare ⟨xn, xl, xm, xk⟩ h (by rw [← hxT]; exact GD.out.form _ (List.getElem_mem hil)) (by rw [← hxT]; exact FI.out _ (List.getElem_mem hil))
              have YS : (ofL (textX [.acc (bare ⟨xn, xl, xm, xk⟩)])).size ≤ 68 := by
                have h9 := textX_len (X := [.acc (bare ⟨xn, xl, xm, xk⟩)]) (m := 67) (fun x hx => by rw [List.mem_singleton] at hx; subst hx; exact bare_len (by rw [← hxT]; exact FI.out _ (List.getElem_mem hil)))
                rw [ofL_size]
                simpa using h9
              have EB : barA (accs L) i = [.acc (bare ⟨xn, xl, xm, xk⟩)] := by unfold barA; rw [List.getElem?_eq_getElem hil, hxT]; rfl
              obtain ⟨y, hy⟩ : ∃ y, y = ofL (textX [.acc (bare ⟨xn, xl, xm, xk⟩)]) := ⟨_, rfl⟩
              rw [← hy] at PB YS
              have hzy : ¬ 9223372036854775807 < z.size + y.size := by have := Z2S.out; omega
              have HZ3 : Hid (z ++ y = ofL (textX (XA S (accs L) i (i + 1)))) := by
                show _ = _
                rw [HZ.out, hy, ← ofL_add, ← textX_append]
                rw [show XA S (accs L) i (i + 1) = XA S (accs L) i i ++ ((if i = i then S else []) ++ barA (accs L) i) from rfl, EB, List.append_assoc]
              have S0 : Hid (wr.cell? ⟨g1, i * 4, none⟩ = some (.string xn) ∧ wr.cell? ⟨g1, i * 4 + 3, none⟩ = some (.string xk)) := ⟨n0, n3⟩
              have KA : Hid (Kept [] w3 (wr.alloc (.cells #[.string xn, .string ⟨#[]⟩, .slice none 0 0, .string xk] 45))) := KX.out.alloc _
              have SA : Hid ((wr.alloc (.cells #[.string xn, .string ⟨#[]⟩, .slice none 0 0, .string xk] 45)).cell? ⟨g1, i * 4, none⟩ = some (.string xn) ∧ (wr.alloc (.cells #[.string xn, .string ⟨#[]⟩, .slice none 0 0, .string xk] 45)).cell? ⟨g1, i * 4 + 3, none⟩ = some (.string xk)) := ⟨wk ((Kept.refl [] wr).alloc _) n0, wk ((Kept.refl [] wr).alloc _) n3⟩
              clear hx hil hxT hy EB n0 n3 RX HZ
              go_wp2_with fail
              go_region_held3 (fun w' => w'.cell? ⟨g1, i * 4, none⟩ = some (.string xn) ∧ w'.cell? ⟨g1, i * 4 + 3, none⟩ = some (.string xk)) (first | exact S0.out | exact SA.out | exact S1.out) (first | (go_at_call 9; refine (PB.out _ _ (by exact (MapKept.heap_alloc wr _).1)).mono ?_; rintro e wp ⟨rfl, kp⟩; have KP : Hid (Kept [] w3 wp) := (by first | exact KA.out.trans kp (fun i hi => by cases hi) | exact KA.out.drew.trans kp (fun i hi => by cases hi)); have S1 : Hid (wp.cell? ⟨g1, i * 4, none⟩ = some (.string xn) ∧ wp.cell? ⟨g1, i * 4 + 3, none⟩ = some (.string xk)) := (by first | exact ⟨wk kp SA.out.1, wk kp SA.out.2⟩); clear kp PB))
              rename_i hh
              clear hh S0 SA S1 KA
              go_wp2_with fail
              go_roundw
              case rel => exact ⟨i + 1, j, z ++ y, rfl, rfl, by go_num, by omega, HM, HZ3, KP⟩
              case measure => simp [intOf]; omega
            · have j1 : ¬ (i : Int) < (L.length : Int) := by omega
              have HZ3 : Hid (z = ofL (textX (XA S (accs L) i (i + 1)))) := by
                show _ = _
                have EB : barA (accs L) i = [] := by unfold barA; rw [List.getElem?_eq_none (by rw [accs_length]; omega)]; rfl
                rw [HZ.out]
                rw [show XA S (accs L) i (i + 1) = XA S (accs L) i i ++ ((if i = i then S else []) ++ barA (accs L) i) from rfl, EB, List.append_nil]
              clear HZ
              go_wp2_with fail
              go_roundw
              case rel => exact ⟨i + 1, j, z, rfl, rfl, by go_num, by omega, HM, HZ3, KX⟩
              case measure => simp [intOf]; omega
      · have jk : ¬ (i : Int) = (kk : Int) := by omega
        have HM : Hid (m = cntS S kk (i + 1)) := by
          show _ = _
          rw [cnt_step, if_neg hk, IM.out]
          rfl
        have HZ : Hid (z = ofL (textX (XA S (accs L) kk i ++ (if i = kk then S else [])))) := by
          show _ = _
          rw [if_neg hk, List.append_nil]
          exact IZ.out
        have Z2S : Hid (z.size ≤ 20000) := by
          show _ ≤ _
          rw [IZ.out, ofL_size]
          have h8 := ZS.out i (by omega)
          omega
        have KX := IK
        clear IZ IM IK
        by_cases hlt : i < L.length
        · have j1 : (i : Int) < (L.length : Int) := by omega
          have RX := HR.out _ KX.out
          obtain ⟨g1, rfl, -⟩ := RX.at' hlt
          have hat := RX.atA hlt
          obtain ⟨⟨⟨xn, xl, xm, xk⟩, xv⟩, hx⟩ : ∃ x, x = L[i] := ⟨_, rfl⟩
          have hil : i < (accs L).length := by rw [accs_length]; exact hlt
          have hxT : (accs L)[i]'hil = ⟨xn, xl, xm, xk⟩ := by rw [accs_at hlt, ← hx]
          rw [← hx] at hat
          simp only at hat
          obtain ⟨n0, -, -, n3⟩ := hat
          have PB : Hid (∀ (W : World) (R : Nat), W.heap[R]? = some (.cells #[.string xn, .string ⟨#[]⟩, .slice none 0 0, .string xk] 45 (0, 0)) → Calls Tryd.prog 9 #[.slice (some ⟨R, 0, none⟩) 1 1] W fun e w' => e = .returned (.tuple #[.string (ofL (textX [.acc (bare ⟨xn, xl, xm, xk⟩)])), .int .i64 0]) ∧ Kept [] W w') := fun W R h => print_bare ⟨xn, xl, xm, xk⟩ h (by rw [← hxT]; exact GD.out.form _ (List.getElem_mem hil)) (by rw [← hxT]; exact FI.out _ (List.getElem_mem hil))
          have YS : (ofL (textX [.acc (bare ⟨xn, xl, xm, xk⟩)])).size ≤ 68 := by
            have h9 := textX_len (X := [.acc (bare ⟨xn, xl, xm, xk⟩)]) (m := 67) (fun x hx => by rw [List.mem_singleton] at hx; subst hx; exact bare_len (by rw [← hxT]; exact FI.out _ (List.getElem_mem hil)))
            rw [ofL_size]
            simpa using h9
          have EB : barA (accs L) i = [.acc (bare ⟨xn, xl, xm, xk⟩)] := by unfold barA; rw [List.getElem?_eq_getElem hil, hxT]; rfl
          obtain ⟨y, hy⟩ : ∃ y, y = ofL (textX [.acc (bare ⟨xn, xl, xm, xk⟩)]) := ⟨_, rfl⟩
          rw [← hy] at PB YS
          have hzy : ¬ 9223372036854775807 < z.size + y.size := by have := Z2S.out; omega
          have HZ3 : Hid (z ++ y = ofL (textX (XA S (accs L) kk (i + 1)))) := by
            show _ = _
            rw [HZ.out, hy, ← ofL_add, ← textX_append]
            rw [show XA S (accs L) kk (i + 1) = XA S (accs L) kk i ++ ((if i = kk then S else []) ++ barA (accs L) i) from rfl, EB, List.append_assoc]
          have S0 : Hid (wr.cell? ⟨g1, i * 4, none⟩ = some (.string xn) ∧ wr.cell? ⟨g1, i * 4 + 3, none⟩ = some (.string xk)) := ⟨n0, n3⟩
          have KA : Hid (Kept [] w3 (wr.alloc (.cells #[.string xn, .string ⟨#[]⟩, .slice none 0 0, .string xk] 45))) := KX.out.alloc _
          have SA : Hid ((wr.alloc (.cells #[.string xn, .string ⟨#[]⟩, .slice none 0 0, .string xk] 45)).cell? ⟨g1, i * 4, none⟩ = some (.string xn) ∧ (wr.alloc (.cells #[.string xn, .string ⟨#[]⟩, .slice none 0 0, .string xk] 45)).cell? ⟨g1, i * 4 + 3, none⟩ = some (.string xk)) := ⟨wk ((Kept.refl [] wr).alloc _) n0, wk ((Kept.refl [] wr).alloc _) n3⟩
          clear hx hil hxT hy EB n0 n3 RX HZ
          go_wp2_with fail
          go_region_held3 (fun w' => w'.cell? ⟨g1, i * 4, none⟩ = some (.string xn) ∧ w'.cell? ⟨g1, i * 4 + 3, none⟩ = some (.string xk)) (first | exact S0.out | exact SA.out | exact S1.out) (first | (go_at_call 9; refine (PB.out _ _ (by exact (MapKept.heap_alloc wr _).1)).mono ?_; rintro e wp ⟨rfl, kp⟩; have KP : Hid (Kept [] w3 wp) := (by first | exact KA.out.trans kp (fun i hi => by cases hi) | exact KA.out.drew.trans kp (fun i hi => by cases hi)); have S1 : Hid (wp.cell? ⟨g1, i * 4, none⟩ = some (.string xn) ∧ wp.cell? ⟨g1, i * 4 + 3, none⟩ = some (.string xk)) := (by first | exact ⟨wk kp SA.out.1, wk kp SA.out.2⟩); clear kp PB))
          rename_i hh
          clear hh S0 SA S1 KA
          go_wp2_with fail
          go_roundw
          case rel => exact ⟨i + 1, m, z ++ y, rfl, rfl, by go_num, by omega, HM, HZ3, KP⟩
          case measure => simp [intOf]; omega
        · have j1 : ¬ (i : Int) < (L.length : Int) := by omega
          have HZ3 : Hid (z = ofL (textX (XA S (accs L) kk (i + 1)))) := by
            show _ = _
            have EB : barA (accs L) i = [] := by unfold barA; rw [List.getElem?_eq_none (by rw [accs_length]; omega)]; rfl
            rw [HZ.out]
            rw [show XA S (accs L) kk (i + 1) = XA S (accs L) kk i ++ ((if i = kk then S else []) ++ barA (accs L) i) from rfl, EB, List.append_nil]
          clear HZ
          go_wp2_with fail
          go_roundw
          case rel => exact ⟨i + 1, m, z, rfl, rfl, by go_num, by omega, HM, HZ3, KX⟩
          case measure => simp [intOf]; omega
    · have j0 : ¬ (i : Int) ≤ (L.length : Int) := by omega
      obtain rfl : i = L.length + 1 := by omega
      have hm60 : m ≤ 60 := by rw [IM.out]; exact HCN.out
      have KV := Lib.hid (KW.out _ IK.out)
      obtain ⟨P1, P2, P3, P4⟩ := FPA.out _ FX.out z IZ.out ((L.length : Int) + (m : Int)) (by rw [HXL.out, ← IM.out]; omega)
      have HP1 := Lib.hid P1
      have HP2 := Lib.hid P2
      have HP3 := Lib.hid P3
      have HP4 := Lib.hid P4
      have zl : z.size ≤ 6200 := by rw [IZ.out, ofL_size]; exact ZS.out _ (by omega)
      have z1 : ¬ 9223372036854775807 < z.size + 4 := by omega
      have z2 : ¬ 9223372036854775807 < z.size + 4 + 9 := by omega
      have z3 : ¬ 9223372036854775807 < z.size + 13 := by omega
      clear P1 P2 P3 P4 FPA FX IZ IM IK ZS SS HXL HCN HSE FI GD HLS3 KW K0 HR
      go_wp2_with (first | (go_at_call 10; refine (HP1.out _ KV.out).mono ?_; rintro e v1 ⟨p1, rfl, k1⟩; have V1 : Hid (Kept [] w v1) := KV.out.trans k1 (fun i hi => by cases hi); clear k1 HP1) | (go_at_call 10; refine (HP2.out _ V1.out).mono ?_; rintro e v2 ⟨rfl, k2⟩; have V2 : Hid (Kept [] w v2) := V1.out.trans k2 (fun i hi => by cases hi); clear k2 HP2) | (go_at_call 10; refine (HP3.out _ V2.out).mono ?_; rintro e v3 ⟨rfl, k3⟩; have V3 : Hid (Kept [] w v3) := V2.out.trans k3 (fun i hi => by cases hi); clear k3 HP3) | (go_at_call 10; refine (HP4.out _ V3.out).mono ?_; rintro e v4 ⟨rfl, k4⟩; have V4 : Hid (Kept [] w v4) := V3.out.trans k4 (fun i hi => by cases hi); clear k4 HP4))
      go_ret
      exact ⟨by simp, V4.out⟩
end Us
end Go.Proofs.YteeheapenfklcaaDoor
