/- NamesClean walked. -/
import Derived.Test.YtjdhgeikbkjnoaaDoorUdw
import Derived.Test.YtjdhgeikbkjnoaaDoorAwn
import Derived.Test.YtjdhgeikbkjnoaaDoorLdn
namespace Go.Proofs.YtjdhgeikbkjnoaaDoor.namesClean
open Go.ChangeShapes Go.WideShapes Go.ChangeAt Go.RowKit Go.Shelf
attribute [local go_sem] Oper.semAt_some
open Go.Proofs.YtjdhgeikbkjnoaaDoor.Nm Go.Proofs.YtjdhgeikbkjnoaaDoor.Utf Go.Proofs.YtjdhgeikbkjnoaaDoor.Txt Go.PlainAid
set_option linter.unusedVariables false

/-- Clean, at the clean form. -/
theorem clean2 (w : World) (s : ByteArray) (hs : s.size ≤ 1073741824) : Calls Tryd.prog 11 #[.string s] w fun e w' =>
    (okl (dl s) = true ∧ e = .returned (.tuple #[.string (clf s), .int .i64 0]) ∧ Kept [] w w') ∨ (okl (dl s) = false ∧ e = .returned (.tuple #[.string ⟨#[]⟩, .int .i64 51]) ∧ Kept [] w w') := by
  refine (clean_any w s hs).mono ?_
  rintro e w' (⟨ho, ps, hps, rfl, k⟩ | h)
  · have e1 := pt_of hps
    subst e1
    exact Or.inl ⟨ho, rfl, k⟩
  · exact Or.inr h
/-- Split, at the parts. -/
theorem split2 (w : World) (s : ByteArray) (hs : s.size ≤ 1073741824) : Calls Tryd.prog 12 #[.string s] w fun e w' =>
    (okl (dl s) = true ∧ ∃ pv, e = .returned (.tuple #[.agg #[.bool (rooted (dl s)), pv], .int .i64 0]) ∧ Hid (Row w' w.heap.size pv (pt s)) ∧ Hid (Kept [] w w')) ∨
    (okl (dl s) = false ∧ e = .returned (.tuple #[.agg #[.bool false, .slice none 0 0], .int .i64 51]) ∧ Hid (Kept [] w w')) := by
  refine (split_any w s hs).mono ?_
  rintro e w' (⟨ho, pv, xs, rfl, hR, hE, k⟩ | h)
  · have e1 := pt_of hE.out
    subst e1
    exact Or.inl ⟨ho, pv, rfl, hR, k⟩
  · exact Or.inr h
theorem ucl_clf {s : ByteArray} (h : okl (dl s) = true) : ucl (clf s) = true := (ucl_iff _).2 ⟨clf_okl h, clf_clf s⟩
theorem und_self {s : ByteArray} (h : ucl s = true) : und s s = true ∧ udo s s = ⟨#[46]⟩ := by
  have hr : rst s s = [] := by unfold rst; exact List.drop_length
  have hu : und s s = true := by
    unfold und
    rw [h, hr]
    have : bgn (pt s) (pt s) = true := by unfold bgn; rw [decide_eq_true_eq]; exact ⟨Nat.le_refl _, List.take_length⟩
    rw [this]
    simp [bgn]
  refine ⟨hu, ?_⟩
  unfold udo
  rw [if_pos hu, hr]
  rfl
def upp (x : ByteArray) : Bool := x.toList == [46, 46]
theorem upp_iff (x : ByteArray) : upp x = true ↔ dl x = [46, 46] := by unfold upp; rw [beq_iff_eq, toList_dl]
def nmd (qs : List ByteArray) (i : Nat) : Bool := (qs.take i).any fun x => !upp x
theorem nmd_succ (qs : List ByteArray) (i : Nat) (h : i < qs.length) : nmd qs (i + 1) = (nmd qs i || !upp qs[i]) := by
  unfold nmd
  rw [List.take_succ_eq_append_getElem h, List.any_append]
  simp
theorem cl_up {r : Bool} {qs : List ByteArray} (hc : CL r qs) (i : Nat) (h : i < qs.length) (hu : upp qs[i] = true) : nmd qs i = false ∧ r = false := by
  obtain ⟨a, b, rfl, ha, hb, hr⟩ := hc
  have hi : i < a.length := by
    refine Nat.lt_of_not_le (fun hle => ?_)
    rw [List.getElem_append_right hle] at hu
    exact hb _ (List.getElem_mem _) ((upp_iff _).1 hu)
  refine ⟨?_, ?_⟩
  · unfold nmd
    rw [List.any_eq_false]
    intro x hx
    rw [List.take_append_of_le_length (by omega)] at hx
    have := ha x (List.mem_of_mem_take hx)
    rw [(upp_iff x).2 this]
    simp
  · cases r with
    | false => rfl
    | true => rw [hr rfl] at hi; simp at hi
theorem rooted_at (s : ByteArray) (h : 0 < s.size) : rooted (dl s) = (s[0] == 47) := by
  have e : dl s = s[0] :: (dl s).tail := by
    cases hd : dl s with
    | nil => rw [← dl_length, hd] at h; simp at h
    | cons c l => rw [first hd h]; rfl
  rw [e]
  show ((47 : UInt8) == s[0] && true) = _
  rw [Bool.and_true]
  by_cases h1 : s[0] = 47
  · rw [h1]
  · rw [beq_eq_false_iff_ne.2 h1, beq_eq_false_iff_ne.2 (fun e => h1 e.symm)]

set_option maxHeartbeats 8000000 in
set_option maxRecDepth 100000 in
theorem walk (w : World) (s : ByteArray) : Calls Tryd.prog 4 #[.string s] w fun e w' => e = .returned (.bool true) ∧ Kept [] w w' := by
  have AW := Lib.hid (fun w => awake_any w)
  by_cases hs : s.size ≤ 268435456
  · have CL1 := Lib.hid (fun w => clean2 w s (by omega))
    have SP1 := Lib.hid (fun w => split2 w s (by omega))
    have hs2 : ¬ (268435456 : Int) < (s.size : Int) := by omega
    obtain ⟨c, hc⟩ : ∃ c, c = clf s := ⟨_, rfl⟩
    have HC := Lib.hid hc
    have hcs : c.size ≤ 1073741824 := by have := clf_size s; rw [hc]; omega
    have CL2 := Lib.hid (fun w => clean2 w c hcs)
    have SP2 := Lib.hid (fun w => split2 w c hcs)
    have UN := Lib.hid (fun w => under_any w c c hcs hcs)
    rw [← hc] at CL1
    clear hc
    go_enter Tryd.func4, Tryd.ntmps4
    go_wp2_with fail
    refine (AW.out w).mono ?_
    rintro e w1 ⟨rfl, k1⟩
    have K1 := Lib.hid k1
    clear k1 AW
    go_wp2_with fail
    refine (CL1.out w1).mono ?_
    rintro e w2 (⟨ho, rfl, k2⟩ | ⟨ho, rfl, k2⟩)
    · have HO := Lib.hid ho
      have K2 : Hid (Kept [] w w2) := K1.out.trans k2 (fun i hi => by simp at hi)
      clear ho k2 K1 CL1
      go_wp2_with fail
      refine (SP1.out w2).mono ?_
      rintro e w3 (⟨ho, pv, rfl, hR, hK⟩ | ⟨ho, -, -⟩)
      rotate_left
      · rw [HO.out] at ho; cases ho
      obtain ⟨pa, pc, rfl⟩ := own_slice hR.out
      obtain ⟨r, hr⟩ : ∃ r, r = rooted (dl s) := ⟨_, rfl⟩
      have HRr := Lib.hid hr
      rw [← hr]
      have K3 : Hid (Kept [] w w3) := K2.out.trans hK.out (fun i hi => by simp at hi)
      clear ho K2 SP1 hr hK hR
      go_wp2_with fail
      obtain ⟨w4, hw4⟩ : ∃ w4, w4 = w3.alloc (.cells #[.bool r, .slice pa (pt s).length pc] 28) := ⟨_, rfl⟩
      obtain ⟨Rp, hRp⟩ : ∃ R, R = w3.heap.size := ⟨_, rfl⟩
      have B4 : Hid (w4.heap[Rp]? = some (.cells #[.bool r, .slice pa (pt s).length pc] 28 (0, 0))) := by rw [hw4, hRp]; exact heap_alloc_new w3 _
      have K4 : Hid (Kept [] w w4) := by rw [hw4]; exact K3.out.alloc _
      rw [← hw4, ← hRp]
      clear hw4 hRp K3
      have OKC : Hid (okl (dl c) = true) := by rw [HC.out]; exact clf_okl HO.out
      have CC : Hid (clf c = c) := by rw [HC.out]; exact clf_clf s
      have RC : Hid (rooted (dl c) = r) := by rw [HC.out, HRr.out]; exact clf_rooted s
      have CLC : Hid (CL r (pt c)) := by rw [← RC.out, HC.out]; exact clf_CL s
      have PTC : Hid (∀ x ∈ pt c, Part x) := pt_part c
      have JC : Hid (joi r (pt c) = c) := by rw [← RC.out, HC.out]; exact clf_join s
      refine (CL2.out w4).mono ?_
      rintro e w5 (⟨-, rfl, k5⟩ | ⟨ho, -⟩)
      rotate_left
      · rw [OKC.out] at ho; cases ho
      rw [CC.out]
      have K5 : Hid (Kept [] w w5) := K4.out.trans k5 (fun i hi => by simp at hi)
      have B5 := Lib.hid ((k5.block _ (block_lt B4.out) (by simp)).trans B4.out)
      clear k5 B4 K4 CL2
      go_wp2_with fail
      refine (SP2.out w5).mono ?_
      rintro e w6 (⟨-, qv, rfl, hRq, hK6⟩ | ⟨ho, -, -⟩)
      rotate_left
      · rw [OKC.out] at ho; cases ho
      rw [RC.out]
      obtain ⟨qa, qc, rfl⟩ := own_slice hRq.out
      have K6 : Hid (Kept [] w w6) := K5.out.trans hK6.out (fun i hi => by simp at hi)
      have B6 := Lib.hid ((hK6.out.block _ (block_lt B5.out) (by simp)).trans B5.out)
      obtain ⟨w7, hw7⟩ : ∃ w7, w7 = w6.alloc (.cells #[.bool r, .slice qa (pt c).length qc] 28) := ⟨_, rfl⟩
      obtain ⟨Rq, hRq7⟩ : ∃ R, R = w6.heap.size := ⟨_, rfl⟩
      have HW7 := Lib.hid (And.intro hw7 hRq7)
      have K67 : Hid (Kept [] w6 w7) := by rw [hw7]; exact (Kept.refl _ _).alloc _
      have K7 : Hid (Kept [] w w7) := K6.out.trans K67.out (fun i hi => by simp at hi)
      have B7p := Lib.hid ((K67.out.block _ (block_lt B6.out) (by simp)).trans B6.out)
      have B7q : Hid (w7.heap[Rq]? = some (.cells #[.bool r, .slice qa (pt c).length qc] 28 (0, 0))) := by rw [hw7, hRq7]; exact heap_alloc_new w6 _
      have R7 : Hid (Row w7 w5.heap.size (.slice qa (pt c).length qc) (pt c)) := hRq.out.kept K67.out (fun _ _ hm => by simp at hm)
      clear hw7 hRq7 hK6 hRq K5 B5 SP2 K6 B6
      go_wp2_with fail
      rw [← HW7.out.1, ← HW7.out.2]
      have q0 : w7.cell? ⟨Rq, 0, none⟩ = some (.bool r) := by rw [cell_of_row w7 Rq 0 _ _ (0, 0) B7q.out]; rfl
      have p0 : w7.cell? ⟨Rp, 0, none⟩ = some (.bool r) := by rw [cell_of_row w7 Rp 0 _ _ (0, 0) B7p.out]; rfl
      by_cases h0 : s.size = 0
      · have e0 : s.toList = [] := by rw [toList_dl]; exact List.eq_nil_of_length_eq_zero (by rw [dl_length]; exact h0)
        have hr0 : r = false := by rw [HRr.out, ← toList_dl, e0]; rfl
        subst hr0
        go_region
        obtain ⟨W, hW⟩ : ∃ W, W = w7.drew := ⟨_, rfl⟩
        rw [← hW]
        have KW : Hid (Kept [] w W) := by rw [hW]; exact K7.out.drew
        have BW : Hid (W.heap[Rq]? = some (.cells #[.bool false, .slice qa (pt c).length qc] 28 (0, 0))) := by rw [hW]; exact B7q.out
        have RW : Hid (Row W w5.heap.size (.slice qa (pt c).length qc) (pt c)) := by rw [hW]; exact Row.kept R7.out (Kept.refl [] w7).drew (fun _ _ hm => by simp at hm)
        clear hW q0 p0 B7q R7 K7 K67 HW7 B7p
        go_wp2_with fail
        go_loopw [10, 11] (fun nv iv wr => ∃ k : Nat, iv = .int .i64 k ∧ k ≤ (pt c).length ∧ nv = .bool (nmd (pt c) k) ∧ wr = W) (fun _ iv _ => (pt c).length - (intOf iv).toNat)
        case atStart => exact ⟨0, rfl, by omega, rfl, rfl⟩
        case round =>
          obtain ⟨k, rfl, hk, rfl, rfl⟩ := hrel
          have q0 : wr.cell? ⟨Rq, 0, none⟩ = some (.bool false) := by rw [cell_of_row wr Rq 0 _ _ (0, 0) BW.out]; rfl
          have q1 : wr.cell? ⟨Rq, 1, none⟩ = some (.slice qa (pt c).length qc) := by rw [cell_of_row wr Rq 1 _ _ (0, 0) BW.out]; rfl
          have hpl : (pt c).length ≤ 1073741825 := by have := pt_length c; omega
          by_cases hlt : k < (pt c).length
          · have j1 : (k : Int) < ((pt c).length : Int) := by omega
            obtain ⟨g, cap, e1, h1, h2, h3, h4⟩ := row_at RW.out (by intro e; rw [e] at hlt; simp at hlt)
            injection e1 with e2 e3 e4
            have cx := h4 k _ (List.getElem?_eq_getElem hlt)
            have NS := Lib.hid (nmd_succ (pt c) k hlt)
            have CU := Lib.hid (cl_up CLC.out k hlt)
            have hpx := PTC.out _ (List.getElem_mem hlt)
            have hkx := (keep_iff _).1 hpx.1
            obtain ⟨x, hx'⟩ : ∃ x, x = (pt c)[k] := ⟨_, rfl⟩
            rw [← hx'] at cx NS CU hkx
            have E0 : x.toList.isEmpty = false := by rw [List.isEmpty_eq_false_iff, toList_dl]; exact hkx.1
            have E1 : (x.toList == [46]) = false := by rw [beq_eq_false_iff_ne, toList_dl]; exact hkx.2
            have E00 : (x.toList == []) = false := by rw [beq_eq_false_iff_ne, toList_dl]; exact hkx.1
            obtain ⟨nb, hnb⟩ : ∃ b, b = nmd (pt c) k := ⟨_, rfl⟩
            rw [← hnb] at NS CU
            rw [← hnb]
            subst e2
            clear h1 h2 h3 h4 hpx hkx hx' hnb e3 e4
            cases hu : upp x with
            | true =>
              have EU : (x.toList == [46, 46]) = true := hu
              obtain ⟨n1, n2⟩ := CU.out hu
              subst n1
              have NS2 := NS.out
              rw [hu] at NS2
              have NS3 := Lib.hid NS2
              clear CU hu NS2 n2
              go_wp2_with fail
              go_roundw
              case rel => exact ⟨k + 1, by go_num, by omega, by rw [NS3.out]; rfl, trivial⟩
              case measure => simp [intOf]; omega
            | false =>
              have EU : (x.toList == [46, 46]) = false := hu
              rw [hu] at NS
              clear CU hu
              cases nb
              all_goals
                go_wp2_with fail
                go_roundw
                case rel => exact ⟨k + 1, by go_num, by omega, by rw [NS.out]; rfl, trivial⟩
                case measure => simp [intOf]; omega
          · have j1 : ¬ (k : Int) < ((pt c).length : Int) := by omega
            have hlen := pt_length c
            have LS := (Row.lst RW.out)
            have hj : (jin (pt c)).size ≤ 4294967296 := by
              have h1 := jin_size (pt c)
              have h3 := wt_parts (dl c)
              rw [pt_dl] at h1
              rw [dl_length] at h3
              omega
            have JN := Lib.hid (join_any wr false _ (pt c) LS (by omega) hj)
            rw [JC.out] at JN
            have UU : und c c = true ∧ udo c c = ⟨#[46]⟩ := und_self (by rw [HC.out]; exact ucl_clf HO.out)
            have HUU := Lib.hid UU
            clear hlen LS hj UU
            go_wp2_with fail
            refine JN.out.mono ?_
            rintro e wj ⟨rfl, kj⟩
            go_wp2_with fail
            refine (UN.out wj).mono ?_
            rintro e wk ⟨rfl, kk⟩
            rw [HUU.out.1, HUU.out.2]
            have KF : Hid (Kept [] w wk) := (KW.out.trans kj (fun i hi => by simp at hi)).trans kk (fun i hi => by simp at hi)
            clear kj kk
            go_wp2_with fail
            go_ret
            exact ⟨rfl, KF.out⟩
      · have hpos : 0 < s.size := by omega
        have h47 := rooted_at s hpos
        rw [← HRr.out] at h47
        have hne : s.toList.isEmpty = false := by rw [List.isEmpty_eq_false_iff, toList_dl]; intro e; rw [← dl_length, e] at hpos; simp at hpos
        have b0 : (s.toList == []) = false := by rw [beq_eq_false_iff_ne]; exact fun e => by rw [e] at hne; cases hne
        cases r with
        | false =>
          have hx : ((s[0].toNat : Int) == 47) = false := by
            rw [beq_eq_false_iff_ne]
            intro e
            have : s[0] = 47 := UInt8.toNat_inj.1 (by show _ = 47; omega)
            rw [this] at h47
            cases h47
          clear h0 h47
          go_region
          obtain ⟨W, hW⟩ : ∃ W, W = w7.drew := ⟨_, rfl⟩
          rw [← hW]
          have KW : Hid (Kept [] w W) := by rw [hW]; exact K7.out.drew
          have BW : Hid (W.heap[Rq]? = some (.cells #[.bool false, .slice qa (pt c).length qc] 28 (0, 0))) := by rw [hW]; exact B7q.out
          have RW : Hid (Row W w5.heap.size (.slice qa (pt c).length qc) (pt c)) := by rw [hW]; exact Row.kept R7.out (Kept.refl [] w7).drew (fun _ _ hm => by simp at hm)
          clear hW q0 p0 B7q R7 K7 K67 HW7 B7p
          go_wp2_with fail
          go_loopw [10, 11] (fun nv iv wr => ∃ k : Nat, iv = .int .i64 k ∧ k ≤ (pt c).length ∧ nv = .bool (nmd (pt c) k) ∧ wr = W) (fun _ iv _ => (pt c).length - (intOf iv).toNat)
          case atStart => exact ⟨0, rfl, by omega, rfl, rfl⟩
          case round =>
            obtain ⟨k, rfl, hk, rfl, rfl⟩ := hrel
            have q0 : wr.cell? ⟨Rq, 0, none⟩ = some (.bool false) := by rw [cell_of_row wr Rq 0 _ _ (0, 0) BW.out]; rfl
            have q1 : wr.cell? ⟨Rq, 1, none⟩ = some (.slice qa (pt c).length qc) := by rw [cell_of_row wr Rq 1 _ _ (0, 0) BW.out]; rfl
            have hpl : (pt c).length ≤ 1073741825 := by have := pt_length c; omega
            by_cases hlt : k < (pt c).length
            · have j1 : (k : Int) < ((pt c).length : Int) := by omega
              obtain ⟨g, cap, e1, h1, h2, h3, h4⟩ := row_at RW.out (by intro e; rw [e] at hlt; simp at hlt)
              injection e1 with e2 e3 e4
              have cx := h4 k _ (List.getElem?_eq_getElem hlt)
              have NS := Lib.hid (nmd_succ (pt c) k hlt)
              have CU := Lib.hid (cl_up CLC.out k hlt)
              have hpx := PTC.out _ (List.getElem_mem hlt)
              have hkx := (keep_iff _).1 hpx.1
              obtain ⟨x, hx'⟩ : ∃ x, x = (pt c)[k] := ⟨_, rfl⟩
              rw [← hx'] at cx NS CU hkx
              have E0 : x.toList.isEmpty = false := by rw [List.isEmpty_eq_false_iff, toList_dl]; exact hkx.1
              have E1 : (x.toList == [46]) = false := by rw [beq_eq_false_iff_ne, toList_dl]; exact hkx.2
              have E00 : (x.toList == []) = false := by rw [beq_eq_false_iff_ne, toList_dl]; exact hkx.1
              obtain ⟨nb, hnb⟩ : ∃ b, b = nmd (pt c) k := ⟨_, rfl⟩
              rw [← hnb] at NS CU
              rw [← hnb]
              subst e2
              clear h1 h2 h3 h4 hpx hkx hx' hnb e3 e4
              cases hu : upp x with
              | true =>
                have EU : (x.toList == [46, 46]) = true := hu
                obtain ⟨n1, n2⟩ := CU.out hu
                subst n1
                have NS2 := NS.out
                rw [hu] at NS2
                have NS3 := Lib.hid NS2
                clear CU hu NS2 n2
                go_wp2_with fail
                go_roundw
                case rel => exact ⟨k + 1, by go_num, by omega, by rw [NS3.out]; rfl, trivial⟩
                case measure => simp [intOf]; omega
              | false =>
                have EU : (x.toList == [46, 46]) = false := hu
                rw [hu] at NS
                clear CU hu
                cases nb
                all_goals
                  go_wp2_with fail
                  go_roundw
                  case rel => exact ⟨k + 1, by go_num, by omega, by rw [NS.out]; rfl, trivial⟩
                  case measure => simp [intOf]; omega
            · have j1 : ¬ (k : Int) < ((pt c).length : Int) := by omega
              have hlen := pt_length c
              have LS := (Row.lst RW.out)
              have hj : (jin (pt c)).size ≤ 4294967296 := by
                have h1 := jin_size (pt c)
                have h3 := wt_parts (dl c)
                rw [pt_dl] at h1
                rw [dl_length] at h3
                omega
              have JN := Lib.hid (join_any wr false _ (pt c) LS (by omega) hj)
              rw [JC.out] at JN
              have UU : und c c = true ∧ udo c c = ⟨#[46]⟩ := und_self (by rw [HC.out]; exact ucl_clf HO.out)
              have HUU := Lib.hid UU
              clear hlen LS hj UU
              go_wp2_with fail
              refine JN.out.mono ?_
              rintro e wj ⟨rfl, kj⟩
              go_wp2_with fail
              refine (UN.out wj).mono ?_
              rintro e wk ⟨rfl, kk⟩
              rw [HUU.out.1, HUU.out.2]
              have KF : Hid (Kept [] w wk) := (KW.out.trans kj (fun i hi => by simp at hi)).trans kk (fun i hi => by simp at hi)
              clear kj kk
              go_wp2_with fail
              go_ret
              exact ⟨rfl, KF.out⟩
        | true =>
          have hx : ((s[0].toNat : Int) == 47) = true := by
            rw [beq_iff_eq]
            have : s[0] = 47 := by simpa using h47.symm
            rw [this]
            rfl
          clear h0 h47
          go_region
          obtain ⟨W, hW⟩ : ∃ W, W = w7.drew := ⟨_, rfl⟩
          rw [← hW]
          have KW : Hid (Kept [] w W) := by rw [hW]; exact K7.out.drew
          have BW : Hid (W.heap[Rq]? = some (.cells #[.bool true, .slice qa (pt c).length qc] 28 (0, 0))) := by rw [hW]; exact B7q.out
          have RW : Hid (Row W w5.heap.size (.slice qa (pt c).length qc) (pt c)) := by rw [hW]; exact Row.kept R7.out (Kept.refl [] w7).drew (fun _ _ hm => by simp at hm)
          clear hW q0 p0 B7q R7 K7 K67 HW7 B7p
          go_wp2_with fail
          go_loopw [10, 11] (fun nv iv wr => ∃ k : Nat, iv = .int .i64 k ∧ k ≤ (pt c).length ∧ nv = .bool (nmd (pt c) k) ∧ wr = W) (fun _ iv _ => (pt c).length - (intOf iv).toNat)
          case atStart => exact ⟨0, rfl, by omega, rfl, rfl⟩
          case round =>
            obtain ⟨k, rfl, hk, rfl, rfl⟩ := hrel
            have q0 : wr.cell? ⟨Rq, 0, none⟩ = some (.bool true) := by rw [cell_of_row wr Rq 0 _ _ (0, 0) BW.out]; rfl
            have q1 : wr.cell? ⟨Rq, 1, none⟩ = some (.slice qa (pt c).length qc) := by rw [cell_of_row wr Rq 1 _ _ (0, 0) BW.out]; rfl
            have hpl : (pt c).length ≤ 1073741825 := by have := pt_length c; omega
            by_cases hlt : k < (pt c).length
            · have j1 : (k : Int) < ((pt c).length : Int) := by omega
              obtain ⟨g, cap, e1, h1, h2, h3, h4⟩ := row_at RW.out (by intro e; rw [e] at hlt; simp at hlt)
              injection e1 with e2 e3 e4
              have cx := h4 k _ (List.getElem?_eq_getElem hlt)
              have NS := Lib.hid (nmd_succ (pt c) k hlt)
              have CU := Lib.hid (cl_up CLC.out k hlt)
              have hpx := PTC.out _ (List.getElem_mem hlt)
              have hkx := (keep_iff _).1 hpx.1
              obtain ⟨x, hx'⟩ : ∃ x, x = (pt c)[k] := ⟨_, rfl⟩
              rw [← hx'] at cx NS CU hkx
              have E0 : x.toList.isEmpty = false := by rw [List.isEmpty_eq_false_iff, toList_dl]; exact hkx.1
              have E1 : (x.toList == [46]) = false := by rw [beq_eq_false_iff_ne, toList_dl]; exact hkx.2
              have E00 : (x.toList == []) = false := by rw [beq_eq_false_iff_ne, toList_dl]; exact hkx.1
              obtain ⟨nb, hnb⟩ : ∃ b, b = nmd (pt c) k := ⟨_, rfl⟩
              rw [← hnb] at NS CU
              rw [← hnb]
              subst e2
              clear h1 h2 h3 h4 hpx hkx hx' hnb e3 e4
              cases hu : upp x with
              | true =>
                have EU : (x.toList == [46, 46]) = true := hu
                obtain ⟨n1, n2⟩ := CU.out hu
                cases n2
              | false =>
                have EU : (x.toList == [46, 46]) = false := hu
                rw [hu] at NS
                clear CU hu
                cases nb
                all_goals
                  go_wp2_with fail
                  go_roundw
                  case rel => exact ⟨k + 1, by go_num, by omega, by rw [NS.out]; rfl, trivial⟩
                  case measure => simp [intOf]; omega
            · have j1 : ¬ (k : Int) < ((pt c).length : Int) := by omega
              have hlen := pt_length c
              have LS := (Row.lst RW.out)
              have hj : (jin (pt c)).size ≤ 4294967296 := by
                have h1 := jin_size (pt c)
                have h3 := wt_parts (dl c)
                rw [pt_dl] at h1
                rw [dl_length] at h3
                omega
              have JN := Lib.hid (join_any wr true _ (pt c) LS (by omega) hj)
              rw [JC.out] at JN
              have UU : und c c = true ∧ udo c c = ⟨#[46]⟩ := und_self (by rw [HC.out]; exact ucl_clf HO.out)
              have HUU := Lib.hid UU
              clear hlen LS hj UU
              go_wp2_with fail
              refine JN.out.mono ?_
              rintro e wj ⟨rfl, kj⟩
              go_wp2_with fail
              refine (UN.out wj).mono ?_
              rintro e wk ⟨rfl, kk⟩
              rw [HUU.out.1, HUU.out.2]
              have KF : Hid (Kept [] w wk) := (KW.out.trans kj (fun i hi => by simp at hi)).trans kk (fun i hi => by simp at hi)
              clear kj kk
              go_wp2_with fail
              go_ret
              exact ⟨rfl, KF.out⟩
    · have HO := Lib.hid ho
      have K2 : Hid (Kept [] w w2) := K1.out.trans k2 (fun i hi => by simp at hi)
      clear ho k2 K1 CL1
      go_wp2_with fail
      refine (SP1.out w2).mono ?_
      rintro e w3 (⟨ho, -⟩ | ⟨ho, rfl, hK⟩)
      · rw [HO.out] at ho; cases ho
      have K3 : Hid (Kept [] w w3) := K2.out.trans hK.out (fun i hi => by simp at hi)
      clear ho K2 SP1 hK
      go_wp2_with fail
      go_ret
      exact ⟨rfl, K3.out.alloc _⟩
  · have hs2 : (268435456 : Int) < (s.size : Int) := by omega
    go_enter Tryd.func4, Tryd.ntmps4
    go_wp2_with fail
    refine (AW.out w).mono ?_
    rintro e w1 ⟨rfl, k1⟩
    go_wp2_with fail
    go_ret
    exact ⟨rfl, k1⟩
end Go.Proofs.YtjdhgeikbkjnoaaDoor.namesClean
