/- The reference's Check; a list's weight. -/
import Derived.Test.YtjdhgeikbkjnoaaDoorMpt
namespace Go.Proofs.YtjdhgeikbkjnoaaDoor
set_option linter.unusedVariables false
open Go.RowKit Go.Shelf
attribute [local go_sem] Oper.semAt_some
namespace Nm
open Go.Proofs.YtjdhgeikbkjnoaaDoor.Utf Go.Proofs.YtjdhgeikbkjnoaaDoor.Txt Go.PlainAid

theorem get_dl (p : ByteArray) (k : Nat) (h : k < p.size) : (dl p)[k]'(by rw [dl_length]; exact h) = p[k] := rfl
set_option maxHeartbeats 8000000 in
set_option maxRecDepth 100000 in
theorem rcheck_any (w : World) (p : ByteArray) (hs : p.size ≤ 140737488355328) :
    Calls Tryd.prog 18 #[.string p] w fun e w' => e = .returned (.int .i64 (if chk p = true then 0 else 50)) ∧ Kept [] w w' := by
  obtain ⟨z, hz⟩ : ∃ z : Int, z = if chk p = true then 0 else 50 := ⟨_, rfl⟩
  have HZ := Lib.hid hz
  rw [← hz]
  have NO : Hid (¬ (chk p = true) → (50 : Int) = z) := fun h => by rw [HZ.out, if_neg h]
  have YES : Hid (chk p = true → (0 : Int) = z) := fun h => by rw [HZ.out, if_pos h]
  have HL := Lib.hid (dl_length p)
  have HT := Lib.hid (toList_dl p)
  have GOOD := Lib.hid (rgood_any p w hs)
  obtain ⟨g, hg⟩ : ∃ g, g = good p := ⟨_, rfl⟩
  rw [← hg] at GOOD
  have HG := Lib.hid hg
  clear hz hg
  by_cases h1 : p.toList = []
  · have hv : (50 : Int) = z := NO.out (fun h => by unfold chk at h; have := of_decide_eq_true h; exact this.1 (by rw [← HT.out]; exact h1))
    have HV := Lib.hid hv
    clear hv
    go_enter Tryd.func18, Tryd.ntmps18
    go_wp2_with fail
    refine GOOD.out.mono ?_
    rintro e w2 ⟨rfl, rfl⟩
    go_wp2_with fail
    go_ret
    exact ⟨ret_int HV.out, Kept.refl _ _⟩
  by_cases h2 : p.toList = [46]
  · have hv : (50 : Int) = z := NO.out (fun h => by unfold chk at h; have := of_decide_eq_true h; exact this.2.1 (by rw [← HT.out]; exact h2))
    have HV := Lib.hid hv
    clear hv
    go_enter Tryd.func18, Tryd.ntmps18
    go_wp2_with fail
    refine GOOD.out.mono ?_
    rintro e w2 ⟨rfl, rfl⟩
    go_wp2_with fail
    go_ret
    exact ⟨ret_int HV.out, Kept.refl _ _⟩
  by_cases h3 : p.toList = [46, 46]
  · have hv : (50 : Int) = z := NO.out (fun h => by unfold chk at h; have := of_decide_eq_true h; exact this.2.2.1 (by rw [← HT.out]; exact h3))
    have HV := Lib.hid hv
    clear hv
    go_enter Tryd.func18, Tryd.ntmps18
    go_wp2_with fail
    refine GOOD.out.mono ?_
    rintro e w2 ⟨rfl, rfl⟩
    go_wp2_with fail
    go_ret
    exact ⟨ret_int HV.out, Kept.refl _ _⟩
  have H1 := Lib.hid h1
  have H2 := Lib.hid h2
  have H3 := Lib.hid h3
  have b1 : p.toList.isEmpty = false := by rw [List.isEmpty_eq_false_iff]; exact h1
  have b2 : (p.toList == [46]) = false := by rw [beq_eq_false_iff_ne]; exact h2
  have b3 : (p.toList == [46, 46]) = false := by rw [beq_eq_false_iff_ne]; exact h3
  have b0 : (p.toList == []) = false := by rw [beq_eq_false_iff_ne]; exact h1
  clear h1 h2 h3
  cases g with
  | false =>
    have hv : (50 : Int) = z := NO.out (fun h => by unfold chk at h; have := of_decide_eq_true h; rw [← HG.out] at this; exact absurd this.2.2.2.2.2 (by decide))
    have HV := Lib.hid hv
    clear hv
    go_enter Tryd.func18, Tryd.ntmps18
    go_wp2_with fail
    refine GOOD.out.mono ?_
    rintro e w2 ⟨rfl, rfl⟩
    go_wp2_with fail
    go_ret
    exact ⟨ret_int HV.out, Kept.refl _ _⟩
  | true =>
    by_cases h4 : p.size ≤ 255
    · have h4' : ¬ (255 : Int) < (p.size : Int) := by omega
      go_enter Tryd.func18, Tryd.ntmps18
      go_wp2_with fail
      refine GOOD.out.mono ?_
      rintro e w2 ⟨rfl, rfl⟩
      go_wp2_with fail
      go_loopw [4] (fun iv wr => ∃ k : Nat, iv = .int .i64 k ∧ k ≤ p.size ∧ wr = w ∧ Hid (∀ j (h : j < p.size), j < k → p[j] ≠ 47)) (fun iv _ => p.size - (intOf iv).toNat)
      case atStart => exact ⟨0, rfl, by omega, rfl, fun j _ h => by omega⟩
      case round =>
        obtain ⟨k, rfl, hk, rfl, hN⟩ := hrel
        by_cases hlt : k < p.size
        · by_cases hc : p[k] = 47
          · have hv : (50 : Int) = z := NO.out (fun h => by
              unfold chk at h
              have := of_decide_eq_true h
              exact this.2.2.2.2.1 (by rw [← hc, ← get_dl p k hlt]; exact List.getElem_mem _))
            have HV := Lib.hid hv
            have e1 : ((p[k].toNat : Int) == 47) = true := by rw [hc]; rfl
            clear hv hc
            go_wp2_with fail
            go_ret
            exact ⟨ret_int HV.out, Kept.refl _ _⟩
          · have e1 : ((p[k].toNat : Int) == 47) = false := by
              rw [beq_eq_false_iff_ne]
              intro e
              exact hc (UInt8.toNat_inj.1 (by show _ = 47; omega))
            have HN2 : Hid (∀ j (h : j < p.size), j < k + 1 → p[j] ≠ 47) := fun j h hj => by
              by_cases hjk : j = k
              · subst hjk; exact hc
              · exact hN.out j h (by omega)
            clear hc
            go_wp2_with fail
            go_roundw
            case rel => exact ⟨k + 1, by go_num, by omega, trivial, HN2.out⟩
            case measure => simp [intOf]; omega
        · have hv : (0 : Int) = z := by
            refine YES.out ?_
            unfold chk
            refine decide_eq_true ⟨by rw [← HT.out]; exact H1.out, by rw [← HT.out]; exact H2.out, by rw [← HT.out]; exact H3.out, by rw [HL.out]; exact h4, fun hm => ?_, HG.out.symm⟩
            obtain ⟨j, hj, e⟩ := List.mem_iff_getElem.1 hm
            have hj' : j < p.size := by rw [← HL.out]; exact hj
            exact hN.out j hj' (by omega) (by rw [← get_dl p j hj']; exact e)
          have HV := Lib.hid hv
          clear hv
          go_wp2_with fail
          go_ret
          exact ⟨ret_int HV.out, Kept.refl _ _⟩
    · have hv : (50 : Int) = z := NO.out (fun h => by unfold chk at h; have := of_decide_eq_true h; have h2 := this.2.2.2.1; rw [HL.out] at h2; exact h4 h2)
      have HV := Lib.hid hv
      have h4' : (255 : Int) < (p.size : Int) := by omega
      clear hv
      go_enter Tryd.func18, Tryd.ntmps18
      go_wp2_with fail
      refine GOOD.out.mono ?_
      rintro e w2 ⟨rfl, rfl⟩
      go_wp2_with fail
      go_ret
      exact ⟨ret_int HV.out, Kept.refl _ _⟩

def wsum : List ByteArray → Nat
  | [] => 0
  | x :: l => 2 + x.size + wsum l
theorem wsum_snoc (l : List ByteArray) (x : ByteArray) : wsum (l ++ [x]) = wsum l + (2 + x.size) := by
  induction l with
  | nil => simp [wsum]
  | cons y l ih => simp [wsum, ih]; omega
theorem wsum_len (l : List ByteArray) : 2 * l.length ≤ wsum l := by
  induction l with
  | nil => simp [wsum]
  | cons y l ih => simp [wsum]; omega
set_option maxHeartbeats 8000000 in
set_option maxRecDepth 100000 in
theorem weight_any (w : World) (v : Value) (l : List ByteArray) (h : Lst w v l) (hs : ∀ x ∈ l, x.size ≤ 140737488355328) (hl : l.length ≤ 140737488355328) :
    Calls Tryd.prog 17 #[v] w fun e w' => (∃ n : Int, e = .returned (.int .i64 n) ∧ (n ≤ 268435456 → wsum l ≤ 268435456)) ∧ w' = w := by
  obtain ⟨a, c, rfl, hc, hh⟩ := h
  have HH := Lib.hid hh
  have HS := Lib.hid hs
  clear hh hs
  go_enter Tryd.func17, Tryd.ntmps17
  go_wp2_with fail
  go_loopw [3, 4] (fun nv iv wr => ∃ (k : Nat) (n : Nat), iv = .int .i64 k ∧ nv = .int .i64 n ∧ k ≤ l.length ∧ n ≤ 281474976710656 ∧ wr = w ∧ Hid (n = wsum (l.take k))) (fun _ iv _ => l.length - (intOf iv).toNat)
  case atStart => exact ⟨0, 0, rfl, rfl, by omega, by omega, rfl, rfl⟩
  case round =>
    obtain ⟨k, n, rfl, rfl, hk, hn, rfl, hN⟩ := hrel
    by_cases hlt : k < l.length
    · have j1 : (k : Int) < (l.length : Int) := by omega
      by_cases hle : n ≤ 268435456
      · have j2 : (n : Int) ≤ 268435456 := by omega
        rcases HH.out with e | ⟨b, o, rfl, hb, g⟩
        · rw [e] at hlt; simp at hlt
        have cx := g k _ (List.getElem?_eq_getElem hlt)
        have hxs := HS.out _ (List.getElem_mem hlt)
        have hN2 : n + (2 + l[k].size) = wsum (l.take (k + 1)) := by rw [List.take_succ_eq_append_getElem hlt, wsum_snoc, ← hN.out]
        obtain ⟨x, hx⟩ : ∃ x, x = l[k] := ⟨_, rfl⟩
        rw [← hx] at cx hxs hN2
        have HN2 := Lib.hid hN2
        clear hx hN2 g HH
        go_wp2_with fail
        go_roundw
        case rel => exact ⟨k + 1, n + (2 + x.size), by go_num, by go_num, by omega, by omega, trivial, HN2.out⟩
        case measure => simp [intOf]; omega
      · have j2 : ¬ (n : Int) ≤ 268435456 := by omega
        go_wp2_with fail
        go_ret
        exact ⟨⟨n, rfl, fun h => absurd h (by omega)⟩, rfl⟩
    · have j1 : ¬ (k : Int) < (l.length : Int) := by omega
      have e : l.take k = l := List.take_of_length_le (by omega)
      have hW : Hid ((n : Int) ≤ 268435456 → wsum l ≤ 268435456) := fun h => by have := hN.out; rw [e] at this; omega
      clear e
      go_wp2_with fail
      go_ret
      exact ⟨⟨n, rfl, hW.out⟩, rfl⟩
end Nm
end Go.Proofs.YtjdhgeikbkjnoaaDoor
