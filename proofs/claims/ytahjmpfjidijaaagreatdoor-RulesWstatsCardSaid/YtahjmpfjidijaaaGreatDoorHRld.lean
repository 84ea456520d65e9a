/- The reference's Leads. -/
import Derived.Test.YtahjmpfjidijaaaGreatDoorHRpk
namespace Go.Proofs.YtahjmpfjidijaaaGreatDoor
set_option linter.unusedVariables false
open Go.RowKit Go.Shelf
attribute [local go_sem] Oper.semAt_some
namespace Us
open Go.Proofs.YtahjmpfjidijaaaGreatDoor.Utf Go.Proofs.YtahjmpfjidijaaaGreatDoor.Txt Go.PlainAid Go.Proofs.YtahjmpfjidijaaaGreatDoor.Mpf

set_option maxHeartbeats 8000000 in
set_option maxRecDepth 100000 in
theorem rLeads_any {w : World} {p : Nat} {T : List Acc} (h : Rt w p T) (gd : Gd T) (u g : ByteArray) :
    Calls Tryz.prog 73 #[.pointer (some ⟨p, 0, none⟩), .string u, .string g] w fun e w' => e = .returned (.bool (leads T u g)) ∧ w' = w := by
  have MEM := Lib.hid (rMember_any h gd u g)
  obtain ⟨sl, L, hb, hr, rfl, hL, hF⟩ := h
  have c0 : w.cell? ⟨p, 0, none⟩ = some sl := by rw [cell_of_row w p 0 _ _ (0, 0) hb]; rfl
  have FU := Lib.hid (rfind_any w sl L u hr (by omega))
  have FG := Lib.hid (rfind_any w sl L g hr (by omega))
  obtain ⟨sa, sc, rfl⟩ := own_sl hr.row
  obtain ⟨z, hz⟩ : ∃ z, z = leads (accs L) u g := ⟨_, rfl⟩
  rw [← hz]
  cases hku : known (accs L) u with
  | false =>
    rw [leads_no_u gd hku] at hz
    subst hz
    have j := fi_no_lt hku
    obtain ⟨r, hr2⟩ : ∃ r, r = fi (accs L) u := ⟨_, rfl⟩
    obtain ⟨r3, hr3⟩ : ∃ r, r = fi (accs L) g := ⟨_, rfl⟩
    rw [← hr2] at FU j
    rw [← hr3] at FG
    clear hr2 hr3 hr hb hku gd MEM
    go_enter Tryz.func73, Tryz.ntmps73
    go_wp2_with (first | (go_at_call 44; ((with_reducible refine FU.out.mono ?_)); rintro e w2 ⟨rfl, rfl⟩) | (go_at_call 44; refine FG.out.mono ?_; rintro e w2 ⟨rfl, rfl⟩))
    go_ret
    exact ⟨rfl, rfl⟩
  | true =>
  cases hkg : known (accs L) g with
  | false =>
    rw [leads_no_g hkg] at hz
    subst hz
    have j := fi_no_lt hkg
    have j2 := fi_yes_ge hku
    obtain ⟨r, hr2⟩ : ∃ r, r = fi (accs L) u := ⟨_, rfl⟩
    obtain ⟨r3, hr3⟩ : ∃ r, r = fi (accs L) g := ⟨_, rfl⟩
    rw [← hr2] at FU j2
    rw [← hr3] at FG j
    clear hr2 hr3 hr hb hku hkg gd MEM
    go_enter Tryz.func73, Tryz.ntmps73
    go_wp2_with (first | (go_at_call 44; ((with_reducible refine FU.out.mono ?_)); rintro e w2 ⟨rfl, rfl⟩) | (go_at_call 44; refine FG.out.mono ?_; rintro e w2 ⟨rfl, rfl⟩))
    go_ret
    exact ⟨rfl, rfl⟩
  | true =>
    obtain ⟨i, hi⟩ := known_place hku
    obtain ⟨j, hj⟩ := known_place hkg
    obtain ⟨hjk, he⟩ := leads_at (u := u) hj
    rw [fi_some hi] at FU
    rw [fi_some hj] at FG
    have hjl : j < L.length := by rw [accs_length] at hjk; exact hjk
    rw [accs_get hjl] at he
    obtain ⟨gb, rfl, d0, d1, d2, d3⟩ := hr.at' hjl
    have hme := hr.mem _ (List.getElem_mem hjl)
    obtain ⟨va, vc, hms⟩ := hme.slice
    obtain ⟨⟨⟨an, al, am, ak⟩, av⟩, hx⟩ : ∃ x, x = L[j] := ⟨_, rfl⟩
    rw [← hx] at d0 d1 d2 d3 he hms
    simp only at d0 d1 d2 d3 he hms
    subst hms
    have e1 : ¬ (i : Int) < 0 := by omega
    have e2 : ¬ (j : Int) < 0 := by omega
    have e3 : (0 : Int) ≤ (j : Int) := by omega
    have e4 : (j : Int) < (L.length : Int) := by omega
    rw [← hz] at he
    obtain ⟨mb, hmb⟩ : ∃ m, m = member (accs L) u g := ⟨_, rfl⟩
    rw [← hmb] at MEM he
    have BQ := beq_str al u
    clear hz hme hx hku hkg hi hj hjk hr hb hF gd hmb
    by_cases h0 : al.size = 0
    · have hv : z = mb := by rw [he, if_pos h0]
      subst hv
      have h1 := lead_eq h0
      clear he h0 BQ
      go_enter Tryz.func73, Tryz.ntmps73
      go_wp2_with (first | (go_at_call 44; ((with_reducible refine FU.out.mono ?_)); rintro e w2 ⟨rfl, rfl⟩) | (go_at_call 44; refine FG.out.mono ?_; rintro e w2 ⟨rfl, rfl⟩) | (go_at_call 106; refine MEM.out.mono ?_; rintro e w2 ⟨rfl, rfl⟩))
      go_ret
      exact ⟨rfl, rfl⟩
    · have hv : z = decide (al = u) := by rw [he, if_neg h0, decide_eq_decide]; exact eq_comm
      have h1 := lead_ne h0
      have b1 : al.toList.isEmpty = false := by rw [List.isEmpty_eq_false_iff]; exact h1
      have b0 : (al.toList == []) = false := by rw [beq_eq_false_iff_ne]; exact h1
      rw [← hv] at BQ
      clear he h0 h1 MEM hv
      go_enter Tryz.func73, Tryz.ntmps73
      go_wp2_with (first | (go_at_call 44; ((with_reducible refine FU.out.mono ?_)); rintro e w2 ⟨rfl, rfl⟩) | (go_at_call 44; refine FG.out.mono ?_; rintro e w2 ⟨rfl, rfl⟩))
      go_ret
      exact ⟨rfl, rfl⟩
end Us
end Go.Proofs.YtahjmpfjidijaaaGreatDoor
