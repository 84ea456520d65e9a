/- users: the form of an account (giveUp, mustBeName, mustHaveForm). -/
import Derived.Test.YteeheapenfklcaaGreatDoorUnm
import Derived.Laws.OwnMore
namespace Go.Proofs.YteeheapenfklcaaGreatDoor
set_option linter.unusedVariables false
open Go.RowKit Go.Shelf
attribute [local go_sem] Oper.semAt_some
namespace Us
open Go.Proofs.YteeheapenfklcaaGreatDoor.Utf Go.Proofs.YteeheapenfklcaaGreatDoor.Txt Go.PlainAid

def sv (x : ByteArray) : Value := .string x
/-- Texts in memory, or none. -/
def Mem (w : World) (v : Value) (ms : List ByteArray) : Prop := w.ownsRow 0 9 1 v ms.length (ms.map sv)
theorem own_kept {w w' : World} {S : List Nat} {base : Nat} {e : TypeId} {size : Nat} {v : Value} {n : Nat} {xs : List Value} (h : w.ownsRow base e size v n xs) (hk : Kept S w w') (hd : ∀ k, v.ownBlock = some k → k ∉ S) : w'.ownsRow base e size v n xs := by
  refine ⟨h.1, ?_⟩
  rcases h.2 with h2 | ⟨g, cap, cur, rfl, a1, a2, a3, a4, a5, a6⟩
  · exact Or.inl h2
  · exact Or.inr ⟨g, cap, cur, rfl, a1, (hk.block g (block_lt a2) (hd g rfl)).trans a2, a3, a4, a5, a6⟩
theorem Mem.kept {w w' : World} {v : Value} {ms : List ByteArray} {S : List Nat} (h : Mem w v ms) (k : Kept S w w') (hd : ∀ b, v.ownBlock = some b → b ∉ S) : Mem w' v ms := own_kept h k hd
theorem Mem.kept0 {w w' : World} {v : Value} {ms : List ByteArray} (h : Mem w v ms) (k : Kept [] w w') : Mem w' v ms := h.kept k (fun _ _ hm => by cases hm)
theorem Mem.slice {w : World} {v : Value} {ms : List ByteArray} (h : Mem w v ms) : ∃ a c, v = .slice a ms.length c := by
  rcases h.2 with ⟨rfl, e⟩ | ⟨g, cap, cur, rfl, _⟩
  · exact ⟨none, 0, by rw [e]⟩
  · exact ⟨_, _, rfl⟩
theorem Mem.at' {w : World} {a : Option Addr} {c : Nat} {ms : List ByteArray} (h : Mem w (.slice a ms.length c) ms) {k : Nat} (hk : k < ms.length) : ∃ g, a = some ⟨g, 0, none⟩ ∧ w.cell? ⟨g, k, none⟩ = some (.string ms[k]) ∧ g < w.heap.size := by
  rcases h.2 with ⟨_, h0⟩ | ⟨g, cap, cur, e, _, hg, _⟩
  · omega
  · cases e
    refine ⟨g, rfl, ?_, block_lt hg⟩
    have := World.ownsRow.cellAt h k (by omega)
    rw [this]
    simp [sv, hk]

/-- The ending of what was given up. -/
abbrev fell (k : Int) : Ending := .panicked [{ v := .iface 37 (.int .i64 k), recovered := false }]
theorem giveUp_any (w : World) (k : Int) : Calls Tryz.prog 62 #[.int .i64 k] w fun e w' => e = fell k ∧ w' = w := by
  go_enter Tryz.func62, Tryz.ntmps62
  go_wp2_with fail
  exact ⟨rfl, rfl, rfl⟩
theorem mustBeName_ok (w : World) (s : ByteArray) (hs : s.size ≤ 140737488355328) (h : isName s = true) : Calls Tryz.prog 91 #[.string s] w fun e w' => e = .returned (.tuple #[]) ∧ Kept [] w w' := by
  have IN := Lib.hid (isName_any w s hs)
  rw [h] at IN
  clear h
  go_enter Tryz.func91, Tryz.ntmps91
  go_wp2_with (go_at_call 61; refine IN.out.mono ?_; rintro e w1 ⟨rfl, k1⟩)
  go_end0
  exact ⟨rfl, k1⟩
theorem mustBeName_no (w : World) (s : ByteArray) (hs : s.size ≤ 140737488355328) (h : isName s = false) : Calls Tryz.prog 91 #[.string s] w fun e w' => e = fell 60 ∧ Kept [] w w' := by
  have IN := Lib.hid (isName_any w s hs)
  rw [h] at IN
  clear h
  go_enter Tryz.func91, Tryz.ntmps91
  go_wp2_with (first | (go_at_call 61; refine IN.out.mono ?_; rintro e w1 ⟨rfl, k1⟩) | (go_at_call 62; refine (giveUp_any _ 60).mono ?_; rintro e w2 ⟨rfl, rfl⟩))
  exact ⟨rfl, rfl, k1⟩

/-- An account as it lies. -/
def accV (n l k : ByteArray) (ms : Value) : Value := .agg #[.string n, .string l, ms, .string k]
/-- The forms, one after the other. -/
def OutF (w : World) (ok : Bool) (e : Ending) (w' : World) : Prop := (ok = true ∧ e = .returned (.tuple #[]) ∧ Kept [] w w') ∨ (ok = false ∧ e = fell 60 ∧ Kept [] w w')
theorem lead_ne {s : ByteArray} (h : ¬ s.size = 0) : s.toList ≠ [] := fun e => h (by rw [← dl_length]; unfold dl; rw [← ByteArray.toList_eq, e]; rfl)
theorem lead_eq {s : ByteArray} (h : s.size = 0) : s.toList = [] := by
  have := dl_length s
  unfold dl at this
  rw [ByteArray.toList_eq]
  exact List.eq_nil_of_length_eq_zero (by omega)
theorem take_all {p : ByteArray → Bool} {ms : List ByteArray} {k : Nat} (hk : k < ms.length) (h : (ms.take k).all p = true) (h2 : p ms[k] = true) : (ms.take (k + 1)).all p = true := by
  rw [List.take_succ_eq_append_getElem hk, List.all_append, h]; simp [h2]
theorem not_all {p : ByteArray → Bool} {ms : List ByteArray} {k : Nat} (hk : k < ms.length) (h2 : p ms[k] = false) : ms.all p = false := by
  rw [List.all_eq_false]; exact ⟨ms[k], List.getElem_mem hk, by rw [h2]; decide⟩

set_option maxHeartbeats 8000000 in
set_option maxRecDepth 100000 in
/-- Has an account the forms? -/
theorem mustHaveForm_any (w : World) (a : Acc) (v : Value) (hm : Mem w v a.members) (hn : a.name.size ≤ 1048576) (hl : a.leader.size ≤ 1048576) (hk : a.key.size ≤ 1048576) (hz : ∀ m ∈ a.members, m.size ≤ 1048576) (hlen : a.members.length ≤ 1048576) :
    Calls Tryz.prog 58 #[accV a.name a.leader a.key v] w (OutF w (form a)) := by
  obtain ⟨name, leader, ms, key⟩ := a
  simp only at hm hn hl hk hz hlen ⊢
  obtain ⟨va, vc, rfl⟩ := hm.slice
  unfold accV
  obtain ⟨z, hz0⟩ : ∃ z, z = form ⟨name, leader, ms, key⟩ := ⟨_, rfl⟩
  have FZ : Hid (z = (isName name && leadOk leader && ms.all isName && isKey key)) := hz0
  rw [← hz0]
  clear hz0
  have HM := Lib.hid hm
  have HZ := Lib.hid hz
  have NOK := Lib.hid (fun w s hs h => mustBeName_ok w s hs h)
  have NNO := Lib.hid (fun w s hs h => mustBeName_no w s hs h)
  have KEY := Lib.hid (fun w => isKey_any w key (by omega))
  obtain ⟨w1, hw1⟩ : ∃ w1, w1 = w.alloc (.cells #[.string name, .string leader, .slice va ms.length vc, .string key] 35) := ⟨_, rfl⟩
  obtain ⟨R1, hR1⟩ : ∃ R, R = w.heap.size := ⟨_, rfl⟩
  have K1 : Hid (Kept [] w w1) := by rw [hw1]; exact (Kept.refl _ _).alloc _
  have B1 : Hid (w1.heap[R1]? = some (.cells #[.string name, .string leader, .slice va ms.length vc, .string key] 35 (0, 0))) := by rw [hw1, hR1]; exact (MapKept.heap_alloc w _).1
  have HW1 := Lib.hid hw1
  have HR1 := Lib.hid hR1
  have CELLS : Hid (∀ wr, Kept [] w1 wr → wr.cell? ⟨R1, 0, none⟩ = some (.string name) ∧ wr.cell? ⟨R1, 1, none⟩ = some (.string leader) ∧ wr.cell? ⟨R1, 2, none⟩ = some (.slice va ms.length vc) ∧ wr.cell? ⟨R1, 3, none⟩ = some (.string key)) := fun wr k => by
    have b := (k.block _ (block_lt B1.out) (by simp)).trans B1.out
    refine ⟨?_, ?_, ?_, ?_⟩ <;> (rw [cell_of_row wr R1 _ _ _ (0, 0) b]; rfl)
  clear hw1 hR1 hm hz
  obtain ⟨c0, c1, c2, c3⟩ := CELLS.out w1 (Kept.refl _ _)
  cases hnm : isName name with
  | false =>
    have hz : z = false := by rw [FZ.out, hnm]; simp
    subst hz
    go_enter Tryz.func58, Tryz.ntmps58
    go_wp2_with fail
    rw [← HW1.out, ← HR1.out]
    go_wp2_with (go_at_call 91; refine (NNO.out _ name (by omega) hnm).mono ?_; rintro e w2 ⟨rfl, k2⟩)
    exact ⟨rfl, Or.inr ⟨rfl, rfl, K1.out.trans k2 (fun i hi => by simp at hi)⟩⟩
  | true =>
    cases hldo : leadOk leader with
    | false =>
      have hz : z = false := by rw [FZ.out, hldo]; simp
      subst hz
      have h0 : ¬ leader.size = 0 := fun h => by unfold leadOk at hldo; rw [decide_eq_true h] at hldo; cases hldo
      have hn2 : isName leader = false := by unfold leadOk at hldo; rw [decide_eq_false h0, Bool.false_or] at hldo; exact hldo
      have h1 := lead_ne h0
      have b1 : leader.toList.isEmpty = false := by rw [List.isEmpty_eq_false_iff]; exact h1
      have b0 : (leader.toList == []) = false := by rw [beq_eq_false_iff_ne]; exact h1
      clear hldo h0 h1
      go_enter Tryz.func58, Tryz.ntmps58
      go_wp2_with fail
      rw [← HW1.out, ← HR1.out]
      clear HW1 HR1
      go_wp2_with (first | (go_at_call 91; refine (NOK.out _ name (by omega) hnm).mono ?_; rintro e w2 ⟨rfl, k2⟩; obtain ⟨d0, d1, d2, d3⟩ := CELLS.out w2 k2) | (go_at_call 91; refine (NNO.out _ leader (by omega) hn2).mono ?_; rintro e w3 ⟨rfl, k3⟩))
      exact ⟨rfl, Or.inr ⟨rfl, rfl, K1.out.trans (k2.trans k3 (fun i hi => by simp at hi)) (fun i hi => by simp at hi)⟩⟩
    | true =>
      by_cases h0 : leader.size = 0
      · have h1 := lead_eq h0
        clear h0
        go_enter Tryz.func58, Tryz.ntmps58
        go_wp2_with fail
        rw [← HW1.out, ← HR1.out]
        clear HW1 HR1
        go_wp2_with (first | (go_at_call 91; refine (NOK.out _ name (by omega) hnm).mono ?_; rintro e w2 ⟨rfl, k2⟩; obtain ⟨d0, d1, d2, d3⟩ := CELLS.out w2 k2))
        have KK : Hid (Kept [] w1 w2) := k2
        clear k2 d0 d1 d2 d3 c0 c1 c2 c3
        go_loopw [16] (fun iv wr => ∃ k : Nat, iv = .int .i64 k ∧ k ≤ ms.length ∧ Hid ((ms.take k).all isName = true) ∧ Hid (Kept [] w1 wr)) (fun iv _ => ms.length - (intOf iv).toNat)
        case atStart => exact ⟨0, rfl, by omega, rfl, KK.out⟩
        case round =>
          obtain ⟨k, rfl, hkl, hA, hK⟩ := hrel
          clear KK
          obtain ⟨e0, e1, e2, e3⟩ := CELLS.out wr hK.out
          by_cases hlt : k < ms.length
          · have j1 : (k : Int) < (ms.length : Int) := by omega
            obtain ⟨g, hg, cg, hgl⟩ := (HM.out.kept0 (K1.out.trans hK.out (fun i hi => by simp at hi))).at' hlt
            subst hg
            have hs1 := HZ.out ms[k] (List.getElem_mem hlt)
            have TK := Lib.hid (fun h => take_all (p := isName) hlt hA.out h)
            have NA := Lib.hid (fun h => not_all (p := isName) hlt h)
            obtain ⟨x, hx⟩ : ∃ x, x = ms[k] := ⟨_, rfl⟩
            rw [← hx] at cg hs1 TK NA
            clear hx
            cases hxn : isName x with
            | false =>
              have hz : z = false := by rw [FZ.out, NA.out hxn]; simp
              subst hz
              clear TK NA
              go_wp2_with (first | (go_at_call 91; refine (NNO.out _ x (by omega) hxn).mono ?_; rintro e w3 ⟨rfl, k3⟩))
              exact ⟨rfl, Or.inr ⟨rfl, rfl, K1.out.trans (hK.out.trans k3 (fun i hi => by simp at hi)) (fun i hi => by simp at hi)⟩⟩
            | true =>
              have TK2 := Lib.hid (TK.out hxn)
              clear TK NA
              go_wp2_with (first | (go_at_call 91; refine (NOK.out _ x (by omega) hxn).mono ?_; rintro e w3 ⟨rfl, k3⟩))
              go_roundw
              case rel => exact ⟨k + 1, by go_num, by omega, TK2.out, hK.out.trans k3 (fun i hi => by simp at hi)⟩
              case measure => simp [intOf]; omega
          · have j1 : ¬ (k : Int) < (ms.length : Int) := by omega
            have hall : ms.all isName = true := by have := hA.out; rwa [List.take_of_length_le (by omega)] at this
            have HZK : Hid (z = isKey key) := by show _ = _; rw [FZ.out, hnm, hldo, hall]; simp
            obtain ⟨q, hq⟩ : ∃ q, q = isKey key := ⟨_, rfl⟩
            rw [← hq] at KEY HZK
            clear hq hall
            cases q with
            | false =>
              have hz : z = false := HZK.out
              subst hz
              go_wp2_with (first | (go_at_call 92; refine (KEY.out _).mono ?_; rintro e w3 ⟨rfl, k3⟩) | (go_at_call 62; refine (giveUp_any _ 60).mono ?_; rintro e w4 ⟨rfl, rfl⟩))
              exact ⟨rfl, Or.inr ⟨rfl, rfl, K1.out.trans (hK.out.trans k3 (fun i hi => by simp at hi)) (fun i hi => by simp at hi)⟩⟩
            | true =>
              have hz : z = true := HZK.out
              subst hz
              go_wp2_with (first | (go_at_call 92; refine (KEY.out _).mono ?_; rintro e w3 ⟨rfl, k3⟩))
              go_end0
              exact Or.inl ⟨rfl, rfl, K1.out.trans (hK.out.trans k3 (fun i hi => by simp at hi)) (fun i hi => by simp at hi)⟩
      · have hn2 : isName leader = true := by unfold leadOk at hldo; rw [decide_eq_false h0, Bool.false_or] at hldo; exact hldo
        have h1 := lead_ne h0
        have b1 : leader.toList.isEmpty = false := by rw [List.isEmpty_eq_false_iff]; exact h1
        have b0 : (leader.toList == []) = false := by rw [beq_eq_false_iff_ne]; exact h1
        clear h0 h1
        go_enter Tryz.func58, Tryz.ntmps58
        go_wp2_with fail
        rw [← HW1.out, ← HR1.out]
        clear HW1 HR1
        go_wp2_with (first | (go_at_call 91; refine (NOK.out _ name (by omega) hnm).mono ?_; rintro e w2 ⟨rfl, k2⟩; obtain ⟨d0, d1, d2, d3⟩ := CELLS.out w2 k2) | (go_at_call 91; refine (NOK.out _ leader (by omega) hn2).mono ?_; rintro e w3 ⟨rfl, k3⟩; obtain ⟨f0, f1, f2, f3⟩ := CELLS.out w3 (k2.trans k3 (fun i hi => by simp at hi))))
        have KK : Hid (Kept [] w1 w3) := k2.trans k3 (fun i hi => by simp at hi)
        clear k2 k3 d0 d1 d2 d3 c0 c1 c2 c3 f0 f1 f2 f3
        go_loopw [16] (fun iv wr => ∃ k : Nat, iv = .int .i64 k ∧ k ≤ ms.length ∧ Hid ((ms.take k).all isName = true) ∧ Hid (Kept [] w1 wr)) (fun iv _ => ms.length - (intOf iv).toNat)
        case atStart => exact ⟨0, rfl, by omega, rfl, KK.out⟩
        case round =>
          obtain ⟨k, rfl, hkl, hA, hK⟩ := hrel
          clear KK
          obtain ⟨e0, e1, e2, e3⟩ := CELLS.out wr hK.out
          by_cases hlt : k < ms.length
          · have j1 : (k : Int) < (ms.length : Int) := by omega
            obtain ⟨g, hg, cg, hgl⟩ := (HM.out.kept0 (K1.out.trans hK.out (fun i hi => by simp at hi))).at' hlt
            subst hg
            have hs1 := HZ.out ms[k] (List.getElem_mem hlt)
            have TK := Lib.hid (fun h => take_all (p := isName) hlt hA.out h)
            have NA := Lib.hid (fun h => not_all (p := isName) hlt h)
            obtain ⟨x, hx⟩ : ∃ x, x = ms[k] := ⟨_, rfl⟩
            rw [← hx] at cg hs1 TK NA
            clear hx
            cases hxn : isName x with
            | false =>
              have hz : z = false := by rw [FZ.out, NA.out hxn]; simp
              subst hz
              clear TK NA
              go_wp2_with (first | (go_at_call 91; refine (NNO.out _ x (by omega) hxn).mono ?_; rintro e w3 ⟨rfl, k3⟩))
              exact ⟨rfl, Or.inr ⟨rfl, rfl, K1.out.trans (hK.out.trans k3 (fun i hi => by simp at hi)) (fun i hi => by simp at hi)⟩⟩
            | true =>
              have TK2 := Lib.hid (TK.out hxn)
              clear TK NA
              go_wp2_with (first | (go_at_call 91; refine (NOK.out _ x (by omega) hxn).mono ?_; rintro e w3 ⟨rfl, k3⟩))
              go_roundw
              case rel => exact ⟨k + 1, by go_num, by omega, TK2.out, hK.out.trans k3 (fun i hi => by simp at hi)⟩
              case measure => simp [intOf]; omega
          · have j1 : ¬ (k : Int) < (ms.length : Int) := by omega
            have hall : ms.all isName = true := by have := hA.out; rwa [List.take_of_length_le (by omega)] at this
            have HZK : Hid (z = isKey key) := by show _ = _; rw [FZ.out, hnm, hldo, hall]; simp
            obtain ⟨q, hq⟩ : ∃ q, q = isKey key := ⟨_, rfl⟩
            rw [← hq] at KEY HZK
            clear hq hall
            cases q with
            | false =>
              have hz : z = false := HZK.out
              subst hz
              go_wp2_with (first | (go_at_call 92; refine (KEY.out _).mono ?_; rintro e w3 ⟨rfl, k3⟩) | (go_at_call 62; refine (giveUp_any _ 60).mono ?_; rintro e w4 ⟨rfl, rfl⟩))
              exact ⟨rfl, Or.inr ⟨rfl, rfl, K1.out.trans (hK.out.trans k3 (fun i hi => by simp at hi)) (fun i hi => by simp at hi)⟩⟩
            | true =>
              have hz : z = true := HZK.out
              subst hz
              go_wp2_with (first | (go_at_call 92; refine (KEY.out _).mono ?_; rintro e w3 ⟨rfl, k3⟩))
              go_end0
              exact Or.inl ⟨rfl, rfl, K1.out.trans (hK.out.trans k3 (fun i hi => by simp at hi)) (fun i hi => by simp at hi)⟩
end Us
end Go.Proofs.YteeheapenfklcaaGreatDoor
