/- tags: putRflush, written, flushOf. -/
import Derived.Test.YtjogpafbiackbaaTgg
namespace Go.Proofs.Ytjogpafbiackbaa
set_option linter.unusedVariables false
open Go.RowKit
namespace Tg
open Go.Proofs.Ytjogpafbiackbaa.Mpf Go.PlainAid
section
variable {Ba : Nat} {w : World} {p rm gm : Nat} {s : Value} {nR : Nat} {T : TS}
/-- Bounds of what stands in a table. -/
structure Bd (T : TS) : Prop where
  req : ∀ id r, T.R id = some r → r.tag < 65536 ∧ r.fo < 4611686018427387904
  row : T.row.length ≤ 2000
theorem Bd.get (h : Bd T) (id : Nat) : (T.get id).tag < 65536 ∧ (T.get id).fo < 4611686018427387904 := by
  unfold TS.get
  cases q : T.R id with
  | none => exact ⟨by decide, by decide⟩
  | some r => exact h.req id r q
def rfl_ (tag id : Nat) : Rep := ⟨109, tag, ⟨#[]⟩, id, false⟩
set_option maxHeartbeats 4000000 in
set_option maxRecDepth 100000 in
theorem putRflush_any (h : TB Ba w p T) (hq : T.row.length ≤ 2000) (id : Nat) (hid : id < 9223372036854775808) :
    Calls Try.prog 33 #[.pointer (some ⟨p, 0, none⟩), .int .i64 id] w fun r w' => r = .returned (.tuple #[]) ∧ TB Ba w' p (T.push (rfl_ (T.get id).tag id)) ∧ KT Ba w w' := by
  have PUT := Lib.hid (fun e => put_any h hq e)
  obtain ⟨rm, gm, s, nR, h⟩ := h
  have LK := h.look id hid
  have c2 := h.box.cell 2 (v := .map (some rm)) rfl
  obtain ⟨a, ha⟩ : ∃ a, a = (T.get id).tag := ⟨_, rfl⟩
  obtain ⟨b, hb⟩ : ∃ b, b = (T.get id).st := ⟨_, rfl⟩
  obtain ⟨c, hc⟩ : ∃ c, c = (T.get id).fo := ⟨_, rfl⟩
  rw [← ha, ← hb, ← hc] at LK
  rw [← ha]
  have FD := field0 a b c
  have PUT2 : Hid (Calls Try.prog 31 #[.pointer (some ⟨p, 0, none⟩), .agg #[.int .u8 109, .int .u16 a, .int .u32 0, .string ⟨#[]⟩, .int .u32 0, .string ⟨#[]⟩, .string ⟨#[]⟩, .string ⟨#[]⟩, .int .u16 0, .int .u32 0, .int .u32 0, .slice none 0 0, .slice none 0 0, .int .u8 0, .int .u32 0, .int .u64 0, .int .u8 0, .int .u32 0, .string ⟨#[]⟩, .int .u32 0, .int .u64 0, .int .u32 0, .slice none 0 0, .int .u16 0, .int .u32 0, .int .u8 0, .int .u32 0, .int .u64 0, .int .u32 0, .int .u32 0, .int .u32 0, .int .u64 0, .string ⟨#[]⟩, .string ⟨#[]⟩, .string ⟨#[]⟩, .string ⟨#[]⟩, .int .i64 id, .bool false]] w fun r w' => r = .returned (.tuple #[]) ∧ TB Ba w' p (T.push (rfl_ a id)) ∧ KT Ba w w') := PUT.out (rfl_ a id)
  clear h hid ha hb hc PUT hq
  go_enter Try.func33, Try.ntmps33
  go_wp2_with (go_at_call 31; refine PUT2.out.mono ?_; rintro r w2 ⟨rfl, t2, k2⟩)
  go_end0
  exact ⟨rfl, t2, k2⟩
def TS.writ (T : TS) (id : Nat) : TS := if ((T.free id).get (T.get id).fo).st = 2 then (T.free id).free (T.get id).fo else T.free id
theorem Bd.free (h : Bd T) (id : Nat) : Bd (T.free id) := ⟨fun i r hr => by
  by_cases q : i = id
  · subst q
    have : (T.free i).R i = none := by unfold TS.free; exact put_same _ _ _
    rw [this] at hr
    cases hr
  · have : (T.free id).R i = T.R i := by unfold TS.free; exact put_other _ _ q
    rw [this] at hr
    exact h.req i r hr, h.row⟩
set_option maxRecDepth 100000 in
theorem written_any (h : TB Ba w p T) (hB : Bd T) (id : Nat) (hid : id < 9223372036854775808) :
    Calls Try.prog 29 #[.pointer (some ⟨p, 0, none⟩), .int .i64 id] w fun r w' => r = .returned (.tuple #[]) ∧ TB Ba w' p (T.writ id) ∧ KT Ba w w' ∧ KC w w' := by
  have hf := (hB.get id).2
  have FR := Lib.hid (free_any h id hid (hB.get id).1)
  obtain ⟨c, hc⟩ : ∃ c, c = (T.get id).fo := ⟨_, rfl⟩
  have FR2 : Hid (∀ w', TB Ba w' p (T.free id) → Calls Try.prog 45 #[.pointer (some ⟨p, 0, none⟩), .int .i64 c] w' fun e w'' => e = .returned (.tuple #[]) ∧ TB Ba w'' p ((T.free id).free c) ∧ KT Ba w' w'' ∧ KC w' w'') := fun w' h' => free_any h' c (by rw [hc]; omega) ((hB.free id).get c).1
  have LK2 : Hid (∀ w', TB Ba w' p (T.free id) → ∃ rm, w'.cell? ⟨p, 2, none⟩ = some (.map (some rm)) ∧ (Instr.lookup 74 (.map (some rm)) (.int .i64 c) false).run Try.prog w' = .ok (.agg #[.int .u16 ((T.free id).get c).tag, .int .u8 ((T.free id).get c).st, .int .i64 ((T.free id).get c).fo]) w') := fun w' h' => by
    obtain ⟨rm, gm, s, nR, h'⟩ := h'
    exact ⟨rm, h'.box.cell 2 rfl, h'.look c (by rw [hc]; omega)⟩
  have WR : Hid (T.writ id = if ((T.free id).get c).st = 2 then (T.free id).free c else T.free id) := by rw [hc]; rfl
  obtain ⟨rm, gm, s, nR, h⟩ := h
  have LK := h.look id hid
  have c2 := h.box.cell 2 (v := .map (some rm)) rfl
  obtain ⟨a, ha⟩ : ∃ a, a = (T.get id).tag := ⟨_, rfl⟩
  obtain ⟨b, hb⟩ : ∃ b, b = (T.get id).st := ⟨_, rfl⟩
  rw [← ha, ← hb, ← hc] at LK
  have FD := field2 a b c
  obtain ⟨a1, ha1⟩ : ∃ a, a = ((T.free id).get c).tag := ⟨_, rfl⟩
  obtain ⟨b1, hb1⟩ : ∃ b, b = ((T.free id).get c).st := ⟨_, rfl⟩
  obtain ⟨c1, hc1⟩ : ∃ x, x = ((T.free id).get c).fo := ⟨_, rfl⟩
  rw [← ha1, ← hb1, ← hc1] at LK2
  rw [← hb1] at WR
  have FD1 := field1 a1 b1 c1
  clear h hid ha hb hc hf ha1 hb1 hc1 hB
  rw [WR.out]
  by_cases q : b1 = 2
  · subst q
    rw [if_pos rfl]
    have LK3 : Hid (∀ w', TB Ba w' p (T.free id) → ∃ rm, w'.cell? ⟨p, 2, none⟩ = some (.map (some rm)) ∧ (Instr.lookup 74 (.map (some rm)) (.int .i64 c) false).run Try.prog w' = .ok (.agg #[.int .u16 a1, .int .u8 2, .int .i64 c1]) w') := LK2.out
    have FD3 : ∀ W', (Instr.field 80 (.agg #[.int .u16 a1, .int .u8 2, .int .i64 c1]) 1).run Try.prog W' = .ok (.int .u8 2) W' := FD1
    clear LK2 FD1 WR
    go_enter Try.func29, Try.ntmps29
    go_wp2_with (first | (go_at_call 45; refine FR.out.mono ?_; rintro r w2 ⟨rfl, t2, k2⟩; have T2 := Lib.hid t2; have K2 := Lib.hid k2; obtain ⟨rm2, e1, e2⟩ := LK3.out w2 t2; clear t2 k2 FR) | (go_at_call 45; refine (FR2.out _ T2.out).mono ?_; rintro r w3 ⟨rfl, t3, k3⟩; have T3 := Lib.hid t3; have K3 := Lib.hid k3; clear t3 k3 FR2))
    go_end0
    exact ⟨rfl, T3.out, K2.out.1.trans K3.out.1, K2.out.2.trans K3.out.2⟩
  · rw [if_neg q]
    have d : ((b1 : Int) == 2) = false := by simp; omega
    have d' : ¬ (b1 : Int) = 2 := by omega
    clear q
    go_enter Try.func29, Try.ntmps29
    go_wp2_with (first | (go_at_call 45; refine FR.out.mono ?_; rintro r w2 ⟨rfl, t2, k2⟩; have T2 := Lib.hid t2; have K2 := Lib.hid k2; obtain ⟨rm2, e1, e2⟩ := LK2.out w2 t2; clear t2 k2 FR))
    go_end0
    exact ⟨rfl, T2.out, K2.out.1, K2.out.2⟩
/-- In which state a flush begins, and whose it is. -/
def flS (n : Nat) : Nat := if n = 3 ∨ n = 5 then 5 else 6
def TS.flO (T : TS) (id : Nat) : Nat := if (T.get id).st = 1 ∨ (T.get id).st = 2 ∨ (T.get id).st = 3 then id else if (T.get id).st = 5 then (T.get id).fo else 0
set_option maxRecDepth 100000 in
theorem flushOf_any (h : TB Ba w p T) (id : Nat) (hid : id < 9223372036854775808) :
    Calls Try.prog 47 #[.pointer (some ⟨p, 0, none⟩), .int .i64 id] w fun r w' => r = .returned (.tuple #[.int .u8 (flS (T.get id).st), .int .i64 (T.flO id)]) ∧ Kept [] w w' := by
  obtain ⟨rm, gm, s, nR, h⟩ := h
  have LK := h.look id hid
  have c2 := h.box.cell 2 (v := .map (some rm)) rfl
  obtain ⟨S, hS⟩ : ∃ S, S = flS (T.get id).st := ⟨_, rfl⟩
  obtain ⟨O, hO⟩ : ∃ O, O = T.flO id := ⟨_, rfl⟩
  rw [← hS, ← hO]
  unfold flS at hS
  unfold TS.flO at hO
  obtain ⟨a, ha⟩ : ∃ a, a = (T.get id).tag := ⟨_, rfl⟩
  obtain ⟨b, hb⟩ : ∃ b, b = (T.get id).st := ⟨_, rfl⟩
  obtain ⟨c, hc⟩ : ∃ c, c = (T.get id).fo := ⟨_, rfl⟩
  rw [← ha, ← hb, ← hc] at LK
  rw [← hb] at hS
  rw [← hb, ← hc] at hO
  have KA : Hid (Kept [] w (w.alloc (.cells #[.int .u16 a, .int .u8 b, .int .i64 c] 80))) := (Kept.refl _ _).alloc _
  have BA := (Bx.made w 80 #[.int .u16 a, .int .u8 b, .int .i64 c]).drew
  have x2 := BA.cell 2 (v := .int .i64 c) rfl
  clear h hid ha hb hc BA
  by_cases q1 : b = 1
  · subst q1
    simp at hS hO
    subst hS hO
    clear x2
    go_enter Try.func47, Try.ntmps47
    go_wp2_with fail
    go_ret2
    exact ⟨rfl, KA.out⟩
  · by_cases q2 : b = 2
    · subst q2
      simp at hS hO
      subst hS hO
      clear x2 q1
      go_enter Try.func47, Try.ntmps47
      go_wp2_with fail
      go_ret2
      exact ⟨rfl, KA.out⟩
    · by_cases q3 : b = 3
      · subst q3
        simp at hS hO
        subst hS hO
        clear x2 q1 q2
        go_enter Try.func47, Try.ntmps47
        go_wp2_with fail
        go_ret2
        exact ⟨rfl, KA.out⟩
      · by_cases q5 : b = 5
        · subst q5
          simp at hS hO
          subst hS hO
          clear q1 q2 q3
          go_enter Try.func47, Try.ntmps47
          go_wp2_with fail
          go_region
          all_goals
            go_wp2_with fail
            go_ret2
            exact ⟨rfl, KA.out.drew⟩
        · simp [q1, q2, q3, q5] at hS hO
          subst hS hO
          have d1 : ((b : Int) == 1) = false := by simp; omega
          have d2 : ((b : Int) == 2) = false := by simp; omega
          have d3 : ((b : Int) == 3) = false := by simp; omega
          have d5 : ((b : Int) == 5) = false := by simp; omega
          have e1 : ¬ (b : Int) = 1 := by omega
          have e2 : ¬ (b : Int) = 2 := by omega
          have e3 : ¬ (b : Int) = 3 := by omega
          have e5 : ¬ (b : Int) = 5 := by omega
          clear x2 q1 q2 q3 q5
          go_enter Try.func47, Try.ntmps47
          go_wp2_with fail
          go_ret2
          exact ⟨rfl, KA.out⟩
end
end Tg
end Go.Proofs.Ytjogpafbiackbaa
