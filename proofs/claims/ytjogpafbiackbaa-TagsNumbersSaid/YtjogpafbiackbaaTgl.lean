/- tags: Flush, Next, Reset, Waiting of an empty row. -/
import Derived.Test.YtjogpafbiackbaaTgk
namespace Go.Proofs.Ytjogpafbiackbaa
set_option linter.unusedVariables false
open Go.RowKit Go.Shelf
namespace Tg
open Go.Proofs.Ytjogpafbiackbaa.Mpf Go.PlainAid
section
variable {Ba : Nat} {w : World} {p rm gm : Nat} {s : Value} {nR : Nat} {T : TS}
/-- What Flush does: the flush is taken, its answer put there if it is flushed, and what it names cancelled. -/
def TS.fl1 (T : TS) (tag old id : Nat) : TS := T.take id ⟨tag, flS (T.get (T.of old)).st, T.flO (T.of old)⟩
def TS.fl2 (T : TS) (tag old id : Nat) : TS := if flS (T.get (T.of old)).st = 6 then (T.fl1 tag old id).push (rfl_ ((T.fl1 tag old id).get id).tag id) else T.fl1 tag old id
def TS.flA (T : TS) (tag old id : Nat) : Nat := if ((T.fl2 tag old id).get (T.flO (T.of old))).st = 1 then T.flO (T.of old) else 0
def TS.fl (T : TS) (tag old id : Nat) : TS := (T.fl2 tag old id).mv (T.flO (T.of old)) 1 2
theorem flO_lt (hT : Ok T) (id : Nat) (hid : id < 4611686018427387904) : T.flO id < 4611686018427387904 := by
  unfold TS.flO
  split
  · exact hid
  · split
    · exact (hT.bd.get id).2
    · decide
set_option maxRecDepth 100000 in
theorem Flush_no (h : TB Ba w p T) (hT : Ok T) (tag old id : Nat) (ht : tag < 65536) (hid : id < 4611686018427387904) {E : Int} (hE : refE T tag id = E) (hE0 : E ≠ 0) :
    Calls Try.prog 36 #[.pointer (some ⟨p, 0, none⟩), .int .u16 tag, .int .u16 old, .int .i64 id] w fun e w' => e = .returned (.tuple #[.int .i64 0, .int .i64 E]) ∧ TB Ba w' p T ∧ KT Ba w w' := by
  have l1 := hT.last
  have l2 := hT.nG
  have l3 := hT.most
  obtain ⟨rm, gm, s, nR, h⟩ := h
  have RF := Lib.hid (refusal_x h tag id ht (by omega) (by omega) (by omega) (by omega))
  rw [hE] at RF
  have HT := Lib.hid h
  have d : (E == 0) = false := by simpa using hE0
  clear h hT ht hid hE l1 l2 l3
  go_enter Try.func36, Try.ntmps36
  go_wp2_with (go_at_call 34; refine RF.out.mono ?_; rintro e w2 ⟨rfl, k2⟩; have K2 := Lib.hid k2; clear k2)
  go_ret2
  exact ⟨rfl, ⟨_, _, _, _, HT.out.kept0 K2.out⟩, KT.of_kept0 K2.out⟩
set_option maxHeartbeats 4000000 in
set_option maxRecDepth 100000 in
theorem Flush_ok (h : TB Ba w p T) (hT : Ok T) (tag old id : Nat) (ht : tag < 65536) (hold : old < 65536) (hid : id < 4611686018427387904) (hof : T.of old < 4611686018427387904) (hE : refE T tag id = 0) :
    Calls Try.prog 36 #[.pointer (some ⟨p, 0, none⟩), .int .u16 tag, .int .u16 old, .int .i64 id] w fun e w' => e = .returned (.tuple #[.int .i64 (T.flA tag old id), .int .i64 0]) ∧ TB Ba w' p (T.fl tag old id) ∧ KT Ba w w' := by
  have l1 := hT.last
  have l2 := hT.nG
  have l3 := hT.most
  have l4 := hT.rowl
  obtain ⟨rm, gm, s, nR, h⟩ := h
  have RF := Lib.hid (refusal_x h tag id ht (by omega) (by omega) (by omega) (by omega))
  rw [hE] at RF
  obtain ⟨o, ho⟩ : ∃ o, o = T.of old := ⟨_, rfl⟩
  obtain ⟨S, hS⟩ : ∃ S, S = flS (T.get (T.of old)).st := ⟨_, rfl⟩
  obtain ⟨f, hf⟩ : ∃ f, f = T.flO (T.of old) := ⟨_, rfl⟩
  have hf63 : f < 4611686018427387904 := by rw [hf]; exact flO_lt hT _ hof
  have S56 : S = 5 ∨ S = 6 := by rw [hS]; unfold flS; split <;> simp
  have LG : Hid (∀ w', Kept [] w w' → w'.cell? ⟨p, 3, none⟩ = some (.map (some gm)) ∧ (Instr.lookup 73 (.map (some gm)) (.int .u16 old) false).run Try.prog w' = .ok (.int .i64 o) w') := fun w' k => ⟨(h.kept0 k).box.cell 3 rfl, by rw [ho]; exact (h.kept0 k).lookG old hold⟩
  have FO : Hid (∀ w', Kept [] w w' → Calls Try.prog 47 #[.pointer (some ⟨p, 0, none⟩), .int .i64 o] w' fun r w'' => r = .returned (.tuple #[.int .u8 S, .int .i64 f]) ∧ Kept [] w' w'') := fun w' k => by
    rw [hS, hf, ho]
    exact flushOf_any ⟨_, _, _, _, h.kept0 k⟩ (T.of old) (by omega)
  have TK : Hid (∀ w', Kept [] w w' → Calls Try.prog 35 #[.pointer (some ⟨p, 0, none⟩), .int .i64 id, .agg #[.int .u16 tag, .int .u8 S, .int .i64 f]] w' fun e w'' => e = .returned (.tuple #[]) ∧ TB Ba w'' p (T.take id ⟨tag, S, f⟩) ∧ KT Ba w' w'') := fun w' k => take_any ⟨_, _, _, _, h.kept0 k⟩ id ⟨tag, S, f⟩ (by omega) ht
  obtain ⟨T1, hT1⟩ : ∃ T1, T1 = T.take id ⟨tag, S, f⟩ := ⟨_, rfl⟩
  have hT1' : T1 = T.fl1 tag old id := by rw [hT1, hS, hf]; rfl
  obtain ⟨T2, hT2⟩ : ∃ T2, T2 = T.fl2 tag old id := ⟨_, rfl⟩
  have hr1 : T1.row.length ≤ 2000 := by rw [hT1]; show T.row.length ≤ 2000; omega
  rw [← hT1] at TK
  have MV : Hid (∀ w', TB Ba w' p T2 → Calls Try.prog 30 #[.pointer (some ⟨p, 0, none⟩), .int .i64 f, .int .u8 1, .int .u8 2] w' fun e w'' => e = .returned (.bool (mvB T2 f 1)) ∧ TB Ba w'' p (T2.mv f 1 2) ∧ KT Ba w' w'') := fun w' h' => move_any h' f 1 2 (by omega) (by decide)
  have EF : T.fl tag old id = T2.mv f 1 2 := by rw [hT2, hf]; rfl
  have EA : T.flA tag old id = if mvB T2 f 1 = true then f else 0 := by
    rw [hT2, hf]
    unfold TS.flA mvB
    by_cases q : ((T.fl2 tag old id).get (T.flO (T.of old))).st = 1
    · rw [if_pos q, decide_eq_true q, if_pos rfl]
    · rw [if_neg q, decide_eq_false q, if_neg (by simp)]
  rw [EF, EA]
  obtain ⟨T3, hT3⟩ : ∃ T3, T3 = T2.mv f 1 2 := ⟨_, rfl⟩
  obtain ⟨mb, hmb⟩ : ∃ mb, mb = mvB T2 f 1 := ⟨_, rfl⟩
  rw [← hT3, ← hmb] at MV ⊢
  have PR : Hid (S = 6 → ∀ w', TB Ba w' p T1 → Calls Try.prog 33 #[.pointer (some ⟨p, 0, none⟩), .int .i64 id] w' fun r w'' => r = .returned (.tuple #[]) ∧ TB Ba w'' p T2 ∧ KT Ba w' w'') := fun h6 w' h' => by
    have := putRflush_any h' hr1 id (by omega)
    have e2 : T2 = T1.push (rfl_ (T1.get id).tag id) := by rw [hT2, hT1']; unfold TS.fl2; rw [if_pos (by rw [← hS]; exact h6)]
    rw [← e2] at this
    exact this
  have P5 : Hid (S = 5 → T2 = T1) := fun h5 => by rw [hT2, hT1']; unfold TS.fl2; rw [if_neg (by rw [← hS, h5]; decide)]
  clear h hT ht hid hE l1 l2 l3 l4 hold hof ho hf hT1 hT1' hT2 hr1 EF EA hT3 hmb
  rcases S56 with rfl | rfl
  · have P5' : T2 = T1 := P5.out rfl
    subst P5'
    have FO2 : Hid (∀ w', Kept [] w w' → Calls Try.prog 47 #[.pointer (some ⟨p, 0, none⟩), .int .i64 o] w' fun r w'' => r = .returned (.tuple #[.int .u8 5, .int .i64 f]) ∧ Kept [] w' w'') := FO.out
    have TK2 : Hid (∀ w', Kept [] w w' → Calls Try.prog 35 #[.pointer (some ⟨p, 0, none⟩), .int .i64 id, .agg #[.int .u16 tag, .int .u8 5, .int .i64 f]] w' fun e w'' => e = .returned (.tuple #[]) ∧ TB Ba w'' p T2 ∧ KT Ba w' w'') := TK.out
    clear FO TK PR P5 hS
    cases mb
    all_goals
      go_enter Try.func36, Try.ntmps36
      go_wp2_with (first | (go_at_call 34; refine RF.out.mono ?_; rintro e w2 ⟨rfl, k2⟩; have K2 := Lib.hid k2; obtain ⟨g1, g2⟩ := LG.out _ k2; clear k2 RF) | (go_at_call 47; refine (FO2.out _ K2.out).mono ?_; rintro e w3 ⟨rfl, k3⟩; have K3 : Hid (Kept [] w w3) := K2.out.trans k3 (fun i hi => by cases hi); clear k3 FO2) | (go_at_call 35; refine (TK2.out _ K3.out).mono ?_; rintro e w4 ⟨rfl, t4, k4⟩; have T4 := Lib.hid t4; have K4 : Hid (KT Ba w w4) := (KT.of_kept0 K3.out).trans k4; clear t4 k4 TK2) | (go_at_call 30; refine (MV.out _ T4.out).mono ?_; rintro e w5 ⟨rfl, t5, k5⟩; have T5 := Lib.hid t5; have K5 : Hid (KT Ba w w5) := K4.out.trans k5; clear t5 k5 MV))
      go_ret2
      exact ⟨by simp, T5.out, K5.out⟩
  · have FO2 : Hid (∀ w', Kept [] w w' → Calls Try.prog 47 #[.pointer (some ⟨p, 0, none⟩), .int .i64 o] w' fun r w'' => r = .returned (.tuple #[.int .u8 6, .int .i64 f]) ∧ Kept [] w' w'') := FO.out
    have TK2 : Hid (∀ w', Kept [] w w' → Calls Try.prog 35 #[.pointer (some ⟨p, 0, none⟩), .int .i64 id, .agg #[.int .u16 tag, .int .u8 6, .int .i64 f]] w' fun e w'' => e = .returned (.tuple #[]) ∧ TB Ba w'' p T1 ∧ KT Ba w' w'') := TK.out
    have PR2 := Lib.hid (PR.out rfl)
    clear FO TK PR P5 hS
    cases mb
    all_goals
      go_enter Try.func36, Try.ntmps36
      go_wp2_with (first | (go_at_call 34; refine RF.out.mono ?_; rintro e w2 ⟨rfl, k2⟩; have K2 := Lib.hid k2; obtain ⟨g1, g2⟩ := LG.out _ k2; clear k2 RF) | (go_at_call 47; refine (FO2.out _ K2.out).mono ?_; rintro e w3 ⟨rfl, k3⟩; have K3 : Hid (Kept [] w w3) := K2.out.trans k3 (fun i hi => by cases hi); clear k3 FO2) | (go_at_call 35; refine (TK2.out _ K3.out).mono ?_; rintro e w4 ⟨rfl, t4, k4⟩; have T4 := Lib.hid t4; have K4 : Hid (KT Ba w w4) := (KT.of_kept0 K3.out).trans k4; clear t4 k4 TK2) | (go_at_call 33; refine (PR2.out _ T4.out).mono ?_; rintro e w6 ⟨rfl, t6, k6⟩; have T6 := Lib.hid t6; have K6 : Hid (KT Ba w w6) := K4.out.trans k6; clear t6 k6 PR2) | (go_at_call 30; refine (MV.out _ T6.out).mono ?_; rintro e w5 ⟨rfl, t5, k5⟩; have T5 := Lib.hid t5; have K5 : Hid (KT Ba w w5) := K6.out.trans k5; clear t5 k5 MV))
      go_ret2
      exact ⟨by simp, T5.out, K5.out⟩
def resetP : Rq → Bool := fun r => decide (r.st = 1)
def TS.none_ (T : TS) : TS := { T with R := fun _ => none, G := fun _ => none, nG := 0, row := [] }
set_option maxRecDepth 100000 in
theorem Reset_any (h : TB Ba w p T) (hT : Ok T) :
    Calls Try.prog 13 #[.pointer (some ⟨p, 0, none⟩)] w fun e w' => ∃ v, e = .returned v ∧ w'.ownsRow w.heap.size 3 1 v (T.sel resetP).length ((T.sel resetP).map iv) ∧ TB Ba w' p T.none_ ∧ KT Ba w w' := by
  have l1 := hT.last
  have TH := Lib.hid (those_open h hT.dom (by omega))
  obtain ⟨rm, gm, s, nR, h⟩ := h
  have CLR : Hid (∀ w', Kept [] w w' → ∃ w3 w4, w'.cell? ⟨p, 2, none⟩ = some (.map (some rm)) ∧ (Builtin.clear_ #[74] 0 #[.map (some rm)]).run Try.prog w' = .ok (.tuple #[]) w3 ∧ w3.cell? ⟨p, 3, none⟩ = some (.map (some gm)) ∧ (Builtin.clear_ #[73] 0 #[.map (some gm)]).run Try.prog w3 = .ok (.tuple #[]) w4 ∧ w4.cell? ⟨p, 4, none⟩ = some s ∧ w4.frozen? ⟨p, 4, none⟩ = false ∧ TB Ba (w4.setCell ⟨p, 4, none⟩ (.slice none 0 0)) p T.none_ ∧ KT Ba w' (w4.setCell ⟨p, 4, none⟩ (.slice none 0 0)) ∧ (∀ v (xs : List Value) n b, w'.ownsRow b 3 1 v n xs → (w4.setCell ⟨p, 4, none⟩ (.slice none 0 0)).ownsRow b 3 1 v n xs)) := fun w' k => by
    have h' := h.kept0 k
    obtain ⟨w3, c3, m3, k3, z3⟩ := h'.rmap.clear Try.underlying74 0
    have b3 := h'.box.kept k3 (by simpa using h.prm)
    have g3 := h'.gmap.kept k3 (by simpa using fun e => h.ne e.symm)
    obtain ⟨w4, c4, m4, k4, z4⟩ := g3.clear Try.underlying73 0
    have b4 := b3.kept k4 (by simpa using h.pgm)
    have r4 := m3.kept k4 (by simpa using h.ne)
    have k5 : Kept [p] w4 (w4.setCell ⟨p, 4, none⟩ (.slice none 0 0)) := (Kept.refl _ _).setCell (Or.inl (by simp)) _
    have b5 := b4.set 4 (.slice none 0 0)
    have r5 := r4.kept k5 (by simpa using fun e => h.prm e.symm)
    have g5 := m4.kept k5 (by simpa using fun e => h.pgm e.symm)
    have KK : Kept [p, rm, gm] w' (w4.setCell ⟨p, 4, none⟩ (.slice none 0 0)) := ((k3.mono (T := [p, rm, gm]) (by simp)).trans k4 (by simp)).trans k5 (by simp)
    have KTT := h'.kt KK (by simp)
    exact ⟨w3, w4, h'.box.cell 2 rfl, c3, b3.cell 3 rfl, c4, b4.cell 4 rfl, b4.frozen 4, ⟨rm, gm, .slice none 0 0, 0, ⟨b5, r5, g5, Ro.nil _, h.ne, h.hp, h.hr, h.hg, fun g hg => by simp [Value.ownBlock] at hg⟩⟩, KTT, fun v xs n b ho => ownsRow_kt ho KTT (by decide) (by decide)⟩
  clear h hT l1
  go_enter Try.func13, Try.ntmps13
  go_wp2_with (go_at_call 26; refine TH.out.mono ?_; rintro e w2 ⟨v, rfl, o2, k2⟩; obtain ⟨w3, w4, q1, q2, q3, q4, q5, q6, t4, k4, o4⟩ := CLR.out w2 k2; have O2 := Lib.hid (o4 _ _ _ _ o2); have T4 := Lib.hid t4; have K4 : Hid (KT Ba w (w4.setCell ⟨p, 4, none⟩ (.slice none 0 0))) := (KT.of_kept0 k2).trans k4; clear o2 k2 t4 k4 o4 TH CLR)
  go_ret
  exact ⟨v, rfl, O2.out, T4.out, K4.out⟩
set_option maxRecDepth 100000 in
theorem Waiting_none (h : TB Ba w p T) (hrow : T.row = []) :
    Calls Try.prog 12 #[.pointer (some ⟨p, 0, none⟩)] w fun e w' => e = .returned (.slice none 0 0) ∧ Kept [] w w' := by
  obtain ⟨rm, gm, s, nR, h⟩ := h
  obtain ⟨a, c, hs, -, -⟩ := h.row.slice
  rw [hrow] at hs
  subst hs
  have c4 := h.box.cell 4 (v := .slice a 0 c) rfl
  clear h hrow
  go_enter Try.func12, Try.ntmps12
  go_wp2_with fail
  go_loopw [3, 11] (fun v3 iv wr => v3 = .slice none 0 0 ∧ iv = .int .i64 0 ∧ w = wr) (fun _ _ _ => 0)
  case atStart => exact ⟨rfl, rfl, rfl⟩
  case round =>
    obtain ⟨rfl, rfl, rfl⟩ := hrel
    go_wp2_with fail
    go_ret
    exact ⟨rfl, Kept.refl _ _⟩
end
end Tg
end Go.Proofs.Ytjogpafbiackbaa
