/- tags: waitingFor, Reply. -/
import Derived.Test.YtjogpafbiackbaaTgi
namespace Go.Proofs.Ytjogpafbiackbaa
set_option linter.unusedVariables false
open Go.RowKit Go.Shelf
namespace Tg
open Go.Proofs.Ytjogpafbiackbaa.Mpf Go.PlainAid
section
variable {Ba : Nat} {w : World} {p rm gm : Nat} {s : Value} {nR : Nat} {T : TS}
theorem ownsRow_low {w : World} {base b2 : Nat} {e : TypeId} {size : Nat} {v : Value} {n : Nat} {xs : List Value} (h : w.ownsRow base e size v n xs) (hb : b2 ≤ base) : w.ownsRow b2 e size v n xs := by
  refine ⟨h.1, ?_⟩
  rcases h.2 with h0 | ⟨g, cap, cur, rfl, hbase, r⟩
  · exact Or.inl h0
  · exact Or.inr ⟨g, cap, cur, rfl, by omega, r⟩
theorem ownsRow_kt {w w' : World} {base : Nat} {e : TypeId} {size : Nat} {v : Value} {n : Nat} {xs : List Value} (h : w.ownsRow base e size v n xs) (k : KT Ba w w') (h1 : e ≠ 77) (h2 : e ≠ 84) : w'.ownsRow base e size v n xs := by
  refine ⟨h.1, ?_⟩
  rcases h.2 with h0 | ⟨g, cap, cur, rfl, hbase, hb, r⟩
  · exact Or.inl h0
  · exact Or.inr ⟨g, cap, cur, rfl, hbase, (k.block g (block_lt hb) (Or.inr ⟨_, _, _, hb, h1, h2⟩)).trans hb, r⟩
/-- Those who wait for a request. -/
def waitP (id : Nat) : Rq → Bool := fun r => decide (r.st = 5) && decide (r.fo = id)
set_option maxRecDepth 100000 in
theorem waitingFor_any (h : TB Ba w p T) (hdom : ∀ id q, T.R id = some q → id ≤ T.last) (hlast : T.last ≤ 2000) (id : Nat) :
    Calls Try.prog 32 #[.pointer (some ⟨p, 0, none⟩), .int .i64 id] w fun e w' => ∃ v, e = .returned v ∧ w'.ownsRow w.heap.size 3 1 v (T.sel (waitP id)).length ((T.sel (waitP id)).map iv) ∧ Kept [] w w' := by
  have KA : Hid (Kept [] w (w.alloc (.cells #[.int .i64 id] 3))) := (Kept.refl _ _).alloc _
  have TH := Lib.hid (those_wait (h.kept0 KA.out) hdom hlast (Bx.made w 3 #[.int .i64 id]))
  clear h hdom hlast
  go_enter Try.func32, Try.ntmps32
  go_wp2_with (go_at_call 26; refine TH.out.mono ?_; rintro e w2 ⟨v, rfl, o2, k2⟩)
  go_ret
  exact ⟨v, rfl, ownsRow_low o2 (by simp), KA.out.trans k2 (fun i hi => by cases hi)⟩
theorem run_brep (k : Int) (t id : Nat) (en : ByteArray) (w : World) : (Instr.build 84 #[(0, .agg (msgC k t en).toArray), (1, .int .i64 id)]).run Try.prog w = .ok (.agg (Rep.C ⟨k, t, en, id, false⟩).toArray) w := by kernel_rfl
theorem wpList_brep {w : World} {ops : Array Oper} {rest : List Oper} {o : Oper} {a : Act} {Q : Exit → Act → World → Prop} (hgd : o.guard = none) (x y : Operand) (ho : o.op = .build 84 #[(0, x), (1, y)]) (k : Int) (t id : Nat) (en : ByteArray)
    (hx : a.eval x = .agg (msgC k t en).toArray) (hy : a.eval y = .int .i64 id) (hK : wpList Try.prog ops Q rest (a.put o.dst (.agg (Rep.C ⟨k, t, en, id, false⟩).toArray)) w) : wpList Try.prog ops Q (o :: rest) a w :=
  wpList_plain hgd fun K hK' => by
    unfold Oper.wp execOp
    simp only [ho, List.map_toArray, List.map_cons, List.map_nil, hx, hy, Sem.run_bind, run_brep, Result.andThen_ok, Sem.run_pure]
    exact hK' _ _ hK
/-- One that waited is answered. -/
def stepF (T : TS) (f : Nat) : TS := (T.mv f 5 6).push (rfl_ ((T.mv f 5 6).get f).tag f)
theorem stepF_row (T : TS) (f : Nat) : (stepF T f).row.length = T.row.length + 1 := by
  have : (T.mv f 5 6).row = T.row := by unfold TS.mv; split <;> rfl
  unfold stepF TS.push
  simp [this]
theorem foldF_row : ∀ (l : List Nat) (T : TS), (l.foldl stepF T).row.length = T.row.length + l.length
  | [], T => rfl
  | x :: l, T => by
    rw [List.foldl_cons, foldF_row l, stepF_row, List.length_cons]
    omega
def TS.ans (T : TS) (id : Nat) (k : Int) (en : ByteArray) : TS := (T.mv id 3 4).push ⟨k, ((T.mv id 3 4).get id).tag, en, id, false⟩
def TS.reply (T : TS) (id : Nat) (k : Int) (en : ByteArray) : TS := ((T.ans id k en).sel (waitP id)).foldl stepF (T.ans id k en)
theorem ans_last (T : TS) (id : Nat) (k : Int) (en : ByteArray) : (T.ans id k en).last = T.last := by unfold TS.ans TS.push TS.mv; split <;> rfl
theorem ans_row (T : TS) (id : Nat) (k : Int) (en : ByteArray) : (T.ans id k en).row.length = T.row.length + 1 := by
  have : (T.mv id 3 4).row = T.row := by unfold TS.mv; split <;> rfl
  unfold TS.ans TS.push
  simp [this]
theorem mv_dom {T : TS} (hdom : ∀ id q, T.R id = some q → id ≤ T.last) (id a b : Nat) (ha : a ≠ 0) : ∀ i q, (T.mv id a b).R i = some q → i ≤ (T.mv id a b).last := by
  intro i q hq
  unfold TS.mv at hq ⊢
  split at hq
  · rename_i hc
    rw [if_pos hc]
    by_cases e : i = id
    · subst e
      cases r : T.R i with
      | none => unfold TS.get at hc; rw [r] at hc; exact absurd hc.symm ha
      | some r' => exact hdom i r' r
    · exact hdom i q (by simpa [put_other _ _ e] using hq)
  · rename_i hc
    rw [if_neg hc]
    exact hdom i q hq
structure ReI (Ba : Nat) (w wr : World) (p : Nat) (T : TS) (v : Value) (l : List Nat) (j : Nat) : Prop where
  tb : TB Ba wr p ((l.take j).foldl stepF T)
  kt : KT Ba w wr
  own : wr.ownsRow w.heap.size 3 1 v l.length (l.map iv)
  le : j ≤ l.length
theorem own_at {w : World} {base : Nat} {l : List Nat} {a : Option Addr} {n c : Nat} (h : w.ownsRow base 3 1 (.slice a n c) l.length (l.map iv)) (hl : 0 < l.length) : ∃ g, a = some ⟨g, 0, none⟩ ∧ ∀ (j x : Nat), l[j]? = some x → w.cell? ⟨g, j, none⟩ = some (.int .i64 x) := by
  rcases h.2 with ⟨hv, h0⟩ | ⟨g, cap, cur, hv, hbase, hb, h1, h2, h3, h4⟩
  · omega
  · cases hv
    refine ⟨g, rfl, fun j x hx => ?_⟩
    have hj := (List.getElem?_eq_some_iff.1 hx).1
    rw [cell_of_row w g j cur _ (0, 0) hb, ← Array.getElem?_toList]
    have : (cur.toList.take (l.length * 1))[j]? = (l.map iv)[j]? := by rw [h4]
    rw [List.getElem?_take_of_lt (by omega)] at this
    rw [this, List.getElem?_map, hx]
    rfl
theorem KT.thenKept {w w2 w3 : World} {S : List Nat} (h : KT Ba w w2) (k : Kept S w2 w3) (hS : ∀ i ∈ S, w.heap.size ≤ i) : KT Ba w w3 :=
  ⟨k.os.trans h.os, k.tape.trans h.tape, k.output.trans h.output, Nat.le_trans h.size k.size, fun i hi hc => (k.block i (Nat.lt_of_lt_of_le hi h.size) (fun hm => by have := hS i hm; omega)).trans (h.block i hi hc)⟩
set_option maxHeartbeats 8000000 in
set_option maxRecDepth 100000 in
theorem Reply_no (h : TB Ba w p T) (id : Nat) (hid : id < 9223372036854775808) (V : Array Value) (hst : (T.get id).st ≠ 3) :
    Calls Try.prog 16 #[.pointer (some ⟨p, 0, none⟩), .int .i64 id, .agg V] w fun e w' => e = .returned (.int .i64 142) ∧ TB Ba w' p T ∧ KT Ba w w' := by
  have KA : Hid (Kept [] w (w.alloc (.cells V 57))) := (Kept.refl _ _).alloc _
  have MV := Lib.hid (move_any (h.kept0 KA.out) id 3 4 hid (by decide))
  have e1 : mvB T id 3 = false := by unfold mvB; rw [decide_eq_false hst]
  have e2 : T.mv id 3 4 = T := by unfold TS.mv; rw [if_neg hst]
  rw [e1, e2] at MV
  clear h hid hst e1 e2
  go_enter Try.func16, Try.ntmps16
  go_wp2_with (go_at_call 30; refine MV.out.mono ?_; rintro e w2 ⟨rfl, t2, k2⟩; have T2 := Lib.hid t2; have K2 := Lib.hid k2; clear t2 k2)
  go_ret
  exact ⟨rfl, T2.out, (KT.of_kept0 KA.out).trans K2.out⟩
set_option maxHeartbeats 8000000 in
set_option maxRecDepth 100000 in
theorem Reply_yes (h : TB Ba w p T) (hdom : ∀ id q, T.R id = some q → id ≤ T.last) (hrow : T.row.length + T.last + 2 ≤ 2000) (id : Nat) (hid : id < 9223372036854775808) (k : Int) (t0 : Nat) (en : ByteArray) (hst : (T.get id).st = 3) :
    Calls Try.prog 16 #[.pointer (some ⟨p, 0, none⟩), .int .i64 id, .agg (msgC k t0 en).toArray] w fun e w' => e = .returned (.int .i64 0) ∧ TB Ba w' p (T.reply id k en) ∧ KT Ba w w' := by
  have KA : Hid (Kept [] w (w.alloc (.cells (msgC k t0 en).toArray 57))) := (Kept.refl _ _).alloc _
  have B0 : Hid (Bx (w.alloc (.cells (msgC k t0 en).toArray 57)) w.heap.size 57 (msgC k t0 en).toArray) := Bx.made _ _ _
  have MV := Lib.hid (move_any (h.kept0 KA.out) id 3 4 hid (by decide))
  have e1 : mvB T id 3 = true := by unfold mvB; rw [decide_eq_true hst]
  rw [e1] at MV
  obtain ⟨T1, hT1⟩ : ∃ T1, T1 = T.mv id 3 4 := ⟨_, rfl⟩
  rw [← hT1] at MV
  have hT1r : T1.row = T.row := by rw [hT1]; unfold TS.mv; split <;> rfl
  have hT1l : T1.last = T.last := by rw [hT1]; unfold TS.mv; split <;> rfl
  obtain ⟨a, ha⟩ : ∃ a, a = (T1.get id).tag := ⟨_, rfl⟩
  obtain ⟨b, hb⟩ : ∃ b, b = (T1.get id).st := ⟨_, rfl⟩
  obtain ⟨c, hc⟩ : ∃ c, c = (T1.get id).fo := ⟨_, rfl⟩
  have FD := field0 a b c
  have LK2 : Hid (∀ w', TB Ba w' p T1 → ∃ rm, w'.cell? ⟨p, 2, none⟩ = some (.map (some rm)) ∧ (Instr.lookup 74 (.map (some rm)) (.int .i64 id) false).run Try.prog w' = .ok (.agg #[.int .u16 a, .int .u8 b, .int .i64 c]) w') := fun w' h' => by
    obtain ⟨rm, gm, s, nR, h'⟩ := h'
    refine ⟨rm, h'.box.cell 2 rfl, ?_⟩
    rw [ha, hb, hc]
    exact h'.look id hid
  obtain ⟨T2, hT2⟩ : ∃ T2, T2 = T.ans id k en := ⟨_, rfl⟩
  have hT2' : T2 = T1.push ⟨k, a, en, id, false⟩ := by rw [hT2, ha, hT1]; rfl
  have PUT : Hid (∀ w', TB Ba w' p T1 → Calls Try.prog 31 #[.pointer (some ⟨p, 0, none⟩), .agg (Rep.C ⟨k, a, en, id, false⟩).toArray] w' fun r w'' => r = .returned (.tuple #[]) ∧ TB Ba w'' p T2 ∧ KT Ba w' w'') := fun w' h' => by
    have := put_any h' (by rw [hT1r]; omega) ⟨k, a, en, id, false⟩
    rw [← hT2'] at this
    exact this
  have hd2 : ∀ i q, T2.R i = some q → i ≤ T2.last := by
    rw [hT2']
    have := mv_dom hdom id 3 4 (by decide)
    rw [← hT1] at this
    exact this
  have hl2 : T2.last ≤ 2000 := by rw [hT2, ans_last]; omega
  have hr2 : T2.row.length = T.row.length + 1 := by rw [hT2, ans_row]
  have WF : Hid (∀ w', TB Ba w' p T2 → Calls Try.prog 32 #[.pointer (some ⟨p, 0, none⟩), .int .i64 id] w' fun e w'' => ∃ v, e = .returned v ∧ w''.ownsRow w'.heap.size 3 1 v (T2.sel (waitP id)).length ((T2.sel (waitP id)).map iv) ∧ Kept [] w' w'') := fun w' h' => waitingFor_any h' hd2 hl2 id
  obtain ⟨l, hl⟩ : ∃ l, l = T2.sel (waitP id) := ⟨_, rfl⟩
  rw [← hl] at WF
  have FIN : Hid (T.reply id k en = l.foldl stepF T2) := by
    show _ = _
    unfold TS.reply
    rw [hl, hT2]
  have HLT : Hid (l.length ≤ T.last + 1) := by
    have := (sel_nodup T2 (waitP id)).length_le_of_subset (l₂ := List.range (T2.last + 1)) (fun x hx => List.mem_range.2 (by have := (mem_sel.1 hx).1; omega))
    rw [← hl, List.length_range, hT2, ans_last] at this
    exact this
  have HL63 : Hid (∀ x ∈ l, x < 9223372036854775808) := fun x hx => by rw [hl] at hx; have := (mem_sel.1 hx).1; omega
  have HR2 : Hid (T2.row.length + l.length ≤ 2000) := by have := HLT.out; show _ ≤ _; omega
  rw [FIN.out]
  clear h hid hst e1 hT1 hT1r hT1l ha hb hc hT2 hT2' hd2 hl2 hr2 hl FIN hdom hrow HLT
  go_enter Try.func16, Try.ntmps16
  go_wp2_with (first | (go_at_call 30; refine MV.out.mono ?_; rintro e w2 ⟨rfl, t2, k2⟩; have T2h := Lib.hid t2; have K2 : Hid (KT Ba w w2) := (KT.of_kept0 KA.out).trans k2; have B2 : Hid (Bx w2 w.heap.size 57 (msgC k t0 en).toArray) := k2.bx B0.out (by decide) (by decide); obtain ⟨rm2, e1, e2⟩ := LK2.out w2 t2; have f1 := B2.out.frozen 1; have c1 := B2.out.cell 1 (v := .int .u16 t0) rfl; clear t2 k2 MV B0 KA) | (refine wpList_lmsg rfl (.tmp 5) rfl w.heap.size (msgC k a en).toArray rfl (by exact B2.out.set 1 (.int .u16 a)) rfl ?_; obtain ⟨w3, hw3⟩ : ∃ w3, w3 = w2.setCell ⟨w.heap.size, 1, none⟩ (.int .u16 a) := ⟨_, rfl⟩; have KS : Kept [w.heap.size] w2 w3 := (by rw [hw3]; exact (Kept.refl _ _).setCell (Or.inl (by simp)) _); have T3 : Hid (TB Ba w3 p T1) := T2h.out.keptL KS (by intro i hi hl; rw [List.mem_singleton] at hi; subst hi; exact ⟨_, _, _, B2.out, by decide, by decide⟩); have K3 : Hid (KT Ba w w3) := K2.out.thenKept KS (by simp); rw [← hw3]; clear hw3 KS LK2 K2 T2h) | (refine wpList_brep rfl (.tmp 22) (.tmp 23) rfl k a id en rfl rfl ?_) | (go_at_call 31; refine (PUT.out _ T3.out).mono ?_; rintro e w4 ⟨rfl, t4, k4⟩; have T4 := Lib.hid t4; have K4 : Hid (KT Ba w w4) := K3.out.trans k4; clear t4 k4 PUT) | (go_at_call 32; refine (WF.out _ T4.out).mono ?_; rintro e w5 ⟨v, rfl, o5, k5⟩; obtain ⟨av, cv, rfl⟩ := own_slice o5; have T5 := Lib.hid (T4.out.kept0 k5); have K5 : Hid (KT Ba w w5) := K4.out.trans (KT.of_kept0 k5); have O5 := Lib.hid (ownsRow_low o5 K4.out.size); clear o5 k5 WF))
  have R0 : Hid (ReI Ba w w5 p T2 (.slice av l.length cv) l 0) := ⟨T5.out, K5.out, O5.out, Nat.zero_le _⟩
  have HLB : Hid (l.length ≤ 2000) := by have := HR2.out; show _ ≤ _; omega
  have d63 : (l.length : Int) < 9223372036854775807 := by have := HLB.out; omega
  clear T5 K5 O5 T4 K4 T3 K3 B2 e1 e2 f1 c1 FD
  go_loopw [30] (fun iv wr => ∃ j : Nat, iv = .int .i64 (j : Nat) ∧ Hid (ReI Ba w wr p T2 (.slice av l.length cv) l j)) (fun iv _ => l.length - (intOf iv).toNat)
  case atStart => exact ⟨0, rfl, R0⟩
  case round =>
    obtain ⟨j, rfl, RE⟩ := hrel
    by_cases hj : j < l.length
    · have j1 : (j : Int) < (l.length : Int) := by omega
      have j0 : (0 : Int) ≤ (j : Int) := by omega
      obtain ⟨g, hg, hcell⟩ := own_at RE.out.own (by omega)
      subst hg
      obtain ⟨f, hf⟩ : ∃ f, l[j]? = some f := ⟨_, List.getElem?_eq_getElem hj⟩
      have cf := hcell j f hf
      have hfm : f ∈ l := List.mem_of_getElem? hf
      have hf63 := HL63.out f hfm
      obtain ⟨T3, hT3⟩ : ∃ T3, T3 = (l.take j).foldl stepF T2 := ⟨_, rfl⟩
      have hTB := RE.out.tb
      rw [← hT3] at hTB
      have hrow3 : T3.row.length ≤ 1999 := by rw [hT3, foldF_row, List.length_take]; have := HR2.out; omega
      have hsucc : (l.take (j + 1)).foldl stepF T2 = stepF T3 f := by
        have e1 : l[j] = f := by rw [List.getElem?_eq_getElem hj] at hf; exact Option.some.inj hf
        rw [List.take_succ_eq_append_getElem hj, List.foldl_append, hT3, e1]
        rfl
      have MV6 := Lib.hid (move_any hTB f 5 6 hf63 (by decide))
      have hrow4 : (T3.mv f 5 6).row.length ≤ 2000 := by
        have : (T3.mv f 5 6).row = T3.row := by unfold TS.mv; split <;> rfl
        rw [this]; omega
      have PF : Hid (∀ w', TB Ba w' p (T3.mv f 5 6) → Calls Try.prog 33 #[.pointer (some ⟨p, 0, none⟩), .int .i64 f] w' fun r w'' => r = .returned (.tuple #[]) ∧ TB Ba w'' p (stepF T3 f) ∧ KT Ba w' w'') := fun w' h' => putRflush_any h' hrow4 f hf63
      have FIN : Hid (∀ w', TB Ba w' p (stepF T3 f) → KT Ba wr w' → ReI Ba w w' p T2 (.slice (some ⟨g, 0, none⟩) l.length cv) l (j + 1)) := fun w' h1 h2 => ⟨by rw [hsucc]; exact h1, RE.out.kt.trans h2, ownsRow_kt RE.out.own h2 (by decide) (by decide), by omega⟩
      clear hf hcell hT3 hTB hsucc hrow3 hrow4 hfm hf63 RE R0
      go_wp2_with (first | (go_at_call 30; refine MV6.out.mono ?_; rintro e w6 ⟨rfl, t6, k6⟩; have T6 := Lib.hid t6; have K6 := Lib.hid k6; clear t6 k6 MV6) | (go_at_call 33; refine (PF.out _ T6.out).mono ?_; rintro e w7 ⟨rfl, t7, k7⟩; have F7 := Lib.hid (FIN.out _ t7 (K6.out.trans k7)); clear t7 k7 PF))
      go_roundw
      case rel => exact ⟨j + 1, by go_num, F7⟩
      case measure => simp [intOf]; omega
    · have j1 : ¬ (j : Int) < (l.length : Int) := by omega
      have ej : j = l.length := by have := RE.out.le; omega
      have FT : Hid (TB Ba wr p (l.foldl stepF T2)) := by
        have := RE.out.tb
        rw [ej, List.take_length] at this
        exact this
      have FK := Lib.hid RE.out.kt
      clear ej RE R0
      go_wp2_with fail
      go_ret
      exact ⟨rfl, FT.out, FK.out⟩
end
end Tg
end Go.Proofs.Ytjogpafbiackbaa
