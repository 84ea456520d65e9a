/- tags: take, free, move, flushOf. -/
import Derived.Test.YtjogpafbiackbaaTgb
namespace Go.Proofs.Ytjogpafbiackbaa
set_option linter.unusedVariables false
open Go.RowKit
namespace Tg
open Go.Proofs.Ytjogpafbiackbaa.Mpf Go.PlainAid
section
variable {Ba : Nat} {w : World} {p rm gm : Nat} {s : Value} {nR : Nat} {T : TS}

def TS.take (T : TS) (id : Nat) (r : Rq) : TS := { T with last := id, nG := if (T.G r.tag).isSome then T.nG else T.nG + 1, G := put T.G r.tag (some id), R := put T.R id (some r) }
theorem isSome_map {α β : Type} (o : Option α) (g : α → β) : (o.map g).isSome = o.isSome := by cases o <;> rfl
theorem upd_map {k : TypeId} {M : MapK Try.prog k Nat} {b n : Nat} {α : Type} {g : α → Value} {f : Nat → Option α} (h : Mp M w b n (fun x => (f x).map g)) {t e : TypeId} (ht : Try.prog.underlying t = some (.map k e)) {x : Nat} (hx : M.ok x) (v : α) :
    ∃ w', (Instr.mapUpdate t (.map (some b)) (M.enc x) (g v)).run Try.prog w = .ok () w' ∧ Mp M w' b (if (f x).isSome then n else n + 1) (fun y => (put f x (some v) y).map g) ∧ Kept [b] w w' ∧ w'.heap.size = w.heap.size := by
  obtain ⟨w', h1, h2, h3⟩ := h.update ht hx (g v)
  refine ⟨w', h1, ?_, h3⟩
  have e := map_put g f x (some v)
  rw [show some (g v) = (some v).map g from rfl, e, isSome_map] at h2
  exact h2
theorem drop_map {k : TypeId} {M : MapK Try.prog k Nat} {b n : Nat} {α : Type} {g : α → Value} {f : Nat → Option α} (h : Mp M w b n (fun x => (f x).map g)) {t e : TypeId} (ht : Try.prog.underlying t = some (.map k e)) {x : Nat} (hx : M.ok x) (ty : TypeId) :
    ∃ w', (Builtin.delete_ #[t, k] ty #[.map (some b), M.enc x]).run Try.prog w = .ok (.tuple #[]) w' ∧ Mp M w' b (if (f x).isSome then n - 1 else n) (fun y => (put f x none y).map g) ∧ Kept [b] w w' ∧ w'.heap.size = w.heap.size := by
  obtain ⟨w', h1, h2, h3⟩ := h.drop ht hx ty
  refine ⟨w', h1, ?_, h3⟩
  have e := map_put g f x none
  rw [show (none : Option Value) = (none : Option α).map g from rfl, e, isSome_map] at h2
  exact h2
/-- What 'take' does, step by step. -/
theorem take_steps (h : TBx Ba w p rm gm s nR T) (id : Nat) (r : Rq) (hid : id < 9223372036854775808) (ht : r.tag < 65536) :
    ∃ w2 w3, (Instr.mapUpdate 73 (.map (some gm)) (.int .u16 r.tag) (.int .i64 id)).run Try.prog ((w.alloc (.cells #[.int .u16 r.tag, .int .u8 r.st, .int .i64 r.fo] 80)).setCell ⟨p, 1, none⟩ (.int .i64 id)).drew = .ok () w2 ∧
      (Instr.mapUpdate 74 (.map (some rm)) (.int .i64 id) (.agg #[.int .u16 r.tag, .int .u8 r.st, .int .i64 r.fo])).run Try.prog w2.drew = .ok () w3 ∧
      w2.drew.cell? ⟨p, 2, none⟩ = some (.map (some rm)) ∧ Bx w2.drew w.heap.size 80 #[.int .u16 r.tag, .int .u8 r.st, .int .i64 r.fo] ∧
      (∃ nR', TBx Ba w3 p rm gm s nR' (T.take id r)) ∧ Kept [p, gm, rm] w w3 := by
  have hlt := h.box.lt
  have hA := Bx.made w 80 #[.int .u16 r.tag, .int .u8 r.st, .int .i64 r.fo]
  obtain ⟨wa, hwa⟩ : ∃ wa, wa = w.alloc (.cells #[.int .u16 r.tag, .int .u8 r.st, .int .i64 r.fo] 80) := ⟨_, rfl⟩
  rw [← hwa] at hA ⊢
  have ka : Kept [] w wa := by rw [hwa]; exact (Kept.refl _ _).alloc _
  have ha := h.kept0 ka
  have b1 := ha.box.set 1 (.int .i64 id)
  have k1 : Kept [p] wa (wa.setCell ⟨p, 1, none⟩ (.int .i64 id)) := (Kept.refl _ _).setCell (Or.inl (by simp)) _
  have m1 := ha.rmap.kept k1 (by simpa using fun e => h.prm e.symm)
  have g1 := ha.gmap.kept k1 (by simpa using fun e => h.pgm e.symm)
  have hA1 := hA.kept k1 (by simp; omega)
  obtain ⟨w1, hw1⟩ : ∃ w1, w1 = (wa.setCell ⟨p, 1, none⟩ (.int .i64 id)) := ⟨_, rfl⟩
  rw [← hw1] at b1 k1 m1 g1 hA1 ⊢
  have r1 := ha.row.kept k1 (fun g hg => by simpa using h.sp g hg)
  obtain ⟨w2, hU2, M2, k2, z2⟩ := upd_map (g1.drew) Try.underlying73 (x := r.tag) ht id
  have k2' : Kept [gm] w1 w2 := ((Kept.refl [gm] w1).drew).trans k2 (fun i hi => Or.inl hi)
  have b2 : Bx w2 p 77 #[.int .i64 T.most, .int .i64 id, .map (some rm), .map (some gm), s] := b1.kept k2' (by simpa using h.pgm)
  have m2 := m1.kept k2' (by simpa using h.ne)
  have hA2 : Bx w2 w.heap.size 80 #[.int .u16 r.tag, .int .u8 r.st, .int .i64 r.fo] := hA1.kept k2' (by have := h.gmap.lt; simp; omega)
  have r2 := r1.kept k2' (fun g hg => by simpa using h.sgm g hg)
  obtain ⟨w3, hU3, M3, k3, z3⟩ := upd_map (m2.drew) Try.underlying74 (x := id) hid r
  have k3' : Kept [rm] w2 w3 := ((Kept.refl [rm] w2).drew).trans k3 (fun i hi => Or.inl hi)
  have b3 := b2.kept k3' (by simpa using h.prm)
  have g3 := M2.kept k3' (by simpa using fun e => h.ne e.symm)
  have r3 := r2.kept k3' (fun g hg => by simpa using h.srm g hg)
  have KK : Kept [p, gm, rm] w w3 := ((((ka.mono (T := [p, gm, rm]) (by simp)).trans k1 (by simp)).trans k2' (by simp)).trans k3' (by simp))
  refine ⟨w2, w3, hU2, hU3, b2.drew.cell 2 rfl, hA2.drew, ⟨_, ⟨b3, M3, g3, r3, h.ne, h.hp, h.hr, h.hg, h.hs⟩⟩, KK⟩
set_option maxRecDepth 100000 in
theorem take_any (h : TB Ba w p T) (id : Nat) (r : Rq) (hid : id < 9223372036854775808) (ht : r.tag < 65536) :
    Calls Try.prog 35 #[.pointer (some ⟨p, 0, none⟩), .int .i64 id, .agg #[.int .u16 r.tag, .int .u8 r.st, .int .i64 r.fo]] w fun e w' => e = .returned (.tuple #[]) ∧ TB Ba w' p (T.take id r) ∧ KT Ba w w' := by
  obtain ⟨rm, gm, s, nR, h⟩ := h
  obtain ⟨w2, w3, hU2, hU3, c2, hA2, ⟨nR', T3⟩, K3⟩ := take_steps h id r hid ht
  have B0 := (h.kept0 ((Kept.refl [] w).alloc (.cells #[.int .u16 r.tag, .int .u8 r.st, .int .i64 r.fo] 80))).box
  have c1 := B0.cell 1 (v := .int .i64 T.last) rfl
  have f1 := B0.frozen 1
  have a0 := hA2.cell 0 (v := .int .u16 r.tag) rfl
  have a1 := hA2.cell 1 (v := .int .u8 r.st) rfl
  have a2 := hA2.cell 2 (v := .int .i64 r.fo) rfl
  have HT := Lib.hid T3
  have HK : Hid (KT Ba w w3) := h.kt K3 (by simp)
  have B1 := (((h.kept0 ((Kept.refl [] w).alloc (.cells #[.int .u16 r.tag, .int .u8 r.st, .int .i64 r.fo] 80))).box).set 1 (.int .i64 id)).drew
  have d3 := B1.cell 3 (v := .map (some gm)) rfl
  have A1 : Bx ((w.alloc (.cells #[.int .u16 r.tag, .int .u8 r.st, .int .i64 r.fo] 80)).setCell ⟨p, 1, none⟩ (.int .i64 id)).drew w.heap.size 80 #[.int .u16 r.tag, .int .u8 r.st, .int .i64 r.fo] := (Bx.other (Bx.made w _ _) (by have := h.box.lt; simp; omega) _).drew
  have e0 := A1.cell 0 (v := .int .u16 r.tag) rfl
  have PO : Hid (∀ (e : Ending) w', e = .returned (.tuple #[]) ∧ w3 = w' → e = .returned (.tuple #[]) ∧ TB Ba w' p (T.take id r) ∧ KT Ba w w') := fun e w' ⟨h1, h2⟩ => by subst h2; exact ⟨h1, ⟨_, _, _, _, HT.out⟩, HK.out⟩
  clear h T3 K3 B0 B1 A1 hA2 hid ht
  go_enter Try.func35, Try.ntmps35
  go_wp2_with fail
  go_region
  go_wp2_with fail
  go_region
  go_wp2_with fail
  refine bodyPost_end (results_none rfl _ _ _) rfl ?_
  exact PO.out _ _ ⟨rfl, rfl⟩
def TS.free (T : TS) (id : Nat) : TS := { T with nG := if (T.G (T.get id).tag).isSome then T.nG - 1 else T.nG, G := put T.G (T.get id).tag none, R := put T.R id none }
theorem field0 (a b c : Int) : ∀ W', (Instr.field 80 (.agg #[.int .u16 a, .int .u8 b, .int .i64 c]) 0).run Try.prog W' = .ok (.int .u16 a) W' := fun _ => by kernel_rfl
theorem field1 (a b c : Int) : ∀ W', (Instr.field 80 (.agg #[.int .u16 a, .int .u8 b, .int .i64 c]) 1).run Try.prog W' = .ok (.int .u8 b) W' := fun _ => by kernel_rfl
theorem field2 (a b c : Int) : ∀ W', (Instr.field 80 (.agg #[.int .u16 a, .int .u8 b, .int .i64 c]) 2).run Try.prog W' = .ok (.int .i64 c) W' := fun _ => by kernel_rfl
theorem free_steps (h : TBx Ba w p rm gm s nR T) (id : Nat) (hid : id < 9223372036854775808) (ht : (T.get id).tag < 65536) :
    ∃ w2 w3, (Builtin.delete_ #[73, 37] 0 #[.map (some gm), .int .u16 (T.get id).tag]).run Try.prog w.drew = .ok (.tuple #[]) w2 ∧
      (Builtin.delete_ #[74, 3] 0 #[.map (some rm), .int .i64 id]).run Try.prog w2 = .ok (.tuple #[]) w3 ∧
      Bx w2 p 77 #[.int .i64 T.most, .int .i64 T.last, .map (some rm), .map (some gm), s] ∧
      (∃ nR', TBx Ba w3 p rm gm s nR' (T.free id)) ∧ Kept [gm, rm] w w3 := by
  obtain ⟨w2, hU2, M2, k2, z2⟩ := drop_map (h.gmap.drew) Try.underlying73 (x := (T.get id).tag) ht 0
  have k2' : Kept [gm] w w2 := ((Kept.refl [gm] w).drew).trans k2 (fun i hi => Or.inl hi)
  have b2 := h.box.kept k2' (by simpa using h.pgm)
  have m2 := h.rmap.kept k2' (by simpa using h.ne)
  have r2 := h.row.kept k2' (fun g hg => by simpa using h.sgm g hg)
  obtain ⟨w3, hU3, M3, k3, z3⟩ := drop_map m2 Try.underlying74 (x := id) hid 0
  have b3 := b2.kept k3 (by simpa using h.prm)
  have g3 := M2.kept k3 (by simpa using fun e => h.ne e.symm)
  have r3 := r2.kept k3 (fun g hg => by simpa using h.srm g hg)
  exact ⟨w2, w3, hU2, hU3, b2, ⟨_, ⟨b3, M3, g3, r3, h.ne, h.hp, h.hr, h.hg, h.hs⟩⟩, (k2'.mono (T := [gm, rm]) (by simp)).trans k3 (by simp)⟩
set_option maxRecDepth 100000 in
theorem free_any (h : TB Ba w p T) (id : Nat) (hid : id < 9223372036854775808) (ht : (T.get id).tag < 65536) :
    Calls Try.prog 45 #[.pointer (some ⟨p, 0, none⟩), .int .i64 id] w fun e w' => e = .returned (.tuple #[]) ∧ TB Ba w' p (T.free id) ∧ KT Ba w w' ∧ KC w w' := by
  obtain ⟨rm, gm, s, nR, h⟩ := h
  obtain ⟨w2, w3, hU2, hU3, B2, ⟨nR', T3⟩, K3⟩ := free_steps h id hid ht
  have LK := (h.kept0 (Kept.refl [] w).drew).look id hid
  have c2 := h.box.cell 2 (v := .map (some rm)) rfl
  have c3 := h.box.cell 3 (v := .map (some gm)) rfl
  have c2d := h.box.drew.cell 2 (v := .map (some rm)) rfl
  have c3d := h.box.drew.cell 3 (v := .map (some gm)) rfl
  have d2 := B2.cell 2 (v := .map (some rm)) rfl
  have HT := Lib.hid T3
  have HK : Hid (KT Ba w w3 ∧ KC w w3) := ⟨h.kt K3 (by simp), KC.of_kept K3 (fun i hi cs t z q => by
    simp at hi
    rcases hi with rfl | rfl
    · exact h.gmap.ne q rfl
    · exact h.rmap.ne q rfl)⟩
  have PO : Hid (∀ (e : Ending) w', e = .returned (.tuple #[]) ∧ w3 = w' → e = .returned (.tuple #[]) ∧ TB Ba w' p (T.free id) ∧ KT Ba w w' ∧ KC w w') := fun e w' ⟨h1, h2⟩ => by subst h2; exact ⟨h1, ⟨_, _, _, _, HT.out⟩, HK.out⟩
  obtain ⟨a, ha⟩ : ∃ a, a = (T.get id).tag := ⟨_, rfl⟩
  obtain ⟨b, hb⟩ : ∃ b, b = (T.get id).st := ⟨_, rfl⟩
  obtain ⟨c, hc⟩ : ∃ c, c = (T.get id).fo := ⟨_, rfl⟩
  rw [← ha, ← hb, ← hc] at LK
  rw [← ha] at hU2
  have FD := field0 a b c
  clear h T3 K3 B2 hid ht HT HK ha hb hc
  go_enter Try.func45, Try.ntmps45
  go_wp2_with fail
  go_region
  go_wp2_with fail
  refine bodyPost_end (results_none rfl _ _ _) rfl ?_
  exact PO.out _ _ ⟨rfl, rfl⟩
/-- From one state on to another one. -/
def TS.mv (T : TS) (id a b : Nat) : TS := if (T.get id).st = a then { T with R := put T.R id (some ⟨(T.get id).tag, b, (T.get id).fo⟩) } else T
def mvB (T : TS) (id a : Nat) : Bool := decide ((T.get id).st = a)
theorem move_steps (h : TBx Ba w p rm gm s nR T) (id b : Nat) (hid : id < 9223372036854775808) :
    ∃ w3, (Instr.mapUpdate 74 (.map (some rm)) (.int .i64 id) (.agg #[.int .u16 (T.get id).tag, .int .u8 b, .int .i64 (T.get id).fo])).run Try.prog w = .ok () w3 ∧
      (∃ nR', TBx Ba w3 p rm gm s nR' { T with R := put T.R id (some ⟨(T.get id).tag, b, (T.get id).fo⟩) }) ∧ Kept [p, gm, rm] w w3 := by
  obtain ⟨w3, hU3, M3, k3, z3⟩ := upd_map h.rmap Try.underlying74 (x := id) hid (⟨(T.get id).tag, b, (T.get id).fo⟩ : Rq)
  have b3 := h.box.kept k3 (by simpa using h.prm)
  have g3 := h.gmap.kept k3 (by simpa using fun e => h.ne e.symm)
  have r3 := h.row.kept k3 (fun g hg => by simpa using h.srm g hg)
  exact ⟨w3, hU3, ⟨_, ⟨b3, M3, g3, r3, h.ne, h.hp, h.hr, h.hg, h.hs⟩⟩, k3.mono (by simp)⟩
set_option maxRecDepth 100000 in
theorem move_any (h : TB Ba w p T) (id a b : Nat) (hid : id < 9223372036854775808) (ha : a < 256) :
    Calls Try.prog 30 #[.pointer (some ⟨p, 0, none⟩), .int .i64 id, .int .u8 a, .int .u8 b] w fun e w' => e = .returned (.bool (mvB T id a)) ∧ TB Ba w' p (T.mv id a b) ∧ KT Ba w w' := by
  obtain ⟨rm, gm, s, nR, h⟩ := h
  have LK := h.look id hid
  have c2 := h.box.cell 2 (v := .map (some rm)) rfl
  obtain ⟨W, hW⟩ : ∃ W, W = (w.alloc (.cells #[.int .u16 (T.get id).tag, .int .u8 (T.get id).st, .int .i64 (T.get id).fo] 80)) := ⟨_, rfl⟩
  have KA : Kept [] w W := by rw [hW]; exact (Kept.refl _ _).alloc _
  by_cases q : (T.get id).st = a
  · have e1 : mvB T id a = true := by unfold mvB; rw [decide_eq_true q]
    have e2 : T.mv id a b = { T with R := put T.R id (some ⟨(T.get id).tag, b, (T.get id).fo⟩) } := by unfold TS.mv; rw [if_pos q]
    rw [e1, e2]
    have BB := Bx.made w 80 #[.int .u16 (T.get id).tag, .int .u8 b, .int .i64 (T.get id).fo]
    have KD : Kept [] w (w.alloc (.cells #[.int .u16 (T.get id).tag, .int .u8 b, .int .i64 (T.get id).fo] 80)).drew := ((Kept.refl _ _).alloc _).drew
    obtain ⟨w3, hU3, ⟨nR', T3⟩, K3⟩ := move_steps (h.kept0 KD) id b hid
    have HT := Lib.hid T3
    have HK : Hid (KT Ba w w3) := (KT.of_kept0 KD).trans ((h.kept0 KD).kt K3 (by simp))
    have PO : Hid (∀ (e : Ending) w', e = .returned (.bool true) ∧ w3 = w' → e = .returned (.bool true) ∧ TB Ba w' p { T with R := put T.R id (some ⟨(T.get id).tag, b, (T.get id).fo⟩) } ∧ KT Ba w w') := fun e w' ⟨h1, h2⟩ => by subst h2; exact ⟨h1, ⟨_, _, _, _, HT.out⟩, HK.out⟩
    have d2 := ((h.kept0 KD).box).cell 2 (v := .map (some rm)) rfl
    have x0 := BB.drew.cell 0 (v := .int .u16 (T.get id).tag) rfl
    have x1 := BB.drew.cell 1 (v := .int .u8 b) rfl
    have x2 := BB.drew.cell 2 (v := .int .i64 (T.get id).fo) rfl
    subst q
    obtain ⟨a1, ha1⟩ : ∃ a, a = (T.get id).tag := ⟨_, rfl⟩
    obtain ⟨b1, hb1⟩ : ∃ b, b = (T.get id).st := ⟨_, rfl⟩
    obtain ⟨c1, hc1⟩ : ∃ c, c = (T.get id).fo := ⟨_, rfl⟩
    rw [← hb1] at LK
    rw [← ha1, ← hc1] at LK hU3 d2 x0 x1 x2
    rw [← hb1]
    rw [← ha1, ← hc1] at PO ⊢
    clear h T3 K3 HT HK hid ha KA BB KD hW e1 e2 ha1 hb1 hc1
    go_enter Try.func30, Try.ntmps30
    go_wp2_with fail
    go_region
    go_wp2_with fail
    go_ret
    exact PO.out _ _ ⟨rfl, rfl⟩
  · have e1 : mvB T id a = false := by unfold mvB; rw [decide_eq_false q]
    have e2 : T.mv id a b = T := by unfold TS.mv; rw [if_neg q]
    rw [e1, e2]
    have d : (((T.get id).st : Int) == (a : Int)) = false := by simp; omega
    have d' : ¬ ((T.get id).st : Int) = (a : Int) := by omega
    have PO : Hid (∀ (e : Ending) w', e = .returned (.bool false) ∧ Kept [] w w' → e = .returned (.bool false) ∧ TB Ba w' p T ∧ KT Ba w w') := fun e w' ⟨h1, h2⟩ => ⟨h1, ⟨_, _, _, _, h.kept0 h2⟩, KT.of_kept0 h2⟩
    have HKA := Lib.hid KA
    rw [hW] at HKA
    obtain ⟨a1, ha1⟩ : ∃ a, a = (T.get id).tag := ⟨_, rfl⟩
    obtain ⟨b1, hb1⟩ : ∃ b, b = (T.get id).st := ⟨_, rfl⟩
    obtain ⟨c1, hc1⟩ : ∃ c, c = (T.get id).fo := ⟨_, rfl⟩
    rw [← ha1, ← hb1, ← hc1] at LK HKA
    rw [← hb1] at d d'
    clear h hid ha KA hW e1 e2 ha1 hb1 hc1 q
    go_enter Try.func30, Try.ntmps30
    go_wp2_with fail
    go_ret
    exact PO.out _ _ ⟨rfl, HKA.out⟩
end
end Tg
end Go.Proofs.Ytjogpafbiackbaa
