/- tags: New, Begin, Flush, Decide, Say. -/
import Derived.Test.YtjogpafbiackbaaTgj
namespace Go.Proofs.Ytjogpafbiackbaa
set_option linter.unusedVariables false
open Go.RowKit Go.Shelf
namespace Tg
open Go.Proofs.Ytjogpafbiackbaa.Mpf Go.PlainAid
section
variable {Ba : Nat} {w : World} {p rm gm : Nat} {s : Value} {nR : Nat} {T : TS}
def T0 : TS := ⟨8, 0, 0, fun _ => none, fun _ => none, []⟩
set_option maxRecDepth 100000 in
theorem New_any (w : World) : Calls Try.prog 18 #[.int .i64 8] w fun e w' => ∃ p, e = .returned (.tuple #[.pointer (some ⟨p, 0, none⟩), .int .i64 0]) ∧ w.heap.size ≤ p ∧ TB w.heap.size w' p T0 ∧ Kept [] w w' := by
  have M1 := Mp.made IK w
  have M2 := Mp.made K16 (w.alloc (.map #[] 0))
  have M1a := (M1.alloc (.map #[] 0)).alloc (.cells #[.int .i64 8, .int .i64 0, .map (some w.heap.size), .map (some (w.heap.size + 1)), .slice none 0 0] 77)
  have e1 : (w.alloc (.map #[] 0)).heap.size = w.heap.size + 1 := by simp
  rw [e1] at M2
  have M2a := M2.alloc (.cells #[.int .i64 8, .int .i64 0, .map (some w.heap.size), .map (some (w.heap.size + 1)), .slice none 0 0] 77)
  have B0 := Bx.made ((w.alloc (.map #[] 0)).alloc (.map #[] 0)) 77 #[.int .i64 8, .int .i64 0, .map (some w.heap.size), .map (some (w.heap.size + 1)), .slice none 0 0]
  have e2 : ((w.alloc (.map #[] 0)).alloc (.map #[] 0)).heap.size = w.heap.size + 1 + 1 := by simp
  rw [e2] at B0
  have FIN : Hid (TB w.heap.size (((w.alloc (.map #[] 0)).alloc (.map #[] 0)).alloc (.cells #[.int .i64 8, .int .i64 0, .map (some w.heap.size), .map (some (w.heap.size + 1)), .slice none 0 0] 77)) (w.heap.size + 1 + 1) T0) :=
    ⟨w.heap.size, w.heap.size + 1, .slice none 0 0, 0, ⟨B0, M1a, M2a, Ro.nil _, by omega, by omega, by omega, by omega, fun g hg => by simp [Value.ownBlock] at hg⟩⟩
  have KK : Hid (Kept [] w (((w.alloc (.map #[] 0)).alloc (.map #[] 0)).alloc (.cells #[.int .i64 8, .int .i64 0, .map (some w.heap.size), .map (some (w.heap.size + 1)), .slice none 0 0] 77))) := (((Kept.refl _ _).alloc _).alloc _).alloc _
  have hmm := @run_makeMap Try.prog
  clear M1 M2 M1a M2a B0 e1 e2
  go_enter Try.func18, Try.ntmps18
  go_wp2_with fail
  go_ret2
  exact ⟨_, rfl, by omega, FIN.out, KK.out⟩
/-- What a table must be for its calls. -/
structure Ok (T : TS) : Prop where
  bd : Bd T
  dom : ∀ id q, T.R id = some q → id ≤ T.last
  last : T.last ≤ 400
  nG : T.nG ≤ 100
  most : T.most = 8
  rowl : T.row.length + T.last + 4 ≤ 2000
set_option maxRecDepth 100000 in
theorem Begin_no (h : TB Ba w p T) (hT : Ok T) (tag id : Nat) (ht : tag < 65536) (hid : id < 4611686018427387904) {E : Int} (hE : refE T tag id = E) (hE0 : E ≠ 0) :
    Calls Try.prog 17 #[.pointer (some ⟨p, 0, none⟩), .int .u16 tag, .int .i64 id] w fun e w' => e = .returned (.int .i64 E) ∧ TB Ba w' p T ∧ KT Ba w w' := by
  have l1 := hT.last
  have l2 := hT.nG
  have l3 := hT.most
  obtain ⟨rm, gm, s, nR, h⟩ := h
  have RF := Lib.hid (refusal_x h tag id ht (by omega) (by omega) (by omega) (by omega))
  rw [hE] at RF
  have HT := Lib.hid h
  have d : (E == 0) = false := by simpa using hE0
  clear h hT ht hid hE l1 l2 l3
  go_enter Try.func17, Try.ntmps17
  go_wp2_with (go_at_call 34; refine RF.out.mono ?_; rintro e w2 ⟨rfl, k2⟩; have K2 := Lib.hid k2; clear k2)
  go_ret
  exact ⟨rfl, ⟨_, _, _, _, HT.out.kept0 K2.out⟩, KT.of_kept0 K2.out⟩
set_option maxRecDepth 100000 in
theorem Begin_ok (h : TB Ba w p T) (hT : Ok T) (tag id : Nat) (ht : tag < 65536) (hid : id < 4611686018427387904) (hE : refE T tag id = 0) :
    Calls Try.prog 17 #[.pointer (some ⟨p, 0, none⟩), .int .u16 tag, .int .i64 id] w fun e w' => e = .returned (.int .i64 0) ∧ TB Ba w' p (T.take id ⟨tag, 1, 0⟩) ∧ KT Ba w w' := by
  have l1 := hT.last
  have l2 := hT.nG
  have l3 := hT.most
  obtain ⟨rm, gm, s, nR, h⟩ := h
  have RF := Lib.hid (refusal_x h tag id ht (by omega) (by omega) (by omega) (by omega))
  rw [hE] at RF
  have TK : Hid (∀ w', Kept [] w w' → Calls Try.prog 35 #[.pointer (some ⟨p, 0, none⟩), .int .i64 id, .agg #[.int .u16 tag, .int .u8 1, .int .i64 0]] w' fun e w'' => e = .returned (.tuple #[]) ∧ TB Ba w'' p (T.take id ⟨tag, 1, 0⟩) ∧ KT Ba w' w'') := fun w' k => take_any ⟨_, _, _, _, h.kept0 k⟩ id ⟨tag, 1, 0⟩ (by omega) ht
  clear h hT ht hid hE l1 l2 l3
  go_enter Try.func17, Try.ntmps17
  go_wp2_with (first | (go_at_call 34; refine RF.out.mono ?_; rintro e w2 ⟨rfl, k2⟩; have K2 := Lib.hid k2; clear k2) | (go_at_call 35; refine (TK.out _ K2.out).mono ?_; rintro e w3 ⟨rfl, t3, k3⟩; have T3 := Lib.hid t3; have K3 := Lib.hid k3; clear t3 k3))
  go_ret
  exact ⟨rfl, T3.out, (KT.of_kept0 K2.out).trans K3.out⟩
set_option maxRecDepth 100000 in
theorem Decide_any (h : TB Ba w p T) (id : Nat) (hid : id < 9223372036854775808) :
    Calls Try.prog 15 #[.pointer (some ⟨p, 0, none⟩), .int .i64 id] w fun e w' => e = .returned (.bool (mvB T id 1)) ∧ TB Ba w' p (T.mv id 1 3) ∧ KT Ba w w' := by
  have MV : Hid (Calls Try.prog 30 #[.pointer (some ⟨p, 0, none⟩), .int .i64 id, .int .u8 1, .int .u8 3] w fun e w' => e = .returned (.bool (mvB T id 1)) ∧ TB Ba w' p (T.mv id 1 3) ∧ KT Ba w w') := move_any h id 1 3 hid (by decide)
  clear h hid
  go_enter Try.func15, Try.ntmps15
  go_wp2_with (go_at_call 30; refine MV.out.mono ?_; rintro e w2 ⟨rfl, t2, k2⟩; have T2 := Lib.hid t2; have K2 := Lib.hid k2; clear t2 k2)
  go_ret
  exact ⟨rfl, T2.out, K2.out⟩
theorem run_brep3 (k : Int) (t id : Nat) (en : ByteArray) (w : World) : (Instr.build 84 #[(0, .agg (msgC k t en).toArray), (1, .int .i64 id), (2, .bool true)]).run Try.prog w = .ok (.agg (Rep.C ⟨k, t, en, id, true⟩).toArray) w := by kernel_rfl
theorem wpList_brep3 {w : World} {ops : Array Oper} {rest : List Oper} {o : Oper} {a : Act} {Q : Exit → Act → World → Prop} (hgd : o.guard = none) (x y : Operand) (ho : o.op = .build 84 #[(0, x), (1, y), (2, .const (.bool true))]) (k : Int) (t id : Nat) (en : ByteArray)
    (hx : a.eval x = .agg (msgC k t en).toArray) (hy : a.eval y = .int .i64 id) (hz : a.eval (.const (.bool true)) = .bool true) (hK : wpList Try.prog ops Q rest (a.put o.dst (.agg (Rep.C ⟨k, t, en, id, true⟩).toArray)) w) : wpList Try.prog ops Q (o :: rest) a w :=
  wpList_plain hgd fun K hK' => by
    unfold Oper.wp execOp
    simp only [ho, List.map_toArray, List.map_cons, List.map_nil, hx, hy, hz, Sem.run_bind, run_brep3, Result.andThen_ok, Sem.run_pure]
    exact hK' _ _ hK
set_option maxRecDepth 100000 in
theorem Say_any (h : TB Ba w p T) (hrow : T.row.length ≤ 2000) (id : Nat) (k : Int) (t0 : Nat) (en : ByteArray) :
    Calls Try.prog 21 #[.pointer (some ⟨p, 0, none⟩), .int .i64 id, .agg (msgC k t0 en).toArray] w fun e w' => e = .returned (.tuple #[]) ∧ TB Ba w' p (T.push ⟨k, t0, en, id, true⟩) ∧ KT Ba w w' := by
  have KA : Hid (Kept [] w (w.alloc (.cells (msgC k t0 en).toArray 57))) := (Kept.refl _ _).alloc _
  have B0 : Hid (Bx (w.alloc (.cells (msgC k t0 en).toArray 57)) w.heap.size 57 (msgC k t0 en).toArray) := Bx.made _ _ _
  have PUT := Lib.hid (put_any (h.kept0 KA.out) hrow ⟨k, t0, en, id, true⟩)
  clear h hrow
  go_enter Try.func21, Try.ntmps21
  go_wp2_with (first | (refine wpList_lmsg rfl (.tmp 5) rfl w.heap.size (msgC k t0 en).toArray rfl B0.out rfl ?_) | (refine wpList_brep3 rfl (.tmp 7) (.tmp 8) rfl k t0 id en rfl rfl rfl ?_) | (go_at_call 31; refine PUT.out.mono ?_; rintro e w2 ⟨rfl, t2, k2⟩; have T2 := Lib.hid t2; have K2 := Lib.hid k2; clear t2 k2))
  go_end0
  exact ⟨rfl, T2.out, (KT.of_kept0 KA.out).trans K2.out⟩
end
end Tg
end Go.Proofs.Ytjogpafbiackbaa
