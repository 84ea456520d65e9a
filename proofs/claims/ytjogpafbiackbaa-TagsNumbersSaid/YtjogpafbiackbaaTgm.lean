/- tags: Next. -/
import Derived.Test.YtjogpafbiackbaaTgk
namespace Go.Proofs.Ytjogpafbiackbaa
set_option linter.unusedVariables false
open Go.RowKit Go.Shelf
namespace Tg
open Go.Proofs.Ytjogpafbiackbaa.Mpf Go.PlainAid
section
variable {Ba : Nat} {w : World} {p rm gm : Nat} {s : Value} {nR : Nat} {T : TS}
def msg0 : Array Value := (msgC 0 0 ⟨#[]⟩).toArray
set_option maxHeartbeats 4000000 in
set_option maxRecDepth 100000 in
theorem Next_none (h : TB Ba w p T) (hrow : T.row = []) :
    Calls Try.prog 14 #[.pointer (some ⟨p, 0, none⟩)] w fun e w' => e = .returned (.tuple #[.agg msg0, .int .i64 0, .bool false]) ∧ Kept [] w w' := by
  obtain ⟨rm, gm, s, nR, h⟩ := h
  obtain ⟨a, c, hs, -, -⟩ := h.row.slice
  rw [hrow] at hs
  subst hs
  obtain ⟨Z, hZ⟩ : ∃ Z : Array Value, Z = #[.int .u8 0, .int .u16 0, .int .u32 0, .string ⟨#[]⟩, .int .u32 0, .string ⟨#[]⟩, .string ⟨#[]⟩, .string ⟨#[]⟩, .int .u16 0, .int .u32 0, .int .u32 0, .slice none 0 0, .slice none 0 0, .int .u8 0, .int .u32 0, .int .u64 0, .int .u8 0, .int .u32 0, .string ⟨#[]⟩, .int .u32 0, .int .u64 0, .int .u32 0, .slice none 0 0, .int .u16 0, .int .u32 0, .int .u8 0, .int .u32 0, .int .u64 0, .int .u32 0, .int .u32 0, .int .u32 0, .int .u64 0, .string ⟨#[]⟩, .string ⟨#[]⟩, .string ⟨#[]⟩, .string ⟨#[]⟩] := ⟨_, rfl⟩
  have HZ := Lib.hid hZ
  have ZM : Hid (Z = msg0) := by show _ = _; rw [hZ]; rfl
  have c4 := (h.kept0 ((Kept.refl [] w).alloc (.cells Z 57))).box.cell 4 (v := .slice a 0 c) rfl
  have A1 : Hid (Bx (w.alloc (.cells Z 57)) w.heap.size 57 Z) := Bx.made _ _ _
  have K1 : Hid (Kept [] w (w.alloc (.cells Z 57))) := (Kept.refl _ _).alloc _
  have ZS : Hid (Z.size = 36 ∧ Z.all (·.oneCell') = true) := by rw [hZ]; exact ⟨rfl, by simp [Value.oneCell']⟩
  rw [hZ] at c4
  clear h hrow hZ
  go_enter Try.func14, Try.ntmps14
  go_wp2_with (first | (refine wpList_smsg rfl (.tmp 2) (.tmp 12) rfl w.heap.size rfl Z Z (by rw [HZ.out]; rfl) (by rw [← HZ.out]; exact A1.out) ZS.out.1 ZS.out.1 ZS.out.2 ?_; intro w3 b3 k3; rw [← HZ.out] at k3))
  have hl := run_loadVar_row (P := Try.prog) w3 w.heap.size 57 57 _ (0, 0) _ b3 Try.underlying57 rfl (by rw [ZS.out.1]; exact size_msg)
  refine bodyPost_ret (v := .tuple #[.agg Z, .int .i64 0, .bool false]) (by simp [results, Try.results14, asAddr, hl]) rfl ⟨by rw [ZM.out], K1.out.trans k3 (fun i hi => Or.inr (by simp at hi; omega))⟩
theorem run_mid8 {P : Program} {o : Oper} {a : Act} {w : World} (ty : TypeId) (x : Operand) (ho : o.op = .load ty x) (b off : Nat) (hx : a.eval x = .pointer (some ⟨b, off, none⟩)) (cs : List Value) (d : TypeDesc) (hc : w.rangeAt b off cs) (hu : P.underlying ty = some d) (hd : d.isRow = true) (hi : (P.info? ty).map (·.size) = some cs.length) : (execOp a.eval o).run P w = .ok (.value (.agg cs.toArray)) w := by
  unfold execOp
  simp only [ho, hx, Instr.loadAt, Instr.sureAddr, Sem.run_bind, Sem.run_pure, Result.andThen_ok, run_loadVar_mid w b off ty cs d hc hu hd hi]
theorem any_store8 {P : Program} {ops : Array Oper} {Q : Exit → Act → World → Prop} {K : Act → World → Prop} {a : Act} {w : World} {o : Oper} {i : Nat} (hi : ops[i]? = some o) (hgd : o.guard = none) (ty : TypeId) (x y : Operand) (g : Nat) (cells : Array Value) (t : TypeId) (old : Array Value) (ho : o.op = .store ty x y) (hx : a.eval x = .pointer (some ⟨g, 0, none⟩)) (hy : a.eval y = .agg cells) (hg : w.heap[g]? = some (.cells old t (0, 0))) (hs : (P.info? ty).map (·.size) = some cells.size) (hold : old.size = cells.size) (h1 : cells.all (·.oneCell') = true) (h : K (a.put o.dst undef) (w.setRow g cells)) : wpOp P ops Q i K a w :=
  any_wp hi hgd (wp_store_row ty x y ho g cells hx hy t old hg hs hold h1 h)
def TS.next (T : TS) (e : Rep) : TS := if e.apart = true then T.cut else T.cut.writ e.id
set_option maxHeartbeats 8000000 in
set_option maxRecDepth 100000 in
theorem Next_some (h : TB Ba w p T) (hB : Bd T) (e : Rep) (q : List Rep) (hrow : T.row = e :: q) (hid : e.id < 9223372036854775808) :
    Calls Try.prog 14 #[.pointer (some ⟨p, 0, none⟩)] w fun r w' => r = .returned (.tuple #[.agg e.V.toArray, .int .i64 e.id, .bool true]) ∧ TB Ba w' p (T.next e) ∧ KT Ba w w' := by
  obtain ⟨E, hE⟩ : ∃ E, E = e.C.toArray := ⟨_, rfl⟩
  obtain ⟨V, hV⟩ : ∃ V, V = e.V.toArray := ⟨_, rfl⟩
  obtain ⟨Z, hZ⟩ : ∃ Z : Array Value, Z = #[.int .u8 0, .int .u16 0, .int .u32 0, .string ⟨#[]⟩, .int .u32 0, .string ⟨#[]⟩, .string ⟨#[]⟩, .string ⟨#[]⟩, .int .u16 0, .int .u32 0, .int .u32 0, .slice none 0 0, .slice none 0 0, .int .u8 0, .int .u32 0, .int .u64 0, .int .u8 0, .int .u32 0, .string ⟨#[]⟩, .int .u32 0, .int .u64 0, .int .u32 0, .slice none 0 0, .int .u16 0, .int .u32 0, .int .u8 0, .int .u32 0, .int .u64 0, .int .u32 0, .int .u32 0, .int .u32 0, .int .u64 0, .string ⟨#[]⟩, .string ⟨#[]⟩, .string ⟨#[]⟩, .string ⟨#[]⟩] := ⟨_, rfl⟩
  obtain ⟨Y, hY⟩ : ∃ Y : Array Value, Y = #[.int .u8 0, .int .u16 0, .int .u32 0, .string ⟨#[]⟩, .int .u32 0, .string ⟨#[]⟩, .string ⟨#[]⟩, .string ⟨#[]⟩, .int .u16 0, .int .u32 0, .int .u32 0, .slice none 0 0, .slice none 0 0, .int .u8 0, .int .u32 0, .int .u64 0, .int .u8 0, .int .u32 0, .string ⟨#[]⟩, .int .u32 0, .int .u64 0, .int .u32 0, .slice none 0 0, .int .u16 0, .int .u32 0, .int .u8 0, .int .u32 0, .int .u64 0, .int .u32 0, .int .u32 0, .int .u32 0, .int .u64 0, .string ⟨#[]⟩, .string ⟨#[]⟩, .string ⟨#[]⟩, .string ⟨#[]⟩, .int .i64 0, .bool false] := ⟨_, rfl⟩
  have HZ := Lib.hid hZ
  have HY := Lib.hid hY
  have ES : Hid (E.size = 38 ∧ E.all (·.oneCell') = true) := by rw [hE]; exact ⟨rfl, by simp [Rep.C, Rep.V, msgC, Value.oneCell']⟩
  have VS : Hid (V.size = 36 ∧ V.all (·.oneCell') = true) := by rw [hV]; exact ⟨rfl, by simp [Rep.V, msgC, Value.oneCell']⟩
  have ZS : Hid (Z.size = 36) := by rw [hZ]; rfl
  have YS : Hid (Y.size = 38) := by rw [hY]; rfl
  have E36 : Hid (E[36]? = some (.int .i64 e.id) ∧ E[37]? = some (.bool e.apart)) := by rw [hE]; exact ⟨rfl, rfl⟩
  have EV : Hid (∀ j v, V.toList[j]? = some v → E[0 + j]? = some v) := fun j v hv => by
    rw [hE]
    rw [hV] at hv
    have hj : j < 36 := by
      have := (List.getElem?_eq_some_iff.1 hv).1
      simp at this
      exact this
    rw [Nat.zero_add, List.getElem?_toArray]
    unfold Rep.C
    rw [List.getElem?_append_left (by show j < 36; exact hj)]
    simpa using hv
  have HTB := Lib.hid h
  have c40 : Hid (∃ a c, (w.alloc (.cells Z 57)).cell? ⟨p, 4, none⟩ = some (.slice a (q.length + 1) c)) := by
    obtain ⟨rm, gm, s, nR, h⟩ := h
    obtain ⟨a, c, hs, -, -⟩ := h.row.slice
    rw [hrow] at hs
    subst hs
    exact ⟨a, c, (h.kept0 ((Kept.refl [] w).alloc (.cells Z 57))).box.cell 4 rfl⟩
  obtain ⟨a4, cc4, c4⟩ := c40.out
  have d0 : ((q.length : Int) + 1 == 0) = false := by simp; omega
  obtain ⟨n, hn⟩ : ∃ n, n = q.length + 1 := ⟨_, rfl⟩
  have dn : ((n : Int) == 0) = false := by simp; omega
  have dn' : ¬ (n : Int) = 0 := by omega
  rw [← hn] at c4
  have K1 : Hid (Kept [] w (w.alloc (.cells Z 57))) := (Kept.refl _ _).alloc _
  have A1 : Hid (Bx (w.alloc (.cells Z 57)) w.heap.size 57 Z) := Bx.made _ _ _
  have CF : Hid (∀ w', Kept [] w w' → Calls Try.prog 28 #[.pointer (some ⟨p, 0, none⟩)] w' fun r w'' => r = .returned (.agg E) ∧ TB Ba w'' p T.cut ∧ KT Ba w' w'') := fun w' k => by rw [hE]; exact cutFirst_any (h.kept0 k) e q hrow
  have hB2 : Bd T.cut := ⟨hB.req, by show (T.row.drop 1).length ≤ 2000; have := hB.row; rw [List.length_drop]; omega⟩
  have WR : Hid (∀ w', TB Ba w' p T.cut → Calls Try.prog 29 #[.pointer (some ⟨p, 0, none⟩), .int .i64 e.id] w' fun r w'' => r = .returned (.tuple #[]) ∧ TB Ba w'' p (T.cut.writ e.id) ∧ KT Ba w' w'' ∧ KC w' w'') := fun w' h' => written_any h' hB2 e.id hid
  obtain ⟨ap, hap⟩ : ∃ ap, ap = e.apart := ⟨_, rfl⟩
  have HN : Hid (T.next e = if ap = true then T.cut else T.cut.writ e.id) := by rw [hap]; rfl
  obtain ⟨id, hidd⟩ : ∃ id, id = e.id := ⟨_, rfl⟩
  rw [← hidd, ← hap] at E36
  rw [← hidd] at WR HN
  rw [HN.out, ← hV, ← hidd]
  have RA : Hid (∀ w' B, Bx w' B 84 E → w'.rangeAt B 0 V.toList) := fun w' B hb j v hv => hb.cell _ (EV.out j v hv)
  rw [hZ] at c4
  clear hE hV hZ hY h hB hrow hid hB2 hap hidd d0 hn c40
  cases ap with
  | true =>
    go_enter Try.func14, Try.ntmps14
    go_wp2_with (first | (go_at_call 28; refine (CF.out _ (by rw [← HZ.out]; exact K1.out)).mono ?_; rintro r w2 ⟨rfl, t2, k2⟩; rw [← HZ.out] at k2; have T2 := Lib.hid t2; have K2 : Hid (KT Ba w w2) := (KT.of_kept0 K1.out).trans k2; have A2 : Hid (Bx w2 w.heap.size 57 Z) := k2.bx A1.out (by decide) (by decide); have HL2 : Hid (w.heap.size < w2.heap.size) := (by have := k2.size; simp at this; show _ < _; omega); clear t2 k2 CF A1 c4) | (refine wpList_srep rfl (.tmp 5) (.tmp 14) rfl w2.heap.size rfl Y E rfl (by rw [← HY.out]; exact Bx.made _ _ _) YS.out ES.out.1 ES.out.2 ?_; intro w3 b3 k3; rw [← HY.out] at k3; have K23 : Kept [] w2 w3 := ((Kept.refl [] w2).alloc _).trans k3 (fun i hi => Or.inr (by simp at hi; omega)); have T3 := Lib.hid (T2.out.kept0 K23); have K3 : Hid (KT Ba w w3) := K2.out.trans (KT.of_kept0 K23); have A3 : Hid (Bx w3 w.heap.size 57 Z) := A2.out.kept K23 (by simp); have B3 := Lib.hid b3; have e37 := b3.cell 37 E36.out.2; clear b3 k3 K23))
    have HLT : w.heap.size < w2.heap.size := HL2.out
    have bd : Bx w3.drew w2.heap.size 84 E := Bx.drew B3.out
    have msz : (Try.prog.info? 57).map (·.size) = some V.toList.length := by rw [Array.length_toList, VS.out.1]; exact size_msg
    refine wp_region_held (S := fun w' => Bx w' w2.heap.size 84 E) (by kernel_rfl) ?_
    try (change wpAnyH _ _ _ _ _ _ _ _ (World.drew _))
    refine wpAnyH_take (i := 0) (v := .pointer (some ⟨w2.heap.size, 0, none⟩)) rfl (by kernel_rfl) (by kernel_rfl) (by kernel_rfl) (fun _ _ _ h => h) (Or.inl ⟨by rfl, fun w _ => by simp [execOp, go_sem]⟩) bd ?_
    refine wpAnyH_take (i := 1) (v := .agg V.toList.toArray) rfl (by kernel_rfl) (by kernel_rfl) (by kernel_rfl) (fun _ _ _ h => h) (Or.inl ⟨by rfl, fun w b => by
      exact run_mid8 (P := Try.prog) 57 (.tmp 22) rfl w2.heap.size 0 (by simp [go_sem]) V.toList _ (RA.out w w2.heap.size b) Try.underlying57 rfl msz⟩) bd ?_
    simp [go_sem]
    refine wpAnyH_take (i := 2) (v := .pointer (some ⟨w2.heap.size, 36, none⟩)) rfl (by kernel_rfl) (by kernel_rfl) (by kernel_rfl) (fun _ _ _ h => h) (Or.inl ⟨by rfl, fun w _ => by simp [execOp, go_sem]⟩) bd ?_
    refine wpAnyH_take (i := 3) (v := .int .i64 id) rfl (by kernel_rfl) (by kernel_rfl) (by kernel_rfl) (fun _ _ _ h => h) (Or.inl ⟨by rfl, fun w b => by have c := Bx.cell b 36 E36.out.1; simp [execOp, go_sem, c]⟩) bd ?_
    simp [go_sem]
    refine wpAnyH_one (i := 4) (by kernel_rfl) ?_
    refine any_store8 rfl rfl 57 (.tmp 2) (.tmp 23) w.heap.size V 57 Z rfl (by simp [go_sem]) (by simp [go_sem]) (Bx.drew A3.out) (by rw [VS.out.1]; exact size_msg) (by rw [ZS.out, VS.out.1]) VS.out.2 ?_
    obtain ⟨w9, hw9⟩ : ∃ w9, w9 = w3.drew.setRow w.heap.size V := ⟨_, rfl⟩
    have b9 : Bx w9 w.heap.size 57 V := by rw [hw9]; exact setRow_heap w3.drew w.heap.size _ _ _ (0, 0) (Bx.drew A3.out)
    have k9 : Kept [w.heap.size] w3.drew w9 := by rw [hw9]; exact ⟨rfl, rfl, rfl, by simp [World.setRow], fun k _ hk => setRow_other _ _ k _ (by simpa using hk)⟩
    have bd9 : Bx w9 w2.heap.size 84 E := bd.kept k9 (by simp; omega)
    rw [← hw9]
    clear hw9
    refine ⟨bd9, ?_⟩
    refine wpAnyH_one (i := 5) (by kernel_rfl) ?_
    refine any_val rfl rfl (.int .i64 id) (w' := w9) (by simp [execOp, go_sem]) ?_
    refine ⟨bd9, ?_⟩
    refine wpAnyH_one (i := 6) (by kernel_rfl) ?_
    refine any_val rfl rfl (.bool true) (w' := w9) (by simp [execOp, go_sem]) ?_
    refine ⟨bd9, ?_⟩
    refine wpAnyH_done (by kernel_rfl) ?_ _
    simp [go_sem]
    go_wp2_with fail
    have hl := run_loadVar_row (P := Try.prog) w9 w.heap.size 57 57 _ (0, 0) _ b9 Try.underlying57 rfl (by rw [VS.out.1]; exact size_msg)
    have K9 : Kept [w.heap.size] w3 w9 := ((Kept.refl [w.heap.size] w3).drew).trans k9 (fun i hi => Or.inl hi)
    have T9 : TB Ba w9 p T.cut := T3.out.keptL K9 (by intro i hi hl; rw [List.mem_singleton] at hi; subst hi; exact ⟨_, _, _, A3.out, by decide, by decide⟩)
    refine bodyPost_ret (v := .tuple #[.agg V, .int .i64 id, .bool true]) (by simp [results, Try.results14, asAddr, hl]) rfl ⟨rfl, T9, K3.out.thenKept K9 (by simp)⟩
  | false =>
    go_enter Try.func14, Try.ntmps14
    go_wp2_with (first | (go_at_call 28; refine (CF.out _ (by rw [← HZ.out]; exact K1.out)).mono ?_; rintro r w2 ⟨rfl, t2, k2⟩; rw [← HZ.out] at k2; have T2 := Lib.hid t2; have K2 : Hid (KT Ba w w2) := (KT.of_kept0 K1.out).trans k2; have A2 : Hid (Bx w2 w.heap.size 57 Z) := k2.bx A1.out (by decide) (by decide); have HL2 : Hid (w.heap.size < w2.heap.size) := (by have := k2.size; simp at this; show _ < _; omega); clear t2 k2 CF A1 c4) | (refine wpList_srep rfl (.tmp 5) (.tmp 14) rfl w2.heap.size rfl Y E rfl (by rw [← HY.out]; exact Bx.made _ _ _) YS.out ES.out.1 ES.out.2 ?_; intro w3 b3 k3; rw [← HY.out] at k3; have K23 : Kept [] w2 w3 := ((Kept.refl [] w2).alloc _).trans k3 (fun i hi => Or.inr (by simp at hi; omega)); have T3 := Lib.hid (T2.out.kept0 K23); have K3 : Hid (KT Ba w w3) := K2.out.trans (KT.of_kept0 K23); have A3 : Hid (Bx w3 w.heap.size 57 Z) := A2.out.kept K23 (by simp); have B3 := Lib.hid b3; have e37 := b3.cell 37 E36.out.2; have e36 := b3.cell 36 E36.out.1; clear b3 k3 K23) | (go_at_call 29; refine (WR.out _ T3.out).mono ?_; rintro r w4 ⟨rfl, t4, k4, kc4⟩; have T4 := Lib.hid t4; have K4 : Hid (KT Ba w w4) := K3.out.trans k4; have A4 : Hid (Bx w4 w.heap.size 57 Z) := k4.bx A3.out (by decide) (by decide); have B4 : Hid (Bx w4 w2.heap.size 84 E) := kc4 _ _ _ _ B3.out; clear t4 k4 WR))
    have HLT : w.heap.size < w2.heap.size := HL2.out
    have bd : Bx w4.drew w2.heap.size 84 E := Bx.drew B4.out
    have msz : (Try.prog.info? 57).map (·.size) = some V.toList.length := by rw [Array.length_toList, VS.out.1]; exact size_msg
    refine wp_region_held (S := fun w' => Bx w' w2.heap.size 84 E) (by kernel_rfl) ?_
    try (change wpAnyH _ _ _ _ _ _ _ _ (World.drew _))
    refine wpAnyH_take (i := 0) (v := .pointer (some ⟨w2.heap.size, 0, none⟩)) rfl (by kernel_rfl) (by kernel_rfl) (by kernel_rfl) (fun _ _ _ h => h) (Or.inl ⟨by rfl, fun w _ => by simp [execOp, go_sem]⟩) bd ?_
    refine wpAnyH_take (i := 1) (v := .agg V.toList.toArray) rfl (by kernel_rfl) (by kernel_rfl) (by kernel_rfl) (fun _ _ _ h => h) (Or.inl ⟨by rfl, fun w b => by
      exact run_mid8 (P := Try.prog) 57 (.tmp 22) rfl w2.heap.size 0 (by simp [go_sem]) V.toList _ (RA.out w w2.heap.size b) Try.underlying57 rfl msz⟩) bd ?_
    simp [go_sem]
    refine wpAnyH_take (i := 2) (v := .pointer (some ⟨w2.heap.size, 36, none⟩)) rfl (by kernel_rfl) (by kernel_rfl) (by kernel_rfl) (fun _ _ _ h => h) (Or.inl ⟨by rfl, fun w _ => by simp [execOp, go_sem]⟩) bd ?_
    refine wpAnyH_take (i := 3) (v := .int .i64 id) rfl (by kernel_rfl) (by kernel_rfl) (by kernel_rfl) (fun _ _ _ h => h) (Or.inl ⟨by rfl, fun w b => by have c := Bx.cell b 36 E36.out.1; simp [execOp, go_sem, c]⟩) bd ?_
    simp [go_sem]
    refine wpAnyH_one (i := 4) (by kernel_rfl) ?_
    refine any_store8 rfl rfl 57 (.tmp 2) (.tmp 23) w.heap.size V 57 Z rfl (by simp [go_sem]) (by simp [go_sem]) (Bx.drew A4.out) (by rw [VS.out.1]; exact size_msg) (by rw [ZS.out, VS.out.1]) VS.out.2 ?_
    obtain ⟨w9, hw9⟩ : ∃ w9, w9 = w4.drew.setRow w.heap.size V := ⟨_, rfl⟩
    have b9 : Bx w9 w.heap.size 57 V := by rw [hw9]; exact setRow_heap w4.drew w.heap.size _ _ _ (0, 0) (Bx.drew A4.out)
    have k9 : Kept [w.heap.size] w4.drew w9 := by rw [hw9]; exact ⟨rfl, rfl, rfl, by simp [World.setRow], fun k _ hk => setRow_other _ _ k _ (by simpa using hk)⟩
    have bd9 : Bx w9 w2.heap.size 84 E := bd.kept k9 (by simp; omega)
    rw [← hw9]
    clear hw9
    refine ⟨bd9, ?_⟩
    refine wpAnyH_one (i := 5) (by kernel_rfl) ?_
    refine any_val rfl rfl (.int .i64 id) (w' := w9) (by simp [execOp, go_sem]) ?_
    refine ⟨bd9, ?_⟩
    refine wpAnyH_one (i := 6) (by kernel_rfl) ?_
    refine any_val rfl rfl (.bool true) (w' := w9) (by simp [execOp, go_sem]) ?_
    refine ⟨bd9, ?_⟩
    refine wpAnyH_done (by kernel_rfl) ?_ _
    simp [go_sem]
    go_wp2_with fail
    have hl := run_loadVar_row (P := Try.prog) w9 w.heap.size 57 57 _ (0, 0) _ b9 Try.underlying57 rfl (by rw [VS.out.1]; exact size_msg)
    have K9 : Kept [w.heap.size] w4 w9 := ((Kept.refl [w.heap.size] w4).drew).trans k9 (fun i hi => Or.inl hi)
    have T9 : TB Ba w9 p (T.cut.writ id) := T4.out.keptL K9 (by intro i hi hl; rw [List.mem_singleton] at hi; subst hi; exact ⟨_, _, _, A4.out, by decide, by decide⟩)
    refine bodyPost_ret (v := .tuple #[.agg V, .int .i64 id, .bool true]) (by simp [results, Try.results14, asAddr, hl]) rfl ⟨rfl, T9, K4.out.thenKept K9 (by simp)⟩
end
end Tg
end Go.Proofs.Ytjogpafbiackbaa
