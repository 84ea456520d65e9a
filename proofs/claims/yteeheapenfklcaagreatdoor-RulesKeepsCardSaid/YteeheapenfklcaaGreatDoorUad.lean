/- users: a new table; an account more. -/
import Derived.Test.YteeheapenfklcaaGreatDoorUcp
import Derived.Deep.RegionHeld3
import Derived.Deep.Cut
import Derived.Deep.CutRange
namespace Go.Proofs.YteeheapenfklcaaGreatDoor
set_option linter.unusedVariables false
open Go.RowKit Go.Shelf
attribute [local go_sem] Oper.semAt_some
namespace Us
open Go.Proofs.YteeheapenfklcaaGreatDoor.Utf Go.Proofs.YteeheapenfklcaaGreatDoor.Txt Go.PlainAid Go.Proofs.YteeheapenfklcaaGreatDoor.Mpf

theorem newTable_any (w : World) : Calls Tryz.prog 44 #[] w fun e w' => ∃ p m1 m2, e = .returned (.pointer (some ⟨p, 0, none⟩)) ∧ TbX w' w.heap.size p (.slice none 0 0) m1 m2 0 (bel []) [] ∧ Kept [] w w' := by
  have hmm := @run_makeMap Tryz.prog
  go_enter Tryz.func44, Tryz.ntmps44
  go_wp2_with fail
  go_ret
  have k1 : Kept [] w (w.alloc (.map #[] 0)) := (Kept.refl _ _).alloc _
  have k2 : Kept [] w ((w.alloc (.map #[] 0)).alloc (.map #[] 0)) := k1.alloc _
  have M1 := Mp.made strK w
  have M2 := Mp.made bondK (w.alloc (.map #[] 0))
  have e1 : plF (accs []) = fun _ => none := by funext x; rfl
  have e2 : blF (bel []) = fun _ => none := by funext x; rfl
  refine ⟨_, w.heap.size, w.heap.size + 1, rfl, ⟨?_, ?_, ?_, World.ownsRow_nil _ _ _ _, (fun x hx => by cases hx), ?_, by omega⟩, k2.alloc _⟩
  · have := (MapKept.heap_alloc ((w.alloc (.map #[] 0)).alloc (.map #[] 0)) (.cells #[.slice none 0 0, .map (some w.heap.size), .map (some (w.heap.size + 1))] 90)).1
    simpa using this
  · rw [e1]; exact (M1.alloc _).alloc _
  · rw [e2]; have := M2.alloc (.cells #[.slice none 0 0, .map (some w.heap.size), .map (some (w.heap.size + 1))] 90); simpa using this
  · exact ⟨by omega, by omega, by omega⟩

section
variable {w : World} {B p : Nat} {sl : Value} {m1 m2 n2 : Nat} {f : ByteArray × ByteArray → Bool} {L : List (Acc × Value)}
/-- The blocks that a table may turn. -/
def tbS (p m1 m2 : Nat) (sl : Value) : List Nat := p :: m1 :: m2 :: sl.ownBlock.toList
theorem TbX.mem_far (h : TbX w B p sl m1 m2 n2 f L) {v : Value} {ms : List ByteArray} (hm : Mem w v ms) : ∀ b, v.ownBlock = some b → b ∉ tbS p m1 m2 sl := by
  intro b hb hm2
  obtain ⟨cs, hc⟩ := own_type hm b hb
  simp only [tbS, List.mem_cons, Option.mem_toList] at hm2
  rcases hm2 with rfl | rfl | rfl | hm2
  · exact ne_type hc h.box (by decide) rfl
  · exact h.pl.ne hc rfl
  · exact h.bl.ne hc rfl
  · obtain ⟨ds, hd⟩ := own_type h.row b hm2
    exact ne_type hc hd (by decide) rfl
theorem TbX.low (h : TbX w B p sl m1 m2 n2 f L) {i : Nat} (hi : i < B) : i ∉ tbS p m1 m2 sl := by
  intro hm2
  have hf := h.far
  simp only [tbS, List.mem_cons, Option.mem_toList] at hm2
  rcases hm2 with rfl | rfl | rfl | hm2
  · omega
  · omega
  · omega
  · have := (h.row.lt i hm2).1; omega
/-- A call of a Go function as a step of a region. -/
theorem step_call {P : Program} {ops : Array Oper} {o : Oper} {a : Act} {w : World} {K : Act → World → Prop} {Q : Exit → Act → World → Prop} {E : Prop} (hg : o.guard = none) (f : FuncId) (args : Array Value)
    (hrun : (execOp a.eval o).run P w = .ok (.enter f args) w) {R : Ending → World → Prop} (hc : Calls P f args w R) (hR : ∀ e w', R e w' → ∃ v, e = .returned v ∧ K (a.put o.dst v) w') :
    if Region.wanted o (yielded ops a.tmps) = true then Oper.wp P o a w K Q else E := by
  have hw : Region.wanted o (yielded ops a.tmps) = true := by simp [Region.wanted, hg]
  rw [if_pos hw]
  unfold Oper.wp
  rw [hrun, Oper.upon_enter]
  exact hc.mono fun e w' r => by obtain ⟨v, rfl, hk⟩ := hR e w' r; exact hk
theorem own_sl {w : World} {base : Nat} {e : TypeId} {size : Nat} {v : Value} {n : Nat} {xs : List Value} (h : w.ownsRow base e size v n xs) : ∃ a c, v = .slice a n c := by
  rcases h.2 with ⟨rfl, rfl⟩ | ⟨g, cap, cur, rfl, _⟩
  · exact ⟨_, _, rfl⟩
  · exact ⟨_, _, rfl⟩
theorem info_acc : (Tryz.prog.info? 35).map (fun i => (i.zero, i.size, i.bytes)) = some (some (.agg #[.string ⟨#[]⟩, .string ⟨#[]⟩, .slice none 0 0, .string ⟨#[]⟩]), 4, 72) := by kernel_rfl
theorem plF_next {T : List Acc} {a : Acc} (h : known T a.name = false) : plF (T ++ [a]) = upd (plF T) a.name (some (.int .i64 T.length)) := by
  funext n
  have hp := placeOf_append a n T 0
  have h0 : placeOf T 0 a.name = none := by
    have := placeOf_known a.name T 0
    rw [h] at this
    cases hh : placeOf T 0 a.name with
    | none => rfl
    | some k => rw [hh] at this; cases this
  unfold plF upd
  by_cases e : n = a.name
  · rw [if_pos e, hp, e, h0]
    simp
  · rw [if_neg e, hp]
    cases hh : placeOf T 0 n with
    | none => show Option.map _ (if a.name = n then _ else none) = Option.map _ (placeOf T 0 n); rw [if_neg (fun q => e q.symm), hh]
    | some k => show _ = Option.map _ (placeOf T 0 n); rw [hh]
/-- What comes of an account that is added. -/
def OutAdd (w : World) (B p : Nat) (sl : Value) (m1 m2 : Nat) (L : List (Acc × Value)) (a : Acc) (e : Ending) (w' : World) : Prop :=
  (addOk (accs L) a = true ∧ e = .returned (.tuple #[]) ∧ ∃ sl' n2' v', TbX w' B p sl' m1 m2 n2' (bel (accs L ++ [a])) (L ++ [(a, v')]) ∧ Kept (tbS p m1 m2 sl) w w') ∨
  (addOk (accs L) a = false ∧ e = fell 61 ∧ Kept (tbS p m1 m2 sl) w w')
/-- Which bonds there are while an account is added. -/
def belK (T : List Acc) (name : ByteArray) (ms : List ByteArray) (k : Nat) (x : ByteArray × ByteArray) : Bool := bel T x || (decide (name = x.2) && memB x.1 (ms.take k))
theorem belK_here {T : List Acc} {name : ByteArray} (h : known T name = false) (ms : List ByteArray) (k : Nat) (m : ByteArray) : belK T name ms k (m, name) = memB m (ms.take k) := by
  unfold belK
  rw [bel_unknown h]
  simp
theorem bel_all (T : List Acc) (a : Acc) : belK T a.name a.members a.members.length = bel (T ++ [a]) := by
  funext x
  unfold belK
  rw [bel_append, List.take_length]
theorem belK_zero (T : List Acc) (name : ByteArray) (ms : List ByteArray) : belK T name ms 0 = bel T := by
  funext x
  unfold belK
  simp [memB]
theorem belK_next (T : List Acc) (name : ByteArray) (ms : List ByteArray) (k : Nat) (hk : k < ms.length) : blF (belK T name ms (k + 1)) = upd (blF (belK T name ms k)) (ms[k], name) (some unitV) := by
  funext x
  unfold upd
  split
  · rename_i e
    subst e
    unfold blF belK
    rw [List.take_succ_eq_append_getElem hk, memB_append, memB_one]
    simp
  · rename_i e
    unfold blF
    congr 1
    unfold belK
    rw [List.take_succ_eq_append_getElem hk, memB_append, memB_one]
    by_cases h1 : name = x.2
    · have : ¬ ms[k] = x.1 := fun h2 => e (by rw [h1, h2])
      simp [this]
    · simp [h1]
set_option maxHeartbeats 8000000 in
set_option maxRecDepth 100000 in
theorem add_x (h : TbX w B p sl m1 m2 n2 (bel (accs L)) L) (a : Acc) (v : Value) (hm : Mem w v a.members) (hB : B ≤ w.heap.size) (hn : a.name.size ≤ 32) (hz : ∀ m ∈ a.members, m.size ≤ 32) (hlen : a.members.length ≤ 1048576) (hL : L.length ≤ 1048576) :
    Calls Tryz.prog 47 #[.pointer (some ⟨p, 0, none⟩), accV a.name a.leader a.key v] w (OutAdd w B p sl m1 m2 L a) := by
  obtain ⟨name, leader, ms, key⟩ := a
  simp only at hm hn hz hlen ⊢
  obtain ⟨va, vc, rfl⟩ := hm.slice
  unfold accV
  have hnm : name.size ≤ maxLen := by unfold maxLen; omega
  have KN := Lib.hid (fun (w' : World) (k : Kept [] w w') => known_x (h.kept k) name hnm)
  have HT := Lib.hid h
  have HM := Lib.hid hm
  have HZ := Lib.hid hz
  have K1 : Hid (Kept [] w (w.alloc (.cells #[.string name, .string leader, .slice va ms.length vc, .string key] 35))) := (Kept.refl _ _).alloc _
  clear h hm hz
  cases hkn : known (accs L) name with
  | true =>
    have HA : Hid (addOk (accs L) ⟨name, leader, ms, key⟩ = false) := by show _ = _; unfold addOk; rw [show known (accs L) (Acc.name ⟨name, leader, ms, key⟩) = true from hkn]; rfl
    rw [hkn] at KN
    go_enter Tryz.func47, Tryz.ntmps47
    go_wp2_with (first | (go_at_call 13; refine (KN.out _ K1.out).mono ?_; rintro e w2 ⟨rfl, rfl⟩) | (go_at_call 62; refine (giveUp_any _ 61).mono ?_; rintro e w4 ⟨rfl, rfl⟩))
    exact ⟨rfl, Or.inr ⟨HA.out, rfl, K1.out.mono (fun i hi => by cases hi)⟩⟩
  | false =>
    rw [hkn] at KN
    obtain ⟨w1, hw1⟩ : ∃ w1, w1 = w.alloc (.cells #[.string name, .string leader, .slice va ms.length vc, .string key] 35) := ⟨_, rfl⟩
    obtain ⟨R3, hR3⟩ : ∃ R, R = w.heap.size := ⟨_, rfl⟩
    have B3 : Hid (w1.heap[R3]? = some (.cells #[.string name, .string leader, .slice va ms.length vc, .string key] 35 (0, 0))) := by rw [hw1, hR3]; exact (MapKept.heap_alloc w _).1
    rw [← hw1] at K1
    have HW1 := Lib.hid hw1
    have HR3 := Lib.hid hR3
    clear hw1 hR3
    have h1 := HT.out.kept K1.out
    obtain ⟨c0, c1, c2, c3, -⟩ := four B3.out
    go_enter Tryz.func47, Tryz.ntmps47
    rw [HW1.out, HR3.out] at c0 c1 c2 c3
    go_wp2_with (first | (go_at_call 13; rw [← HW1.out]; refine (KN.out _ K1.out).mono ?_; rintro e w2 ⟨rfl, rfl⟩; rw [← HR3.out]; rw [← HW1.out, ← HR3.out] at c0 c1 c2 c3))
    have HA : Hid (∀ z, once ms = z → addOk (accs L) ⟨name, leader, ms, key⟩ = z) := fun z hz => by unfold addOk; rw [show known (accs L) (Acc.name ⟨name, leader, ms, key⟩) = false from hkn]; exact hz
    have T0 : Hid (TbX w2 B p sl m1 m2 n2 (belK (accs L) name ms 0) L) := by rw [belK_zero]; exact h1
    have M0 : Hid (Mem w2 (.slice va ms.length vc) ms) := HM.out.kept0 K1.out
    have HKN := Lib.hid hkn
    clear h1 c0 c1 c2 c3 KN HW1 hkn
    go_loopw [17] (fun iv wr => ∃ k n' : Nat, iv = .int .i64 k ∧ k ≤ ms.length ∧ Hid (TbX wr B p sl m1 m2 n' (belK (accs L) name ms k) L) ∧ Hid (Kept [m2] w2 wr) ∧ Hid (∀ j (h : j < ms.length), j < k → memB ms[j] (ms.take j) = false)) (fun iv _ => ms.length - (intOf iv).toNat)
    case atStart => exact ⟨0, n2, rfl, by omega, T0, Kept.refl _ _, fun j _ h => by omega⟩
    case round =>
      obtain ⟨k, n', rfl, hk, hT, hK, hD⟩ := hrel
      have nf3 : Hid (R3 ∉ [m2]) := fun h => by simp at h; subst h; exact T0.out.bl.ne B3.out rfl
      have b3 := (hK.out.block _ (block_lt B3.out) nf3.out).trans B3.out
      have r3c : wr.cell? ⟨R3, 0, none⟩ = some (.string name) := by rw [cell_of_row wr R3 0 _ _ (0, 0) b3]; rfl
      have pc2 : wr.cell? ⟨p, 2, none⟩ = some (.map (some m2)) := by rw [cell_of_row wr p 2 _ _ (0, 0) hT.out.box]; rfl
      by_cases hlt : k < ms.length
      · have j1 : (k : Int) < (ms.length : Int) := by omega
        have hMr : Mem wr (.slice va ms.length vc) ms := M0.out.kept hK.out (fun b hb hm => T0.out.mem_far M0.out b hb (by simp at hm; subst hm; simp [tbS]))
        obtain ⟨g, hg, cg, hgl⟩ := hMr.at' hlt
        subst hg
        have hmz : ms[k].size ≤ maxLen := by have := HZ.out _ (List.getElem_mem hlt); unfold maxLen; omega
        have LK := fun (W : World) (hw : Kept [] wr W) => (hT.out.kept hw).bl.look Tryz.underlying88 (zero_unit W) (x := (ms[k], name)) ⟨hmz, hnm⟩ true
        have hs : (blF (belK (accs L) name ms k) (ms[k], name)).isSome = memB ms[k] (ms.take k) := by rw [← belK_here HKN.out]; unfold blF; cases belK (accs L) name ms k (ms[k], name) <;> rfl
        have hv : (blF (belK (accs L) name ms k) (ms[k], name)).getD unitV = unitV := by unfold blF; cases belK (accs L) name ms k (ms[k], name) <;> rfl
        simp only [if_true, hs, hv] at LK
        have NX := Lib.hid (belK_next (accs L) name ms k hlt)
        have DUP := Lib.hid (fun h => once_here hlt h)
        have hDk : Hid (memB ms[k] (ms.take k) = false → ∀ j (h : j < ms.length), j < k + 1 → memB ms[j] (ms.take j) = false) := fun h0 j hj hjk => by
          rcases Nat.lt_or_ge j k with q | q
          · exact hD.out j hj q
          · obtain rfl : j = k := by omega
            exact h0
        obtain ⟨x, hx⟩ : ∃ x, x = ms[k] := ⟨_, rfl⟩
        rw [← hx] at cg hmz LK NX DUP hDk
        obtain ⟨tw, htw⟩ : ∃ tw, tw = memB x (ms.take k) := ⟨_, rfl⟩
        rw [← htw] at LK DUP hDk
        have LKH := Lib.hid LK
        have r3h : Hid (∀ W, Kept [] wr W → W.cell? ⟨R3, 0, none⟩ = some (.string name)) := fun W kw => by
          have b := (kw.block _ (block_lt b3) (by simp)).trans b3
          rw [cell_of_row W R3 0 _ _ (0, 0) b]; rfl
        have pch : Hid (∀ W, Kept [] wr W → W.cell? ⟨p, 2, none⟩ = some (.map (some m2))) := fun W kw => by
          rw [cell_of_row W p 2 _ _ (0, 0) (hT.out.kept kw).box]; rfl
        have kb : Kept [] wr (wr.alloc (.cells #[.string x, .string name] 120)) := (Kept.refl _ _).alloc _
        have bb := (MapKept.heap_alloc wr (.cells #[.string x, .string name] 120)).1
        obtain ⟨wb, hwb⟩ : ∃ wb, wb = wr.alloc (.cells #[.string x, .string name] 120) := ⟨_, rfl⟩
        obtain ⟨R6, hR6⟩ : ∃ R, R = wr.heap.size := ⟨_, rfl⟩
        rw [← hwb, ← hR6] at bb
        rw [← hwb] at kb
        have bch : Hid (∀ W, Kept [] wb W → W.cell? ⟨p, 2, none⟩ = some (.map (some m2)) ∧ W.cell? ⟨R6, 0, none⟩ = some (.string x) ∧ W.cell? ⟨R6, 1, none⟩ = some (.string name)) := fun W kw => by
          have b := (kw.block _ (block_lt bb) (by simp)).trans bb
          refine ⟨pch.out W (kb.trans kw (fun i hi => by simp at hi)), ?_, ?_⟩ <;> (rw [cell_of_row W R6 _ _ _ (0, 0) b]; rfl)
        clear LK hs hv hx htw hMr hgl
        go_upto_region 7 with fail
        rw [← hwb, ← hR6]
        have HWB := Lib.hid hwb
        clear hwb hR6 r3c pc2
        obtain ⟨s0, s1, s2⟩ := bch.out wb (Kept.refl _ _)
        have kd : Kept [] wb wb.drew := (Kept.refl [] wb).drew
        have ka : Kept [] wb (wb.alloc (.cells #[] 117)).drew := ((Kept.refl [] wb).alloc _).drew
        have hL1 : (Instr.lookup 88 (.map (some m2)) (.agg #[.string x, .string name]) true).run Tryz.prog wb.drew = .ok (.tuple #[.agg #[], .bool tw]) wb.drew := LKH.out _ (kb.trans kd (fun i hi => by simp at hi))
        have hL2 : (Instr.lookup 88 (.map (some m2)) (.agg #[.string x, .string name]) true).run Tryz.prog (wb.alloc (.cells #[] 117)).drew = .ok (.tuple #[.agg #[], .bool tw]) (wb.alloc (.cells #[] 117)).drew := LKH.out _ (kb.trans ka (fun i hi => by simp at hi))
        go_cut [7, 8] from 25 to 33 (fun s7 s8 wx => s8 = .bool tw ∧ Hid (Kept [] wb wx))
        case first =>
          go_region_held3 (fun w' => w'.cell? ⟨p, 2, none⟩ = some (Value.map (some m2)) ∧ w'.cell? ⟨R6, 0, none⟩ = some (Value.string x) ∧ w'.cell? ⟨R6, 1, none⟩ = some (Value.string name)) (first | exact bch.out _ kd | exact bch.out _ ka | exact bch.out _ (kd.alloc _) | exact bch.out _ ((Kept.refl [] wb).alloc _).drew) (first | fail)
          all_goals (go_wp2_with fail; go_meet; first | exact ⟨rfl, kd.alloc _⟩ | exact ⟨rfl, ka⟩)
        obtain ⟨rfl, hka⟩ := hcut
        clear hL1 hL2 kd ka
        have ka := hka.out
        have kc : Kept [] wr wc := kb.trans ka (fun i hi => by simp at hi)
        have kcd : Kept [] wr wc.drew := kc.drew
        cases tw with
        | true =>
          have HF : Hid (addOk (accs L) ⟨name, leader, ms, key⟩ = false) := HA.out false (DUP.out rfl)
          go_wp2_with (go_at_call 62; refine (giveUp_any _ 61).mono ?_; rintro e w4 ⟨rfl, rfl⟩)
          refine ⟨rfl, Or.inr ⟨HF.out, rfl, ?_⟩⟩
          exact (K1.out.mono (fun i hi => by cases hi)).trans (hK.out.trans kc (fun i hi => by simp at hi)) (fun i hi => by simp at hi; subst hi; exact Or.inl (by simp [tbS]))
        | false =>
          have TC := hT.out.kept kcd
          obtain ⟨w8, hU, C8, k8, s8⟩ := TC.bl.update Tryz.underlying88 (x := (x, name)) ⟨hmz, hnm⟩ unitV
          rw [← NX.out] at C8
          have hU2 : (Instr.mapUpdate 88 (.map (some m2)) (.agg #[.string x, .string name]) (.agg #[])).run Tryz.prog wc.drew = .ok () w8 := hU
          have bc1 := bch.out wc ka
          have bc2 := bch.out wc.drew ka.drew
          obtain ⟨s0, s1, s2⟩ := bc1
          have b6 := (ka.drew.block _ (block_lt bb) (by simp)).trans bb
          have np : p ∉ [m2] := fun h => by simp at h; subst h; exact TC.bl.ne TC.box rfl
          have n6 : R6 ∉ [m2] := fun h => by simp at h; subst h; exact TC.bl.ne b6 rfl
          have T8 : Hid (TbX w8 B p sl m1 m2 (if (blF (belK (accs L) name ms k) (x, name)).isSome then n' else n' + 1) (belK (accs L) name ms (k + 1)) L) := by
            refine ⟨(k8.block _ (block_lt TC.box) np).trans TC.box, TC.pl.kept k8 (fun h => ?_), C8, own_kept TC.row k8 (fun b hb h => ?_), fun y hy => (TC.mem y hy).kept k8 (fun b hb h => ?_), TC.far, TC.ne⟩
            · simp at h; exact TC.ne h
            · simp at h; subst h
              obtain ⟨cs, hc⟩ := own_type TC.row _ hb
              exact TC.bl.ne hc rfl
            · simp at h; subst h
              obtain ⟨cs, hc⟩ := own_type (TC.mem y hy) _ hb
              exact TC.bl.ne hc rfl
          have bc8 : w8.cell? ⟨p, 2, none⟩ = some (Value.map (some m2)) ∧ w8.cell? ⟨R6, 0, none⟩ = some (Value.string x) ∧ w8.cell? ⟨R6, 1, none⟩ = some (Value.string name) := by
            have b := (k8.block _ (block_lt b6) n6).trans b6
            refine ⟨by rw [cell_of_row w8 p 2 _ _ (0, 0) T8.out.box]; rfl, ?_, ?_⟩ <;> (rw [cell_of_row w8 R6 _ _ _ (0, 0) b]; rfl)
          clear hU
          go_wp2_with fail
          go_region_held3 (fun w' => w'.cell? ⟨p, 2, none⟩ = some (Value.map (some m2)) ∧ w'.cell? ⟨R6, 0, none⟩ = some (Value.string x) ∧ w'.cell? ⟨R6, 1, none⟩ = some (Value.string name)) (first | exact bc2 | exact bc8) (first | fail)
          rename_i hh
          clear hh hU2
          go_wp2_with fail
          go_roundw
          case rel => exact ⟨k + 1, _, by go_num, by omega, T8, hK.out.trans ((kcd.mono (T := [m2]) (fun i hi => by cases hi)).trans k8 (fun i hi => Or.inl hi)) (fun i hi => Or.inl hi), hDk.out (by first | trivial | rfl)⟩
          case measure => simp [intOf]; omega
      · have j1 : ¬ (k : Int) < (ms.length : Int) := by omega
        obtain rfl : k = ms.length := by omega
        have HY : Hid (addOk (accs L) ⟨name, leader, ms, key⟩ = true) := HA.out true (once_all (fun j hj => hD.out j hj hj))
        have TE := hT.out
        have hMr : Mem wr (.slice va ms.length vc) ms := M0.out.kept hK.out (fun b hb hm => T0.out.mem_far M0.out b hb (by simp at hm; subst hm; simp [tbS]))
        obtain ⟨sa, sc, hsl⟩ : ∃ sa sc, sl = .slice sa L.length sc := by
          rcases TE.row.2 with ⟨rfl, h0⟩ | ⟨g, cap, cur, rfl, _⟩
          · exact ⟨none, 0, by rw [h0]⟩
          · exact ⟨_, _, rfl⟩
        subst hsl
        have NM : Hid (plF (accs L ++ [⟨name, leader, ms, key⟩]) = upd (plF (accs L)) name (some (.int .i64 L.length))) := by
          have := plF_next (T := accs L) (a := ⟨name, leader, ms, key⟩) HKN.out
          rw [accs_length] at this
          exact this
        have TD := TE.kept (Kept.refl [] wr).drew
        obtain ⟨w5, hU, C5, k5, s5⟩ := TD.pl.update Tryz.underlying87 (x := name) hnm (.int .i64 (L.length : Int))
        have hkp : (plF (accs L) name).isSome = false := by rw [plF_isSome]; exact HKN.out
        rw [hkp, if_neg (by decide), ← NM.out] at C5
        have hU2 : (Instr.mapUpdate 87 (.map (some m1)) (.string name) (.int .i64 L.length)).run Tryz.prog wr.drew = .ok () w5 := hU
        have np : p ∉ [m1] := fun h => by simp at h; subst h; exact TD.pl.ne TD.box rfl
        have n3 : R3 ∉ [m1] := fun h => by simp at h; subst h; exact TD.pl.ne b3 rfl
        have b5 := (k5.block _ (block_lt b3) n3).trans b3
        have x5 := (k5.block _ (block_lt TD.box) np).trans TD.box
        have hMd : Mem w5 (.slice va ms.length vc) ms := (hMr.kept0 (Kept.refl [] wr).drew).kept k5 (fun b hb h => by
          simp at h; subst h
          obtain ⟨cs, hc⟩ := own_type hMr _ hb
          exact TD.pl.ne hc rfl)
        have row5 : w5.ownsRow B 35 4 (.slice sa L.length sc) L.length (L.flatMap accC) := own_kept TD.row k5 (fun b hb h => by
          simp at h; subst h
          obtain ⟨cs, hc⟩ := own_type TD.row _ hb
          exact TD.pl.ne hc rfl)
        have mem5 : ∀ y ∈ L, Mem w5 y.2 y.1.members := fun y hy => (TD.mem y hy).kept k5 (fun b hb h => by
          simp at h; subst h
          obtain ⟨cs, hc⟩ := own_type (TD.mem y hy) _ hb
          exact TD.pl.ne hc rfl)
        have bl5 : Mp bondK w5 m2 n' (blF (belK (accs L) name ms ms.length)) := TD.bl.kept k5 (fun h => by simp at h; exact TD.ne h.symm)
        have CE : Hid (∀ W, W = wr.drew ∨ W = w5 → W.cell? ⟨p, 0, none⟩ = some (.slice sa L.length sc) ∧ W.cell? ⟨p, 1, none⟩ = some (.map (some m1)) ∧ W.cell? ⟨R3, 0, none⟩ = some (.string name)) := fun W hW => by
          rcases hW with rfl | rfl
          · refine ⟨?_, ?_, ?_⟩
            · rw [cell_of_row wr.drew p 0 _ _ (0, 0) TD.box]; rfl
            · rw [cell_of_row wr.drew p 1 _ _ (0, 0) TD.box]; rfl
            · rw [cell_of_row wr.drew R3 0 _ _ (0, 0) b3]; rfl
          · refine ⟨?_, ?_, ?_⟩
            · rw [cell_of_row W p 0 _ _ (0, 0) x5]; rfl
            · rw [cell_of_row W p 1 _ _ (0, 0) x5]; rfl
            · rw [cell_of_row W R3 0 _ _ (0, 0) b5]; rfl
        have pc0 : wr.cell? ⟨p, 0, none⟩ = some (.slice sa L.length sc) := (CE.out wr.drew (Or.inl rfl)).1
        have pc1 : wr.cell? ⟨p, 1, none⟩ = some (.map (some m1)) := (CE.out wr.drew (Or.inl rfl)).2.1
        clear hU hkp hk
        go_wp2_with fail
        go_region_held3 (fun w' => w'.cell? ⟨p, 0, none⟩ = some (Value.slice sa L.length sc) ∧ w'.cell? ⟨p, 1, none⟩ = some (Value.map (some m1)) ∧ w'.cell? ⟨R3, 0, none⟩ = some (Value.string name)) (first | exact CE.out _ (Or.inl rfl) | exact CE.out _ (Or.inr rfl)) (first | fail)
        rename_i hh
        clear hh hU2 pc0 pc1
        have A6 : Hid (Mem w5 (.slice va ms.length vc) ms) := hMd
        have COPY := Lib.hid (copied_any w5.drew ⟨name, leader, ms, key⟩ (.slice va ms.length vc) (hMd.kept0 (Kept.refl [] w5).drew) hlen)
        unfold accV at COPY
        simp only at COPY
        have b5c := four (w := w5.drew) b5
        obtain ⟨q0, q1, q2, q3, -⟩ := b5c
        have y0 : w5.drew.cell? ⟨p, 0, none⟩ = some (.slice sa L.length sc) := by rw [cell_of_row w5.drew p 0 _ _ (0, 0) x5]; rfl
        have y1 : w5.cell? ⟨p, 0, none⟩ = some (.slice sa L.length sc) := y0
        have pF : Hid (∀ W, Kept [] w5 W → W.cell? ⟨p, 0, none⟩ = some (.slice sa L.length sc) ∧ (∀ i, W.frozen? ⟨p, i, none⟩ = false) ∧ W.heap[p]? = some (.cells #[.slice sa L.length sc, .map (some m1), .map (some m2)] 90 (0, 0)) ∧ W.ownsRow B 35 4 (.slice sa L.length sc) L.length (L.flatMap accC)) := fun W kw => by
          have b := (kw.block _ (block_lt x5) (by simp)).trans x5
          exact ⟨by rw [cell_of_row W p 0 _ _ (0, 0) b]; rfl, fun i => by simp [World.frozen?, b], b, own_kept row5 kw (fun _ _ hm => by cases hm)⟩
        have NSL : Hid (∀ b, (Value.slice sa L.length sc).ownBlock = some b → b ≠ p) := fun b hb e => by
          subst e
          obtain ⟨cs, hc⟩ := own_type row5 _ hb
          exact ne_type hc x5 (by decide) rfl
        obtain ⟨i0, hi0, hz00, hz01, hz02⟩ := info_parts info_acc
        have hB5 : B ≤ w5.heap.size := by have h1 := K1.out.size; have h2 := hK.out.size; have h3 := k5.size; simp at h3; omega
        have HLN : Hid (L.length + 1 ≤ maxLen ∧ (L.length + 1) * 72 ≤ 140737488355328) := ⟨by unfold maxLen; omega, by omega⟩
        go_wp2_with fail
        go_region_law (first | (refine step_call rfl 55 #[.agg #[.string name, .string leader, .slice va ms.length vc, .string key]] (by simp [go_sem]) COPY.out ?_; rintro e w6 ⟨v6, rfl, m6, k6, f6⟩; obtain ⟨vb, vd, rfl⟩ := m6.slice; refine ⟨_, rfl, ?_⟩; have kd6 : Kept [] w5 w6 := (Kept.refl [] w5).drew.trans k6 (fun i hi => by simp at hi); have ka6 : Kept [] w5 (w6.alloc (.cells #[.string name, .string leader, .slice vb ms.length vd, .string key] 35)) := kd6.alloc _; obtain ⟨g6, gf6, -, -⟩ := pF.out w6 kd6; obtain ⟨ga6, gaf6, gb6, gr6⟩ := pF.out _ ka6) | (refine step_append_src (w6.alloc (.cells #[.string name, .string leader, .slice vb ms.length vd, .string key] 35)) rfl (.tmp 58) (.tmp 61) 27 rfl B 35 i0 (.agg #[.string ⟨#[]⟩, .string ⟨#[]⟩, .slice none 0 0, .string ⟨#[]⟩]) 4 72 Tryz.underlying27 hi0 hz00 hz01 hz02 rfl (by decide) (.slice sa L.length sc) L.length (L.flatMap accC) (by simp [Act.eval]) gr6 (.slice (some ⟨w6.heap.size, 0, none⟩) 1 1) 1 [.string name, .string leader, .slice vb ms.length vd, .string key] (by simp [Act.eval]) (Or.inr ⟨_, _, rfl, World.news_of_block (cs := #[.string name, .string leader, .slice vb ms.length vd, .string key]) (by exact (MapKept.heap_alloc w6 _).1)⟩) rfl (by intro u hu; simp at hu; rcases hu with rfl | rfl | rfl | rfl <;> rfl) HLN.out.1 HLN.out.2 (by have := kd6.size; simp; omega) ?_; intro v7 w7 hown7 hgrow7 hat7; have b7 := (hgrow7.block p (block_lt gb6) (fun e => NSL.out p e.symm rfl)).trans gb6; have c7 : w7.cell? ⟨p, 0, none⟩ = some (.slice sa L.length sc) := (by rw [cell_of_row w7 p 0 _ _ (0, 0) b7]; rfl); have fz7 : ∀ i, w7.frozen? ⟨p, i, none⟩ = false := (fun i => by simp [World.frozen?, b7]); obtain ⟨a7, cc7, hv7⟩ := own_sl hown7; subst hv7))
        all_goals
          go_wp2_with fail
          go_end0
          have k7 : Kept (Value.slice sa L.length sc).ownBlock.toList w5 w7 := (ka6.mono (fun i hi => by cases hi)).grown hgrow7 (fun k hk => Or.inl (by simp [hk]))
          have k8 : Kept [p] w7 (w7.setCell ⟨p, 0, none⟩ (.slice a7 (L.length + 1) cc7)) := (Kept.refl [p] w7).setCell (p := ⟨p, 0, none⟩) (Or.inl (by simp)) _
          have k67 : Kept (Value.slice sa L.length sc).ownBlock.toList w6 w7 := (((Kept.refl _ w6).alloc _).grown hgrow7 (fun k hk => Or.inl (by simp [hk])))
          have nsm : ∀ b, b ∈ (Value.slice sa L.length sc).ownBlock.toList → ∃ cs, w5.heap[b]? = some (.cells cs 35 (0, 0)) := fun b hb => own_type row5 b (by simpa using hb)
          have memk : ∀ v (l : List ByteArray), Mem w6 v l → Mem (w7.setCell ⟨p, 0, none⟩ (.slice a7 (L.length + 1) cc7)) v l := fun v l h => by
            obtain hb := own_type h
            refine (h.kept k67 (fun b hb2 hm => ?_)).kept k8 (fun b hb2 hm => ?_)
            · obtain ⟨cs, hc⟩ := hb b hb2
              obtain ⟨ds, hd⟩ := nsm b hm
              exact ne_type hc ((kd6.block b (block_lt hd) (by simp)).trans hd) (by decide) rfl
            · obtain ⟨cs, hc⟩ := hb b hb2
              simp at hm; subst hm
              exact ne_type hc ((kd6.block _ (block_lt x5) (by simp)).trans x5) (by decide) rfl
          have mapk : ∀ (b : Nat) es clock, w5.heap[b]? = some (.map es clock) → (w7.setCell ⟨p, 0, none⟩ (.slice a7 (L.length + 1) cc7)).heap[b]? = w5.heap[b]? := fun b es clock hb => by
            have h1 := k7.block b (block_lt hb) (fun hm => by obtain ⟨cs, hc⟩ := nsm b hm; rw [hb] at hc; cases hc)
            have h2 := k8.block b (by rw [hb] at h1; exact block_lt h1) (fun hm => by simp at hm; subst hm; rw [x5] at hb; cases hb)
            exact h2.trans h1
          have kall : Kept (tbS p m1 m2 (.slice sa L.length sc)) w (w7.setCell ⟨p, 0, none⟩ (.slice a7 (L.length + 1) cc7)) := by
            have e1 := (K1.out.mono (T := tbS p m1 m2 (.slice sa L.length sc)) (fun i hi => by cases hi)).trans hK.out (fun i hi => Or.inl (by simp at hi; simp [tbS, hi]))
            have e2 := (e1.drew).trans k5 (fun i hi => Or.inl (by simp at hi; simp [tbS, hi]))
            have e3 := e2.trans k7 (fun i hi => Or.inl (by simp only [tbS, List.mem_cons]; exact Or.inr (Or.inr (Or.inr hi))))
            exact e3.trans k8 (fun i hi => Or.inl (by simp at hi; simp [tbS, hi]))
          refine Or.inl ⟨HY.out, rfl, .slice a7 (L.length + 1) cc7, n', .slice vb ms.length vd, ⟨?_, ?_, ?_, ?_, ?_, TD.far, TD.ne⟩, kall⟩
          · have := heap_set (i := 0) (Value.slice a7 (L.length + 1) cc7) b7
            simpa using this
          · obtain ⟨es, clock, hb, -⟩ := id C5
            have := C5.of_block (mapk m1 es clock hb)
            rw [List.length_append]
            unfold accs
            rw [List.map_append]
            exact this
          · obtain ⟨es, clock, hb, -⟩ := id bl5
            have := bl5.of_block (mapk m2 es clock hb)
            rw [← bel_all]
            exact this
          · have e : (L ++ [((⟨name, leader, ms, key⟩ : Acc), Value.slice vb ms.length vd)]).flatMap accC = L.flatMap accC ++ [.string name, .string leader, .slice vb ms.length vd, .string key] := by simp [accC]
            rw [e, List.length_append]
            refine own_kept hown7 k8 (fun b hb hm => ?_)
            obtain ⟨cs, hc⟩ := own_type hown7 b hb
            simp at hm; subst hm
            exact ne_type hc b7 (by decide) rfl
          · intro y hy
            rcases List.mem_append.1 hy with hy | hy
            · exact memk _ _ ((mem5 y hy).kept0 kd6)
            · simp at hy; subst hy
              exact memk _ _ m6
end
end Us
end Go.Proofs.YteeheapenfklcaaGreatDoor
