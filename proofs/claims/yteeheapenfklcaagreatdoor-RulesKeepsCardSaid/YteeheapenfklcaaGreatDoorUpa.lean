/- users: Parse walked. -/
import Derived.Test.YteeheapenfklcaaGreatDoorUp1
import Derived.Test.YteeheapenfklcaaGreatDoorUpm
import Derived.Deep.RegionWith
namespace Go.Proofs.YteeheapenfklcaaGreatDoor
set_option linter.unusedVariables false
open Go.RowKit Go.Shelf
attribute [local go_sem] Oper.semAt_some
namespace Us
open Go.Proofs.YteeheapenfklcaaGreatDoor.Utf Go.Proofs.YteeheapenfklcaaGreatDoor.Txt Go.PlainAid Go.Proofs.YteeheapenfklcaaGreatDoor.Mpf

/-- What comes of a text. -/
def OutP (w : World) (s : ByteArray) (e : Ending) (w' : World) : Prop :=
  (∃ T B p, parse s = (some T, 0, 0) ∧ e = .returned (.tuple #[.pointer (some ⟨p, 0, none⟩), .int .i64 0, .int .i64 0]) ∧ Tb w' B p T ∧ T.length ≤ 65537 ∧ (∀ a ∈ T, Fit a) ∧ Kept [] w w') ∨
  (∃ er ln : Nat, parse s = (none, er, ln) ∧ er ≠ 0 ∧ e = .returned (.tuple #[.pointer none, .int .i64 er, .int .i64 ln]) ∧ Kept [] w w')
theorem out_none {w w' : World} {s : ByteArray} {er ln : Nat} (h : parse s = (none, er, ln)) (k : Kept [] w w') (h0 : er ≠ 0) : OutP w s (.returned (.tuple #[.pointer none, .int .i64 er, .int .i64 ln])) w' := Or.inr ⟨er, ln, h, h0, rfl, k⟩

section
variable {P : Program} {ops : Array Oper} {Q : Exit → Act → World → Prop} {K : Act → World → Prop} {a : Act} {w : World} {o : Oper}
/-- One operation of a region that draws, taken next: a value. -/
theorem any_value {i : Nat} (hi : ops[i]? = some o) (hg : o.guard = none) (v : Value) (hrun : (execOp a.eval o).run P w = .ok (.value v) w) (h : K (a.put o.dst v) w) : wpOp P ops Q i K a w := by
  unfold wpOp
  rw [hi]
  simp only [show Region.wanted o (yielded ops a.tmps) = true by simp [Region.wanted, hg], if_true]
  refine Or.inl ?_
  unfold Oper.wp
  rw [hrun, Oper.upon_value]
  exact h
/-- The same: a call. -/
theorem any_call {i : Nat} (hi : ops[i]? = some o) (hg : o.guard = none) (f : FuncId) (args : Array Value) (hrun : (execOp a.eval o).run P w = .ok (.enter f args) w) {R : Ending → World → Prop} (hc : Calls P f args w R)
    (hR : ∀ e w', R e w' → (∃ v, e = .returned v ∧ K (a.put o.dst v) w') ∨ ∃ ch, e = .panicked ch ∧ Q (.panic ch) a w') : wpOp P ops Q i K a w := by
  unfold wpOp
  rw [hi]
  simp only [show Region.wanted o (yielded ops a.tmps) = true by simp [Region.wanted, hg], if_true]
  refine Or.inl ?_
  unfold Oper.wp
  rw [hrun, Oper.upon_enter]
  refine hc.mono fun e w' r => ?_
  rcases hR e w' r with ⟨v, rfl, hk⟩ | ⟨ch, rfl, hk⟩
  · exact hk
  · exact hk
end
theorem TbX.ge {w : World} {B p : Nat} {sl : Value} {m1 m2 n2 : Nat} {f : ByteArray × ByteArray → Bool} {L : List (Acc × Value)} (h : TbX w B p sl m1 m2 n2 f L) : ∀ i ∈ tbS p m1 m2 sl, B ≤ i := by
  intro i hm2
  have hf := h.far
  simp only [tbS, List.mem_cons, Option.mem_toList] at hm2
  rcases hm2 with rfl | rfl | rfl | hm2
  · omega
  · omega
  · omega
  · exact (h.row.lt i hm2).1
theorem TbX.boxes {w w' : World} {B p : Nat} {sl : Value} {m1 m2 n2 : Nat} {f : ByteArray × ByteArray → Bool} {L : List (Acc × Value)} {R2 R3 : Nat} {c2 c3 : Array Value} (h : TbX w B p sl m1 m2 n2 f L) (h2 : w.heap[R2]? = some (.cells c2 29 (0, 0))) (h3 : w.heap[R3]? = some (.cells c3 37 (0, 0))) (k : Kept [R2, R3] w w') : TbX w' B p sl m1 m2 n2 f L := by
  have hn : ∀ (b : Nat) cs t, w.heap[b]? = some (.cells cs t (0, 0)) → t ≠ 29 → t ≠ 37 → b ∉ [R2, R3] := fun b cs t hb t1 t2 hm => by
    simp at hm
    rcases hm with rfl | rfl
    · exact ne_type hb h2 t1 rfl
    · exact ne_type hb h3 t2 rfl
  have hm : ∀ (b : Nat), (∃ es cl, w.heap[b]? = some (.map es cl)) → b ∉ [R2, R3] := fun b ⟨es, cl, hb⟩ hm => by
    simp at hm
    rcases hm with rfl | rfl
    · rw [h2] at hb; cases hb
    · rw [h3] at hb; cases hb
  refine ⟨(k.block _ (block_lt h.box) (hn _ _ _ h.box (by decide) (by decide))).trans h.box, h.pl.kept k (hm _ ?_), h.bl.kept k (hm _ ?_), own_kept h.row k (fun b hb => ?_), fun x hx => (h.mem x hx).kept k (fun b hb => ?_), h.far, h.ne⟩
  · obtain ⟨es, cl, hb, -⟩ := h.pl; exact ⟨es, cl, hb⟩
  · obtain ⟨es, cl, hb, -⟩ := h.bl; exact ⟨es, cl, hb⟩
  · obtain ⟨cs, hc⟩ := own_type h.row b hb
    exact hn _ _ _ hc (by decide) (by decide)
  · obtain ⟨cs, hc⟩ := own_type (h.mem x hx) b hb
    exact hn _ _ _ hc (by decide) (by decide)
/-- Where it is given up. -/
theorem give_up {w wx : World} {s : ByteArray} {tmps : Array Value} {R2 R3 p k ln : Nat} {X : Int} (h2 : tmps[2]? = some (.pointer (some ⟨R2, 0, none⟩))) (h3 : tmps[3]? = some (.pointer (some ⟨R3, 0, none⟩))) (h4 : tmps[4]? = some (.int .i64 X)) (hX : X = (ln : Int))
    (hR : R2 ≠ R3) (hRL : w.heap.size ≤ R2 ∧ w.heap.size ≤ R3) (hx : wx.heap[R2]? = some (.cells #[.pointer (some ⟨p, 0, none⟩)] 29 (0, 0)) ∧ wx.heap[R3]? = some (.cells #[.int .i64 0] 37 (0, 0)) ∧ Kept [] w wx) (par : parse s = (none, k, ln)) (hk : k ≠ 0) :
    bodyPostD Tryz.prog Tryz.f20 (OutP w s) (Exit.panic [{ v := .iface 37 (.int .i64 (k : Int)), recovered := false }]) { tmps := tmps, defers := [{ target := Target.fn (Fn.func 43) #[.pointer (some ⟨R2, 0, none⟩), .pointer (some ⟨R3, 0, none⟩)], args := #[] }] } wx := by
  obtain ⟨X2, X3, XK⟩ := hx
  unfold bodyPostD
  refine leaves_cons (f := 43) (args := #[.pointer (some ⟨R2, 0, none⟩), .pointer (some ⟨R3, 0, none⟩)]) (by simp) (by simp [go_sem]) ?_
  refine (parse1_panic R2 R3 k _ hR (.pointer (some ⟨p, 0, none⟩)) 0 X2 X3).mono ?_
  rintro e u' w'' ⟨rfl, rfl, z2, z3, kz⟩
  have c2 : w''.cell? ⟨R2, 0, none⟩ = some (.pointer none) := by rw [cell_of_row w'' R2 0 _ _ (0, 0) z2]; rfl
  have c3 : w''.cell? ⟨R3, 0, none⟩ = some (.int .i64 k) := by rw [cell_of_row w'' R3 0 _ _ (0, 0) z3]; rfl
  have KF : Kept [] w w'' := XK.trans kz (fun i hi => by simp at hi; omega)
  subst hX
  simp [Leaves, settle, results, Tryz.f20, go_sem, h2, h3, h4, c2, c3]
  exact out_none par KF hk
set_option maxHeartbeats 16000000 in
set_option maxRecDepth 100000 in
theorem parse_any (w : World) (s : ByteArray) (hm : Ml w) (hs : s.size ≤ 140737488355328) :
    Calls Tryz.prog 20 #[.string s] w (OutP w s) := by
  have hmf : ∀ (fn : Fn) (first cap : Array Value) (w : World), (Instr.makeFunc fn first cap).run Tryz.prog w = .ok (.func fn first cap) w := fun _ _ _ _ => rfl
  obtain ⟨w1, hw1⟩ : ∃ w1, w1 = (w.alloc (.cells #[.pointer none] 29)).alloc (.cells #[.int .i64 0] 37) := ⟨_, rfl⟩
  obtain ⟨R3, hR3⟩ : ∃ R, R = w.heap.size + 1 := ⟨_, rfl⟩
  obtain ⟨R2, hR2⟩ : ∃ R, R = w.heap.size := ⟨_, rfl⟩
  have k1 : Kept [] w w1 := by rw [hw1]; exact ((Kept.refl _ _).alloc _).alloc _
  have b2 : w1.heap[R2]? = some (.cells #[.pointer none] 29 (0, 0)) := by
    rw [hw1, hR2]
    exact (Below.heap_alloc _ _ _ (by simp)).trans (MapKept.heap_alloc w _).1
  have b3 : w1.heap[R3]? = some (.cells #[.int .i64 0] 37 (0, 0)) := by
    rw [hw1, hR3]
    have := (MapKept.heap_alloc (w.alloc (.cells #[.pointer none] 29)) (.cells #[.int .i64 0] 37)).1
    rwa [World.size_alloc] at this
  have HR : Hid (R2 ≠ R3) := (by omega : R2 ≠ R3)
  have HRL : Hid (w.heap.size ≤ R2 ∧ w.heap.size ≤ R3) := (by omega : w.heap.size ≤ R2 ∧ w.heap.size ≤ R3)
  have K1 := Lib.hid k1
  have B2 := Lib.hid b2
  have B3 := Lib.hid b3
  have HW1 := Lib.hid hw1
  have HR2 := Lib.hid hR2
  have HR3 := Lib.hid hR3
  have ML := Lib.hid hm
  clear hw1 hR2 hR3 k1 b2 b3 hm
  by_cases hlong : 65536 < s.size
  · have hli : (65536 : Int) < (s.size : Int) := by omega
    have PAR := Lib.hid (parse_long hlong)
    clear hlong
    go_enter_defers Tryz.func20, Tryz.ntmps20
    go_wp2_with fail
    have KF : Kept [] w ((w.alloc (.cells #[.pointer none] 29)).alloc (.cells #[.int .i64 1] 37)) := ((Kept.refl _ _).alloc _).alloc _
    simp [bodyPostD, Leaves, results, Tryz.f20, go_sem]
    exact out_none PAR.out KF (by simp)
  · have hli : ¬ (65536 : Int) < (s.size : Int) := by omega
    have LONG := Lib.hid hlong
    have NT := Lib.hid (newTable_any w1)
    have SP : Hid (∀ w', Kept [] w w' → _) := fun w' k => split_any w' 10 s (by omega) (ML.out.kept0 k)
    have LSZ : Hid (∀ l ∈ cutB 10 s, l.size ≤ 65536) := fun l hl => by have := cutB_sizes 10 s l hl; omega
    have LLN := cutB_le 10 s
    have P0 := Lib.hid (fun e i h => parse_one (s := s) (e := e) (i := i) hlong h)
    have P1 := Lib.hid (fun T e i h1 h2 => parse_two (s := s) (e := e) (i := i) (T := T) hlong h1 h2)
    have P2 := Lib.hid (fun T h1 h2 h3 => parse_much (s := s) (T := T) hlong h1 h2 h3)
    have P3 := Lib.hid (fun T h1 h2 h3 => parse_ok (s := s) (T := T) hlong h1 h2 h3)
    obtain ⟨ls, hls⟩ : ∃ ls, ls = cutB 10 s := ⟨_, rfl⟩
    rw [← hls] at SP LSZ LLN P0 P1 P2 P3
    have hll : ls.length ≤ 65537 := by omega
    clear hlong hls LLN hs
    go_enter_defers Tryz.func20, Tryz.ntmps20
    go_wp2_with fail
    rw [← HW1.out, ← HR3.out, ← HR2.out]
    refine NT.out.mono ?_
    rintro e w2 ⟨p, m1, m2, rfl, hT, k2⟩
    obtain ⟨B, hB⟩ : ∃ B, B = w1.heap.size := ⟨_, rfl⟩
    rw [← hB] at hT
    have HBR : Hid (R2 < B ∧ R3 < B) := by
      have h2 := block_lt B2.out
      have h3 := block_lt B3.out
      show _ ∧ _; omega
    have HBw : Hid (w.heap.size ≤ B) := by have := K1.out.size; show _ ≤ _; omega
    have K2 : Hid (Kept [] w w2) := K1.out.trans k2 (fun i hi => by cases hi)
    have x2 := (k2.block _ (block_lt B2.out) (by simp)).trans B2.out
    have x3 := (k2.block _ (block_lt B3.out) (by simp)).trans B3.out
    have c2 : w2.cell? ⟨R2, 0, none⟩ = some (.pointer none) := by rw [cell_of_row w2 R2 0 _ _ (0, 0) x2]; rfl
    have f2 : ∀ i, w2.frozen? ⟨R2, i, none⟩ = false := fun i => by simp [World.frozen?, x2]
    obtain ⟨w3, hw3⟩ : ∃ w3, w3 = w2.setCell ⟨R2, 0, none⟩ (.pointer (some ⟨p, 0, none⟩)) := ⟨_, rfl⟩
    have k3 : Kept [R2] w2 w3 := by rw [hw3]; exact (Kept.refl _ _).setCell (p := ⟨R2, 0, none⟩) (Or.inl (by simp)) _
    have y2 : w3.heap[R2]? = some (.cells #[.pointer (some ⟨p, 0, none⟩)] 29 (0, 0)) := by rw [hw3]; simpa using heap_set (i := 0) (Value.pointer (some ⟨p, 0, none⟩)) x2
    have y3 := (k3.block _ (block_lt x3) (by have := HR.out; simp; omega)).trans x3
    have T3 : Hid (TbX w3 B p (.slice none 0 0) m1 m2 0 (bel []) []) := by
      have hf := hT.far
      have hb := HBR.out
      exact ⟨(k3.block _ (block_lt hT.box) (by simp; omega)).trans hT.box, hT.pl.kept k3 (by simp; omega), hT.bl.kept k3 (by simp; omega), World.ownsRow_nil _ _ _ _, (fun x hx => by cases hx), hT.far, hT.ne⟩
    have K3 : Hid (Kept [] w w3) := K2.out.trans k3 (fun i hi => by have := HRL.out; simp at hi; omega)
    have BSZ : Hid (B ≤ w3.heap.size) := by have := k2.size; have := k3.size; show _ ≤ _; omega
    clear hB NT hT k2 x2 x3 B2 B3 K1 HW1 HR2 HR3
    go_wp2_with fail
    rw [← hw3]
    clear hw3 c2 f2 k3
    refine (SP.out w3 K3.out).mono ?_
    rintro e w4 ⟨rfl, hM4, k4⟩
    have T4 : Hid (TbX w4 B p (.slice none 0 0) m1 m2 0 (bel []) []) := T3.out.kept k4
    have K4 : Hid (Kept [] w w4) := K3.out.trans k4 (fun i hi => by cases hi)
    have y24 := Lib.hid ((k4.block _ (block_lt y2) (by simp)).trans y2)
    have y34 := Lib.hid ((k4.block _ (block_lt y3) (by simp)).trans y3)
    have hB4 : Hid (B ≤ w4.heap.size) := by have := BSZ.out; have := k4.size; show _ ≤ _; omega
    obtain ⟨G, hG⟩ : ∃ G, G = w3.heap.size := ⟨_, rfl⟩
    rw [← hG] at hM4 ⊢
    have M4 := Lib.hid hM4
    have FIX : Hid (∀ wx S, Kept S w4 wx → (∀ i ∈ S, B ≤ i) → wx.heap[R2]? = some (.cells #[.pointer (some ⟨p, 0, none⟩)] 29 (0, 0)) ∧ wx.heap[R3]? = some (.cells #[.int .i64 0] 37 (0, 0)) ∧ Kept [] w wx) := fun wx S k hS => by
      have hb := HBR.out
      refine ⟨(k.block _ (block_lt y24.out) (fun h => by have := hS _ h; omega)).trans y24.out, (k.block _ (block_lt y34.out) (fun h => by have := hS _ h; omega)).trans y34.out, K4.out.trans k (fun i hi => Or.inr (by have := hS i hi; have := HBw.out; omega))⟩
    clear hG hM4 k4 y2 y3 T3 K3 BSZ SP K2
    have FIXML : Hid (∀ wx S, Kept S w4 wx → (∀ i ∈ S, B ≤ i) → Ml wx) := fun wx S k hS => ML.out.kept0 (FIX.out wx S k hS).2.2
    go_wp2_with fail
    go_loopw [4, 19] (fun av iv wr => ∃ (i n2 : Nat) (sl : Value) (L : List (Acc × Value)) (S : List Nat), av = .int .i64 i ∧ iv = .int .i64 i ∧ i ≤ ls.length ∧ L.length ≤ i ∧ Hid (TbX wr B p sl m1 m2 n2 (bel (accs L)) L) ∧ Hid (∀ a ∈ accs L, Fit a) ∧ Hid (pass1 ls 0 [] = pass1 (ls.drop i) i (accs L)) ∧ Hid (Kept S w4 wr) ∧ Hid (∀ j ∈ S, B ≤ j) ∧ Hid (Mem wr (.slice (some ⟨G, 0, none⟩) ls.length ls.length) ls)) (fun _ iv _ => ls.length - (intOf iv).toNat)
    case atStart => exact ⟨0, 0, _, [], [], rfl, rfl, by omega, by simp, T4, (fun a h => by cases h), rfl, Kept.refl _ _, (fun j h => by cases h), M4⟩
    case round =>
      obtain ⟨i, n2, sl, L, S, rfl, rfl, hi, hLi, hT, hF, hP, hK, hS, hM⟩ := hrel
      clear T4 M4 K4 y24 y34
      by_cases hlt : i < ls.length
      · have j1 : (i : Int) < (ls.length : Int) := by omega
        obtain ⟨g, hg, cg, hgl⟩ := hM.out.at' hlt
        cases hg
        have SY := Lib.hid (fun w => says_any w ls[i])
        have hlz := LSZ.out ls[i] (List.getElem_mem hlt)
        have Q0 := Lib.hid (fun h => pass1_quiet (T := accs L) hlt h)
        have Q1 := Lib.hid (fun h h2 => pass1_none (T := accs L) hlt h h2)
        have Q2 := Lib.hid (fun h (a : Acc) h2 h3 => pass1_twice (T := accs L) (a := a) hlt h h2 h3)
        have Q3 := Lib.hid (fun h (a : Acc) h2 h3 => pass1_more (T := accs L) (a := a) hlt h h2 h3)
        obtain ⟨l, hl⟩ : ∃ l, l = ls[i] := ⟨_, rfl⟩
        rw [← hl] at cg SY hlz Q0 Q1 Q2 Q3
        clear hl
        obtain ⟨sy, hsy⟩ : ∃ sy, sy = says l := ⟨_, rfl⟩
        rw [← hsy] at SY Q0 Q1 Q2 Q3
        clear hsy
        cases sy with
        | false =>
          have HP2 : Hid (pass1 ls 0 [] = pass1 (ls.drop (i + 1)) (i + 1) (accs L)) := hP.out.trans (Q0.out rfl)
          clear Q0 Q1 Q2 Q3
          go_wp2_with (first | (go_at_call 46; refine (SY.out _).mono ?_; rintro e w5 ⟨rfl, hw5⟩; rw [hw5]; clear hw5))
          go_roundw
          case rel => exact ⟨i + 1, n2, sl, L, S, by go_num, by go_num, by omega, by omega, hT, hF, HP2, hK, hS, hM⟩
          case measure => simp [intOf]; omega
        | true =>
          obtain ⟨q2, q3, -⟩ := FIX.out wr S hK.out hS.out
          have d2 : wr.cell? ⟨R2, 0, none⟩ = some (.pointer (some ⟨p, 0, none⟩)) := by rw [cell_of_row wr R2 0 _ _ (0, 0) q2]; rfl
          have kd : Kept [] wr wr.drew := (Kept.refl _ _).drew
          have AO : Hid (Calls Tryz.prog 48 #[.string l] wr.drew (OutA wr.drew l)) := accountOf_any wr.drew l hlz ((FIXML.out wr S hK.out hS.out).kept0 kd)
          cases hac : accOf l with
          | none =>
            have PAR := Lib.hid (P0.out 60 (i + 1) (hP.out.trans (Q1.out rfl hac)))
            have AN : Hid (Calls Tryz.prog 48 #[.string l] wr.drew fun e w' => e = fell 60 ∧ Kept [] wr.drew w') := by
              refine AO.out.mono ?_
              rintro e w' (⟨a, v, h, -⟩ | ⟨-, rfl, k⟩)
              · rw [hac] at h; cases h
              · exact ⟨rfl, k.out⟩
            clear Q0 Q1 Q2 Q3 AO
            go_wp2_with (first | (go_at_call 46; refine (SY.out _).mono ?_; rintro e w5 ⟨rfl, hw5⟩; rw [hw5]; clear hw5))
            refine wp_region_any (by kernel_rfl) ?_
            have d2d : (wr.drew).cell? ⟨R2, 0, none⟩ = some (.pointer (some ⟨p, 0, none⟩)) := d2
            have GU : Hid (∀ w6 tmps, Kept [] wr.drew w6 → tmps[2]? = some (Value.pointer (some ⟨R2, 0, none⟩)) → tmps[3]? = some (Value.pointer (some ⟨R3, 0, none⟩)) → tmps[4]? = some (Value.int .i64 ((i : Int) + 1)) → _) := fun w6 tmps k6 h2 h3 h4 => give_up (tmps := tmps) (k := 60) (ln := i + 1) h2 h3 h4 (by omega) HR.out HRL.out (FIX.out w6 S (hK.out.trans (kd.trans k6 (fun i hi => by cases hi)) (fun i hi => by cases hi)) hS.out) PAR.out (by decide)
            refine wpAny_all (rs := [0, 1]) (by kernel_rfl) (by simp) ?_
            intro j hj
            simp only [List.mem_cons, List.not_mem_nil, or_false] at hj
            rcases hj with rfl | rfl
            · refine any_value rfl rfl (.pointer (some ⟨p, 0, none⟩)) (by simp [execOp, go_sem, d2d]) ?_
              refine wpAny_all (rs := [1]) (by kernel_rfl) (by simp) ?_
              intro j hj
              obtain rfl : j = 1 := by simpa using hj
              refine any_value rfl rfl (.string l) (by simp [execOp, go_sem]) ?_
              refine wpAny_all (rs := [2]) (by kernel_rfl) (by simp) ?_
              intro j hj
              obtain rfl : j = 2 := by simpa using hj
              refine any_call rfl rfl 48 #[.string l] (by simp [go_sem]) AN.out ?_
              rintro e w6 ⟨rfl, k6⟩
              exact Or.inr ⟨_, rfl, GU.out w6 _ k6 rfl rfl rfl⟩
            · refine any_value rfl rfl (.string l) (by simp [execOp, go_sem]) ?_
              refine wpAny_all (rs := [0, 2]) (by kernel_rfl) (by simp) ?_
              intro j hj
              simp only [List.mem_cons, List.not_mem_nil, or_false] at hj
              rcases hj with rfl | rfl
              · refine any_value rfl rfl (.pointer (some ⟨p, 0, none⟩)) (by simp [execOp, go_sem, d2d]) ?_
                refine wpAny_all (rs := [2]) (by kernel_rfl) (by simp) ?_
                intro j hj
                obtain rfl : j = 2 := by simpa using hj
                refine any_call rfl rfl 48 #[.string l] (by simp [go_sem]) AN.out ?_
                rintro e w6 ⟨rfl, k6⟩
                exact Or.inr ⟨_, rfl, GU.out w6 _ k6 rfl rfl rfl⟩
              · refine any_call rfl rfl 48 #[.string l] (by simp [go_sem]) AN.out ?_
                rintro e w6 ⟨rfl, k6⟩
                exact Or.inr ⟨_, rfl, GU.out w6 _ k6 rfl rfl rfl⟩
          | some a =>
            have HFIT := accOf_fit hac hlz
            have D26 : Hid (∀ w6, Kept [] wr.drew w6 → w6.cell? ⟨R2, 0, none⟩ = some (.pointer (some ⟨p, 0, none⟩))) := fun w6 k6 => by
              rw [cell_of_row w6 R2 0 _ _ (0, 0) ((k6.block _ (block_lt q2) (by simp)).trans q2)]; rfl
            have AY : Hid (Calls Tryz.prog 48 #[.string l] wr.drew fun e w' => ∃ va vc, e = .returned (.agg #[.string a.name, .string a.leader, .slice va a.members.length vc, .string a.key]) ∧ Mem w' (.slice va a.members.length vc) a.members ∧ Kept [] wr.drew w') := by
              refine AO.out.mono ?_
              rintro e w' (⟨a', v, h, rfl, hm, hf, k⟩ | ⟨h, -⟩)
              · rw [hac] at h
                obtain rfl := Option.some.inj h
                obtain ⟨va, vc, rfl⟩ := hm.out.slice
                exact ⟨va, vc, rfl, hm.out, k.out⟩
              · rw [hac] at h; cases h
            have hsz4 : B ≤ wr.heap.size := by have := hB4.out; have := hK.out.size; omega
            have AD : Hid (∀ w6 va vc, Mem w6 (.slice va a.members.length vc) a.members → Kept [] wr.drew w6 → Calls Tryz.prog 47 #[.pointer (some ⟨p, 0, none⟩), .agg #[.string a.name, .string a.leader, .slice va a.members.length vc, .string a.key]] w6 (OutAdd w6 B p sl m1 m2 L a)) := fun w6 va vc hm6 k6 =>
              add_x (hT.out.kept (kd.trans k6 (fun i hi => by cases hi))) a _ hm6 (by have := k6.size; simp at this; omega) HFIT.1 HFIT.2.2.2.1 (by have := HFIT.2.2.2.2; omega) (by omega)
            have GE := Lib.hid hT.out.ge
            have KS7 : Hid (∀ w6 w7, Kept [] wr.drew w6 → Kept (tbS p m1 m2 sl) w6 w7 → Kept (S ++ tbS p m1 m2 sl) w4 w7) := fun w6 w7 k6 k7 => ((hK.out.trans (kd.trans k6 (fun i hi => by cases hi)) (fun i hi => by cases hi)).mono (fun i hi => Or.inl (by simp [hi]))).trans k7 (fun i hi => Or.inl (by simp [hi]))
            have HS7 : Hid (∀ i ∈ S ++ tbS p m1 m2 sl, B ≤ i) := fun i hi => by
              rcases List.mem_append.1 hi with hi | hi
              · exact hS.out i hi
              · exact GE.out i hi
            have d2d : (wr.drew).cell? ⟨R2, 0, none⟩ = some (.pointer (some ⟨p, 0, none⟩)) := d2
            cases hao : addOk (accs L) a with
            | false =>
              have PAR := Lib.hid (P0.out 61 (i + 1) (hP.out.trans (Q2.out rfl a hac hao)))
              obtain ⟨an, al, am, ak⟩ := a
              have GU : Hid (∀ w7 tmps, (∃ w6, Kept [] wr.drew w6 ∧ Kept (tbS p m1 m2 sl) w6 w7) → tmps[2]? = some (Value.pointer (some ⟨R2, 0, none⟩)) → tmps[3]? = some (Value.pointer (some ⟨R3, 0, none⟩)) → tmps[4]? = some (Value.int .i64 ((i : Int) + 1)) → _) := fun w7 tmps k7 h2 h3 h4 => give_up (tmps := tmps) (k := 61) (ln := i + 1) h2 h3 h4 (by omega) HR.out HRL.out (FIX.out w7 _ (by obtain ⟨w6, k6, k7⟩ := k7; exact KS7.out w6 w7 k6 k7) HS7.out) PAR.out (by decide)
              have ADN : Hid (∀ w6 va vc, Mem w6 (.slice va am.length vc) am → Kept [] wr.drew w6 → Calls Tryz.prog 47 #[.pointer (some ⟨p, 0, none⟩), .agg #[.string an, .string al, .slice va am.length vc, .string ak]] w6 fun e w7 => e = fell 61 ∧ ∃ w6, Kept [] wr.drew w6 ∧ Kept (tbS p m1 m2 sl) w6 w7) := fun w6 va vc hm6 k6 => by
                refine (AD.out w6 va vc hm6 k6).mono ?_
                rintro e w7 (⟨h, -⟩ | ⟨-, rfl, k7⟩)
                · rw [hao] at h; cases h
                · exact ⟨rfl, w6, k6, k7⟩
              clear Q0 Q1 Q2 Q3 AO AD
              go_wp2_with (first | (go_at_call 46; refine (SY.out _).mono ?_; rintro e w5 ⟨rfl, hw5⟩; rw [hw5]; clear hw5))
              refine wp_region_any (by kernel_rfl) ?_
              refine wpAny_all (rs := [0, 1]) (by kernel_rfl) (by simp) ?_
              intro j hj
              simp only [List.mem_cons, List.not_mem_nil, or_false] at hj
              rcases hj with rfl | rfl
              · refine any_value rfl rfl (.pointer (some ⟨p, 0, none⟩)) (by simp [execOp, go_sem, d2d]) ?_
                refine wpAny_all (rs := [1]) (by kernel_rfl) (by simp) ?_
                intro j hj
                obtain rfl : j = 1 := by simpa using hj
                refine any_value rfl rfl (.string l) (by simp [execOp, go_sem]) ?_
                refine wpAny_all (rs := [2]) (by kernel_rfl) (by simp) ?_
                intro j hj
                obtain rfl : j = 2 := by simpa using hj
                refine any_call rfl rfl 48 #[.string l] (by simp [go_sem]) AY.out ?_
                rintro e w6 ⟨va, vc, rfl, hm6, k6⟩
                refine Or.inl ⟨_, rfl, ?_⟩
                have d26 := D26.out w6 k6
                refine wpAny_all (rs := [3]) (by kernel_rfl) (by simp) ?_
                intro j hj
                obtain rfl : j = 3 := by simpa using hj
                refine any_call rfl rfl 47 #[.pointer (some ⟨p, 0, none⟩), .agg #[.string an, .string al, .slice va am.length vc, .string ak]] (by simp [go_sem]) (ADN.out w6 va vc hm6 k6) ?_
                rintro e w7 ⟨rfl, k7⟩
                exact Or.inr ⟨_, rfl, GU.out w7 _ k7 rfl rfl rfl⟩
              · refine any_value rfl rfl (.string l) (by simp [execOp, go_sem]) ?_
                refine wpAny_all (rs := [0, 2]) (by kernel_rfl) (by simp) ?_
                intro j hj
                simp only [List.mem_cons, List.not_mem_nil, or_false] at hj
                rcases hj with rfl | rfl
                · refine any_value rfl rfl (.pointer (some ⟨p, 0, none⟩)) (by simp [execOp, go_sem, d2d]) ?_
                  refine wpAny_all (rs := [2]) (by kernel_rfl) (by simp) ?_
                  intro j hj
                  obtain rfl : j = 2 := by simpa using hj
                  refine any_call rfl rfl 48 #[.string l] (by simp [go_sem]) AY.out ?_
                  rintro e w6 ⟨va, vc, rfl, hm6, k6⟩
                  refine Or.inl ⟨_, rfl, ?_⟩
                  have d26 := D26.out w6 k6
                  refine wpAny_all (rs := [3]) (by kernel_rfl) (by simp) ?_
                  intro j hj
                  obtain rfl : j = 3 := by simpa using hj
                  refine any_call rfl rfl 47 #[.pointer (some ⟨p, 0, none⟩), .agg #[.string an, .string al, .slice va am.length vc, .string ak]] (by simp [go_sem]) (ADN.out w6 va vc hm6 k6) ?_
                  rintro e w7 ⟨rfl, k7⟩
                  exact Or.inr ⟨_, rfl, GU.out w7 _ k7 rfl rfl rfl⟩
                · refine any_call rfl rfl 48 #[.string l] (by simp [go_sem]) AY.out ?_
                  rintro e w6 ⟨va, vc, rfl, hm6, k6⟩
                  refine Or.inl ⟨_, rfl, ?_⟩
                  have d26 := D26.out w6 k6
                  refine wpAny_all (rs := [0]) (by kernel_rfl) (by simp) ?_
                  intro j hj
                  obtain rfl : j = 0 := by simpa using hj
                  refine any_value rfl rfl (.pointer (some ⟨p, 0, none⟩)) (by simp [execOp, go_sem, d26]) ?_
                  refine wpAny_all (rs := [3]) (by kernel_rfl) (by simp) ?_
                  intro j hj
                  obtain rfl : j = 3 := by simpa using hj
                  refine any_call rfl rfl 47 #[.pointer (some ⟨p, 0, none⟩), .agg #[.string an, .string al, .slice va am.length vc, .string ak]] (by simp [go_sem]) (ADN.out w6 va vc hm6 k6) ?_
                  rintro e w7 ⟨rfl, k7⟩
                  exact Or.inr ⟨_, rfl, GU.out w7 _ k7 rfl rfl rfl⟩
            | true =>
              have HP2 : Hid (pass1 ls 0 [] = pass1 (ls.drop (i + 1)) (i + 1) (accs L ++ [a])) := hP.out.trans (Q3.out rfl a hac hao)
              have HMT : Hid (∀ w6 w7, Kept [] wr.drew w6 → Kept (tbS p m1 m2 sl) w6 w7 → Mem w7 (.slice (some ⟨G, 0, none⟩) ls.length ls.length) ls) := fun w6 w7 k6 k7 => by
                have k06 : Kept [] wr w6 := kd.trans k6 (fun i hi => by cases hi)
                exact (hM.out.kept0 k06).kept k7 ((hT.out.kept k06).mem_far (hM.out.kept0 k06))
              have REL : Hid (∀ w7 sl' n2' v', TbX w7 B p sl' m1 m2 n2' (bel (accs L ++ [a])) (L ++ [(a, v')]) → (∃ w6, Kept [] wr.drew w6 ∧ Kept (tbS p m1 m2 sl) w6 w7) → ∃ (i' n2 : Nat) (sl : Value) (L : List (Acc × Value)) (S : List Nat), Value.int .i64 ((i : Int) + 1) = .int .i64 i' ∧ Value.int .i64 ((i : Int) + 1) = .int .i64 i' ∧ i' ≤ ls.length ∧ L.length ≤ i' ∧ Hid (TbX w7 B p sl m1 m2 n2 (bel (accs L)) L) ∧ Hid (∀ a ∈ accs L, Fit a) ∧ Hid (pass1 ls 0 [] = pass1 (ls.drop i') i' (accs L)) ∧ Hid (Kept S w4 w7) ∧ Hid (∀ j ∈ S, B ≤ j) ∧ Hid (Mem w7 (.slice (some ⟨G, 0, none⟩) ls.length ls.length) ls)) := by
                rintro w7 sl' n2' v' hT7 ⟨w6, k6, k7⟩
                have ea : accs (L ++ [(a, v')]) = accs L ++ [a] := by simp [accs]
                refine ⟨i + 1, n2', sl', L ++ [(a, v')], S ++ tbS p m1 m2 sl, by go_num, by go_num, by omega, by simp; omega, ?_, ?_, ?_, KS7.out w6 w7 k6 k7, HS7.out, HMT.out w6 w7 k6 k7⟩
                · show TbX _ _ _ _ _ _ _ _ _; rw [ea]; exact hT7
                · intro x hx
                  rw [ea] at hx
                  rcases List.mem_append.1 hx with hx | hx
                  · exact hF.out x hx
                  · simp at hx; subst hx; exact HFIT
                · show _ = _; rw [ea]; exact HP2.out
              obtain ⟨an, al, am, ak⟩ := a
              have ADY : Hid (∀ w6 va vc, Mem w6 (.slice va am.length vc) am → Kept [] wr.drew w6 → Calls Tryz.prog 47 #[.pointer (some ⟨p, 0, none⟩), .agg #[.string an, .string al, .slice va am.length vc, .string ak]] w6 fun e w7 => e = .returned (.tuple #[]) ∧ ∃ sl' n2' v', TbX w7 B p sl' m1 m2 n2' (bel (accs L ++ [⟨an, al, am, ak⟩])) (L ++ [(⟨an, al, am, ak⟩, v')]) ∧ ∃ w6, Kept [] wr.drew w6 ∧ Kept (tbS p m1 m2 sl) w6 w7) := fun w6 va vc hm6 k6 => by
                refine (AD.out w6 va vc hm6 k6).mono ?_
                rintro e w7 (⟨-, rfl, sl', n2', v', hT7, k7⟩ | ⟨h, -⟩)
                · exact ⟨rfl, sl', n2', v', hT7, w6, k6, k7⟩
                · rw [hao] at h; cases h
              clear Q0 Q1 Q2 Q3 AO AD
              go_wp2_with (first | (go_at_call 46; refine (SY.out _).mono ?_; rintro e w5 ⟨rfl, hw5⟩; rw [hw5]; clear hw5))
              refine wp_region_any (by kernel_rfl) ?_
              refine wpAny_all (rs := [0, 1]) (by kernel_rfl) (by simp) ?_
              intro j hj
              simp only [List.mem_cons, List.not_mem_nil, or_false] at hj
              rcases hj with rfl | rfl
              · refine any_value rfl rfl (.pointer (some ⟨p, 0, none⟩)) (by simp [execOp, go_sem, d2d]) ?_
                refine wpAny_all (rs := [1]) (by kernel_rfl) (by simp) ?_
                intro j hj
                obtain rfl : j = 1 := by simpa using hj
                refine any_value rfl rfl (.string l) (by simp [execOp, go_sem]) ?_
                refine wpAny_all (rs := [2]) (by kernel_rfl) (by simp) ?_
                intro j hj
                obtain rfl : j = 2 := by simpa using hj
                refine any_call rfl rfl 48 #[.string l] (by simp [go_sem]) AY.out ?_
                rintro e w6 ⟨va, vc, rfl, hm6, k6⟩
                refine Or.inl ⟨_, rfl, ?_⟩
                have d26 := D26.out w6 k6
                refine wpAny_all (rs := [3]) (by kernel_rfl) (by simp) ?_
                intro j hj
                obtain rfl : j = 3 := by simpa using hj
                refine any_call rfl rfl 47 #[.pointer (some ⟨p, 0, none⟩), .agg #[.string an, .string al, .slice va am.length vc, .string ak]] (by simp [go_sem]) (ADY.out w6 va vc hm6 k6) ?_
                rintro e w7 ⟨rfl, sl', n2', v', hT7, k7⟩
                refine Or.inl ⟨_, rfl, ?_⟩
                refine wpAny_done (by kernel_rfl) ?_ _
                go_wp2_with fail
                go_roundw
                case rel => exact REL.out w7 sl' n2' v' hT7 k7
                case measure => simp [intOf]; omega
              · refine any_value rfl rfl (.string l) (by simp [execOp, go_sem]) ?_
                refine wpAny_all (rs := [0, 2]) (by kernel_rfl) (by simp) ?_
                intro j hj
                simp only [List.mem_cons, List.not_mem_nil, or_false] at hj
                rcases hj with rfl | rfl
                · refine any_value rfl rfl (.pointer (some ⟨p, 0, none⟩)) (by simp [execOp, go_sem, d2d]) ?_
                  refine wpAny_all (rs := [2]) (by kernel_rfl) (by simp) ?_
                  intro j hj
                  obtain rfl : j = 2 := by simpa using hj
                  refine any_call rfl rfl 48 #[.string l] (by simp [go_sem]) AY.out ?_
                  rintro e w6 ⟨va, vc, rfl, hm6, k6⟩
                  refine Or.inl ⟨_, rfl, ?_⟩
                  have d26 := D26.out w6 k6
                  refine wpAny_all (rs := [3]) (by kernel_rfl) (by simp) ?_
                  intro j hj
                  obtain rfl : j = 3 := by simpa using hj
                  refine any_call rfl rfl 47 #[.pointer (some ⟨p, 0, none⟩), .agg #[.string an, .string al, .slice va am.length vc, .string ak]] (by simp [go_sem]) (ADY.out w6 va vc hm6 k6) ?_
                  rintro e w7 ⟨rfl, sl', n2', v', hT7, k7⟩
                  refine Or.inl ⟨_, rfl, ?_⟩
                  refine wpAny_done (by kernel_rfl) ?_ _
                  go_wp2_with fail
                  go_roundw
                  case rel => exact REL.out w7 sl' n2' v' hT7 k7
                  case measure => simp [intOf]; omega
                · refine any_call rfl rfl 48 #[.string l] (by simp [go_sem]) AY.out ?_
                  rintro e w6 ⟨va, vc, rfl, hm6, k6⟩
                  refine Or.inl ⟨_, rfl, ?_⟩
                  have d26 := D26.out w6 k6
                  refine wpAny_all (rs := [0]) (by kernel_rfl) (by simp) ?_
                  intro j hj
                  obtain rfl : j = 0 := by simpa using hj
                  refine any_value rfl rfl (.pointer (some ⟨p, 0, none⟩)) (by simp [execOp, go_sem, d26]) ?_
                  refine wpAny_all (rs := [3]) (by kernel_rfl) (by simp) ?_
                  intro j hj
                  obtain rfl : j = 3 := by simpa using hj
                  refine any_call rfl rfl 47 #[.pointer (some ⟨p, 0, none⟩), .agg #[.string an, .string al, .slice va am.length vc, .string ak]] (by simp [go_sem]) (ADY.out w6 va vc hm6 k6) ?_
                  rintro e w7 ⟨rfl, sl', n2', v', hT7, k7⟩
                  refine Or.inl ⟨_, rfl, ?_⟩
                  refine wpAny_done (by kernel_rfl) ?_ _
                  go_wp2_with fail
                  go_roundw
                  case rel => exact REL.out w7 sl' n2' v' hT7 k7
                  case measure => simp [intOf]; omega
      · have j1 : ¬ (i : Int) < (ls.length : Int) := by omega
        obtain rfl : i = ls.length := by omega
        obtain ⟨wr0, hwr0⟩ : ∃ x, x = wr := ⟨_, rfl⟩
        subst hwr0
        have HP1 : Hid (pass1 ls 0 [] = .inr (accs L)) := by
          have := hP.out
          rw [List.drop_length] at this
          exact this
        have KW : Hid (∀ wr, Kept [] wr0 wr → TbX wr B p sl m1 m2 n2 (bel (accs L)) L ∧ Kept S w4 wr ∧ Mem wr (.slice (some ⟨G, 0, none⟩) ls.length ls.length) ls) := fun wx k => ⟨hT.out.kept k, hK.out.trans k (fun i hi => by cases hi), hM.out.kept0 k⟩
        clear hT hK hM hP P0
        go_wp2_with fail
        go_loopw [4, 35] (fun av iv wr => ∃ (k : Nat) (x : Int), av = .int .i64 x ∧ iv = .int .i64 k ∧ k ≤ ls.length ∧ Hid (pass2 (accs L) ls 0 = pass2 (accs L) (ls.drop k) k) ∧ Hid (Kept [] wr0 wr)) (fun _ iv _ => ls.length - (intOf iv).toNat)
        case atStart => exact ⟨0, _, rfl, rfl, by omega, rfl, Kept.refl _ _⟩
        case round =>
          obtain ⟨k, x, rfl, rfl, hk, hP, hK⟩ := hrel
          obtain ⟨hT, hKS, hM⟩ := KW.out wr hK.out
          by_cases hlt : k < ls.length
          · have j1 : (k : Int) < (ls.length : Int) := by omega
            obtain ⟨g, hg, cg, hgl⟩ := hM.at' hlt
            cases hg
            have SY := Lib.hid (fun w => says_any w ls[k])
            have hlz := LSZ.out ls[k] (List.getElem_mem hlt)
            have Q0 := Lib.hid (fun h => pass2_quiet (T := accs L) hlt h)
            have Q1 := Lib.hid (fun h h2 => pass2_none (T := accs L) hlt h h2)
            have Q2 := Lib.hid (fun h (a : Acc) h2 h3 => pass2_lost (T := accs L) (a := a) hlt h h2 h3)
            have Q3 := Lib.hid (fun h (a : Acc) h2 h3 => pass2_more (T := accs L) (a := a) hlt h h2 h3)
            obtain ⟨l, hl⟩ : ∃ l, l = ls[k] := ⟨_, rfl⟩
            rw [← hl] at cg SY hlz Q0 Q1 Q2 Q3
            clear hl
            obtain ⟨sy, hsy⟩ : ∃ sy, sy = says l := ⟨_, rfl⟩
            rw [← hsy] at SY Q0 Q1 Q2 Q3
            clear hsy
            cases sy with
            | false =>
              have HP2 : Hid (pass2 (accs L) ls 0 = pass2 (accs L) (ls.drop (k + 1)) (k + 1)) := hP.out.trans (Q0.out rfl)
              clear Q0 Q1 Q2 Q3
              go_wp2_with (first | (go_at_call 46; refine (SY.out _).mono ?_; rintro e w5 ⟨rfl, hw5⟩; rw [hw5]; clear hw5))
              go_roundw
              case rel => exact ⟨k + 1, _, by go_num, by go_num, by omega, HP2, hK⟩
              case measure => simp [intOf]; omega
            | true =>
              obtain ⟨q2, q3, -⟩ := FIX.out wr S hKS hS.out
              have d2 : wr.cell? ⟨R2, 0, none⟩ = some (.pointer (some ⟨p, 0, none⟩)) := by rw [cell_of_row wr R2 0 _ _ (0, 0) q2]; rfl
              have kd : Kept [] wr wr.drew := (Kept.refl _ _).drew
              have d2d : (wr.drew).cell? ⟨R2, 0, none⟩ = some (.pointer (some ⟨p, 0, none⟩)) := d2
              have AO : Hid (Calls Tryz.prog 48 #[.string l] wr.drew (OutA wr.drew l)) := accountOf_any wr.drew l hlz ((FIXML.out wr S hKS hS.out).kept0 kd)
              have FX7 : Hid (∀ w7, Kept [] wr.drew w7 → _) := fun w7 k7 => FIX.out w7 S (hKS.trans (kd.trans k7 (fun i hi => by cases hi)) (fun i hi => by cases hi)) hS.out
              have K67 : Hid (∀ w7, Kept [] wr.drew w7 → Hid (Kept [] wr0 w7)) := fun w7 k7 => hK.out.trans (kd.trans k7 (fun i hi => by cases hi)) (fun i hi => by cases hi)
              cases hac : accOf l with
              | none =>
                have PAR := Lib.hid (P1.out (accs L) 60 (k + 1) HP1.out (hP.out.trans (Q1.out rfl hac)))
                have AN : Hid (Calls Tryz.prog 48 #[.string l] wr.drew fun e w' => e = fell 60 ∧ Kept [] wr.drew w') := by
                  refine AO.out.mono ?_
                  rintro e w' (⟨a, v, h, -⟩ | ⟨-, rfl, k⟩)
                  · rw [hac] at h; cases h
                  · exact ⟨rfl, k.out⟩
                have GU : Hid (∀ w6 tmps, Kept [] wr.drew w6 → tmps[2]? = some (Value.pointer (some ⟨R2, 0, none⟩)) → tmps[3]? = some (Value.pointer (some ⟨R3, 0, none⟩)) → tmps[4]? = some (Value.int .i64 ((k : Int) + 1)) → _) := fun w6 tmps k6 h2 h3 h4 => give_up (tmps := tmps) (k := 60) (ln := k + 1) h2 h3 h4 (by omega) HR.out HRL.out (FX7.out w6 k6) PAR.out (by decide)
                clear Q0 Q1 Q2 Q3 AO
                go_wp2_with (first | (go_at_call 46; refine (SY.out _).mono ?_; rintro e w5 ⟨rfl, hw5⟩; rw [hw5]; clear hw5))
                refine wp_region_any (by kernel_rfl) ?_
                refine wpAny_all (rs := [0, 1]) (by kernel_rfl) (by simp) ?_
                intro j hj
                simp only [List.mem_cons, List.not_mem_nil, or_false] at hj
                rcases hj with rfl | rfl
                · refine any_value rfl rfl (.pointer (some ⟨p, 0, none⟩)) (by simp [execOp, go_sem, d2d]) ?_
                  refine wpAny_all (rs := [1]) (by kernel_rfl) (by simp) ?_
                  intro j hj
                  obtain rfl : j = 1 := by simpa using hj
                  refine any_value rfl rfl (.string l) (by simp [execOp, go_sem]) ?_
                  refine wpAny_all (rs := [2]) (by kernel_rfl) (by simp) ?_
                  intro j hj
                  obtain rfl : j = 2 := by simpa using hj
                  refine any_call rfl rfl 48 #[.string l] (by simp [go_sem]) AN.out ?_
                  rintro e w6 ⟨rfl, k6⟩
                  exact Or.inr ⟨_, rfl, GU.out w6 _ k6 rfl rfl rfl⟩
                · refine any_value rfl rfl (.string l) (by simp [execOp, go_sem]) ?_
                  refine wpAny_all (rs := [0, 2]) (by kernel_rfl) (by simp) ?_
                  intro j hj
                  simp only [List.mem_cons, List.not_mem_nil, or_false] at hj
                  rcases hj with rfl | rfl
                  · refine any_value rfl rfl (.pointer (some ⟨p, 0, none⟩)) (by simp [execOp, go_sem, d2d]) ?_
                    refine wpAny_all (rs := [2]) (by kernel_rfl) (by simp) ?_
                    intro j hj
                    obtain rfl : j = 2 := by simpa using hj
                    refine any_call rfl rfl 48 #[.string l] (by simp [go_sem]) AN.out ?_
                    rintro e w6 ⟨rfl, k6⟩
                    exact Or.inr ⟨_, rfl, GU.out w6 _ k6 rfl rfl rfl⟩
                  · refine any_call rfl rfl 48 #[.string l] (by simp [go_sem]) AN.out ?_
                    rintro e w6 ⟨rfl, k6⟩
                    exact Or.inr ⟨_, rfl, GU.out w6 _ k6 rfl rfl rfl⟩
              | some a =>
                have HFIT := accOf_fit hac hlz
                have D26 : Hid (∀ w6, Kept [] wr.drew w6 → w6.cell? ⟨R2, 0, none⟩ = some (.pointer (some ⟨p, 0, none⟩))) := fun w6 k6 => by
                  rw [cell_of_row w6 R2 0 _ _ (0, 0) ((k6.block _ (block_lt q2) (by simp)).trans q2)]; rfl
                have AY : Hid (Calls Tryz.prog 48 #[.string l] wr.drew fun e w' => ∃ va vc, e = .returned (.agg #[.string a.name, .string a.leader, .slice va a.members.length vc, .string a.key]) ∧ Mem w' (.slice va a.members.length vc) a.members ∧ Kept [] wr.drew w') := by
                  refine AO.out.mono ?_
                  rintro e w' (⟨a', v, h, rfl, hm, hf, k⟩ | ⟨h, -⟩)
                  · rw [hac] at h
                    obtain rfl := Option.some.inj h
                    obtain ⟨va, vc, rfl⟩ := hm.out.slice
                    exact ⟨va, vc, rfl, hm.out, k.out⟩
                  · rw [hac] at h; cases h
                have AD : Hid (∀ w6 va vc, Mem w6 (.slice va a.members.length vc) a.members → Kept [] wr.drew w6 → Calls Tryz.prog 49 #[.pointer (some ⟨p, 0, none⟩), .agg #[.string a.name, .string a.leader, .slice va a.members.length vc, .string a.key]] w6 (OutK w6 (knows (accs L) a))) := fun w6 va vc hm6 k6 =>
                  mustKnow_x (hT.kept (kd.trans k6 (fun i hi => by cases hi))) a _ hm6 HFIT.2.1 HFIT.2.2.2.1 (by have := HFIT.2.2.2.2; omega)
                cases hao : knows (accs L) a with
                | false =>
                  have PAR := Lib.hid (P1.out (accs L) 62 (k + 1) HP1.out (hP.out.trans (Q2.out rfl a hac hao)))
                  obtain ⟨an, al, am, ak⟩ := a
                  have GU : Hid (∀ w6 tmps, Kept [] wr.drew w6 → tmps[2]? = some (Value.pointer (some ⟨R2, 0, none⟩)) → tmps[3]? = some (Value.pointer (some ⟨R3, 0, none⟩)) → tmps[4]? = some (Value.int .i64 ((k : Int) + 1)) → _) := fun w6 tmps k6 h2 h3 h4 => give_up (tmps := tmps) (k := 62) (ln := k + 1) h2 h3 h4 (by omega) HR.out HRL.out (FX7.out w6 k6) PAR.out (by decide)
                  have ADN : Hid (∀ w6 va vc, Mem w6 (.slice va am.length vc) am → Kept [] wr.drew w6 → Calls Tryz.prog 49 #[.pointer (some ⟨p, 0, none⟩), .agg #[.string an, .string al, .slice va am.length vc, .string ak]] w6 fun e w7 => e = fell 62 ∧ Kept [] wr.drew w7) := fun w6 va vc hm6 k6 => by
                    refine (AD.out w6 va vc hm6 k6).mono ?_
                    rintro e w7 (⟨h, -⟩ | ⟨-, rfl, k7⟩)
                    · rw [hao] at h; cases h
                    · exact ⟨rfl, k6.trans k7 (fun i hi => by cases hi)⟩
                  clear Q0 Q1 Q2 Q3 AO AD
                  go_wp2_with (first | (go_at_call 46; refine (SY.out _).mono ?_; rintro e w5 ⟨rfl, hw5⟩; rw [hw5]; clear hw5))
                  refine wp_region_any (by kernel_rfl) ?_
                  refine wpAny_all (rs := [0, 1]) (by kernel_rfl) (by simp) ?_
                  intro j hj
                  simp only [List.mem_cons, List.not_mem_nil, or_false] at hj
                  rcases hj with rfl | rfl
                  · refine any_value rfl rfl (.pointer (some ⟨p, 0, none⟩)) (by simp [execOp, go_sem, d2d]) ?_
                    refine wpAny_all (rs := [1]) (by kernel_rfl) (by simp) ?_
                    intro j hj
                    obtain rfl : j = 1 := by simpa using hj
                    refine any_value rfl rfl (.string l) (by simp [execOp, go_sem]) ?_
                    refine wpAny_all (rs := [2]) (by kernel_rfl) (by simp) ?_
                    intro j hj
                    obtain rfl : j = 2 := by simpa using hj
                    refine any_call rfl rfl 48 #[.string l] (by simp [go_sem]) AY.out ?_
                    rintro e w6 ⟨va, vc, rfl, hm6, k6⟩
                    refine Or.inl ⟨_, rfl, ?_⟩
                    have d26 := D26.out w6 k6
                    refine wpAny_all (rs := [3]) (by kernel_rfl) (by simp) ?_
                    intro j hj
                    obtain rfl : j = 3 := by simpa using hj
                    refine any_call rfl rfl 49 #[.pointer (some ⟨p, 0, none⟩), .agg #[.string an, .string al, .slice va am.length vc, .string ak]] (by simp [go_sem]) (ADN.out w6 va vc hm6 k6) ?_
                    rintro e w7 ⟨rfl, k7⟩
                    exact Or.inr ⟨_, rfl, GU.out w7 _ k7 rfl rfl rfl⟩
                  · refine any_value rfl rfl (.string l) (by simp [execOp, go_sem]) ?_
                    refine wpAny_all (rs := [0, 2]) (by kernel_rfl) (by simp) ?_
                    intro j hj
                    simp only [List.mem_cons, List.not_mem_nil, or_false] at hj
                    rcases hj with rfl | rfl
                    · refine any_value rfl rfl (.pointer (some ⟨p, 0, none⟩)) (by simp [execOp, go_sem, d2d]) ?_
                      refine wpAny_all (rs := [2]) (by kernel_rfl) (by simp) ?_
                      intro j hj
                      obtain rfl : j = 2 := by simpa using hj
                      refine any_call rfl rfl 48 #[.string l] (by simp [go_sem]) AY.out ?_
                      rintro e w6 ⟨va, vc, rfl, hm6, k6⟩
                      refine Or.inl ⟨_, rfl, ?_⟩
                      have d26 := D26.out w6 k6
                      refine wpAny_all (rs := [3]) (by kernel_rfl) (by simp) ?_
                      intro j hj
                      obtain rfl : j = 3 := by simpa using hj
                      refine any_call rfl rfl 49 #[.pointer (some ⟨p, 0, none⟩), .agg #[.string an, .string al, .slice va am.length vc, .string ak]] (by simp [go_sem]) (ADN.out w6 va vc hm6 k6) ?_
                      rintro e w7 ⟨rfl, k7⟩
                      exact Or.inr ⟨_, rfl, GU.out w7 _ k7 rfl rfl rfl⟩
                    · refine any_call rfl rfl 48 #[.string l] (by simp [go_sem]) AY.out ?_
                      rintro e w6 ⟨va, vc, rfl, hm6, k6⟩
                      refine Or.inl ⟨_, rfl, ?_⟩
                      have d26 := D26.out w6 k6
                      refine wpAny_all (rs := [0]) (by kernel_rfl) (by simp) ?_
                      intro j hj
                      obtain rfl : j = 0 := by simpa using hj
                      refine any_value rfl rfl (.pointer (some ⟨p, 0, none⟩)) (by simp [execOp, go_sem, d26]) ?_
                      refine wpAny_all (rs := [3]) (by kernel_rfl) (by simp) ?_
                      intro j hj
                      obtain rfl : j = 3 := by simpa using hj
                      refine any_call rfl rfl 49 #[.pointer (some ⟨p, 0, none⟩), .agg #[.string an, .string al, .slice va am.length vc, .string ak]] (by simp [go_sem]) (ADN.out w6 va vc hm6 k6) ?_
                      rintro e w7 ⟨rfl, k7⟩
                      exact Or.inr ⟨_, rfl, GU.out w7 _ k7 rfl rfl rfl⟩
                | true =>
                  have HP2 : Hid (pass2 (accs L) ls 0 = pass2 (accs L) (ls.drop (k + 1)) (k + 1)) := hP.out.trans (Q3.out rfl a hac hao)
                  obtain ⟨an, al, am, ak⟩ := a
                  have ADY : Hid (∀ w6 va vc, Mem w6 (.slice va am.length vc) am → Kept [] wr.drew w6 → Calls Tryz.prog 49 #[.pointer (some ⟨p, 0, none⟩), .agg #[.string an, .string al, .slice va am.length vc, .string ak]] w6 fun e w7 => e = .returned (.tuple #[]) ∧ Kept [] wr.drew w7) := fun w6 va vc hm6 k6 => by
                    refine (AD.out w6 va vc hm6 k6).mono ?_
                    rintro e w7 (⟨-, rfl, k7⟩ | ⟨h, -⟩)
                    · exact ⟨rfl, k6.trans k7 (fun i hi => by cases hi)⟩
                    · rw [hao] at h; cases h
                  clear Q0 Q1 Q2 Q3 AO AD
                  go_wp2_with (first | (go_at_call 46; refine (SY.out _).mono ?_; rintro e w5 ⟨rfl, hw5⟩; rw [hw5]; clear hw5))
                  refine wp_region_any (by kernel_rfl) ?_
                  refine wpAny_all (rs := [0, 1]) (by kernel_rfl) (by simp) ?_
                  intro j hj
                  simp only [List.mem_cons, List.not_mem_nil, or_false] at hj
                  rcases hj with rfl | rfl
                  · refine any_value rfl rfl (.pointer (some ⟨p, 0, none⟩)) (by simp [execOp, go_sem, d2d]) ?_
                    refine wpAny_all (rs := [1]) (by kernel_rfl) (by simp) ?_
                    intro j hj
                    obtain rfl : j = 1 := by simpa using hj
                    refine any_value rfl rfl (.string l) (by simp [execOp, go_sem]) ?_
                    refine wpAny_all (rs := [2]) (by kernel_rfl) (by simp) ?_
                    intro j hj
                    obtain rfl : j = 2 := by simpa using hj
                    refine any_call rfl rfl 48 #[.string l] (by simp [go_sem]) AY.out ?_
                    rintro e w6 ⟨va, vc, rfl, hm6, k6⟩
                    refine Or.inl ⟨_, rfl, ?_⟩
                    have d26 := D26.out w6 k6
                    refine wpAny_all (rs := [3]) (by kernel_rfl) (by simp) ?_
                    intro j hj
                    obtain rfl : j = 3 := by simpa using hj
                    refine any_call rfl rfl 49 #[.pointer (some ⟨p, 0, none⟩), .agg #[.string an, .string al, .slice va am.length vc, .string ak]] (by simp [go_sem]) (ADY.out w6 va vc hm6 k6) ?_
                    rintro e w7 ⟨rfl, k7⟩
                    refine Or.inl ⟨_, rfl, ?_⟩
                    refine wpAny_done (by kernel_rfl) ?_ _
                    go_wp2_with fail
                    go_roundw
                    case rel => exact ⟨k + 1, _, by go_num, by go_num, by omega, HP2.out, K67.out w7 k7⟩
                    case measure => simp [intOf]; omega
                  · refine any_value rfl rfl (.string l) (by simp [execOp, go_sem]) ?_
                    refine wpAny_all (rs := [0, 2]) (by kernel_rfl) (by simp) ?_
                    intro j hj
                    simp only [List.mem_cons, List.not_mem_nil, or_false] at hj
                    rcases hj with rfl | rfl
                    · refine any_value rfl rfl (.pointer (some ⟨p, 0, none⟩)) (by simp [execOp, go_sem, d2d]) ?_
                      refine wpAny_all (rs := [2]) (by kernel_rfl) (by simp) ?_
                      intro j hj
                      obtain rfl : j = 2 := by simpa using hj
                      refine any_call rfl rfl 48 #[.string l] (by simp [go_sem]) AY.out ?_
                      rintro e w6 ⟨va, vc, rfl, hm6, k6⟩
                      refine Or.inl ⟨_, rfl, ?_⟩
                      have d26 := D26.out w6 k6
                      refine wpAny_all (rs := [3]) (by kernel_rfl) (by simp) ?_
                      intro j hj
                      obtain rfl : j = 3 := by simpa using hj
                      refine any_call rfl rfl 49 #[.pointer (some ⟨p, 0, none⟩), .agg #[.string an, .string al, .slice va am.length vc, .string ak]] (by simp [go_sem]) (ADY.out w6 va vc hm6 k6) ?_
                      rintro e w7 ⟨rfl, k7⟩
                      refine Or.inl ⟨_, rfl, ?_⟩
                      refine wpAny_done (by kernel_rfl) ?_ _
                      go_wp2_with fail
                      go_roundw
                      case rel => exact ⟨k + 1, _, by go_num, by go_num, by omega, HP2.out, K67.out w7 k7⟩
                      case measure => simp [intOf]; omega
                    · refine any_call rfl rfl 48 #[.string l] (by simp [go_sem]) AY.out ?_
                      rintro e w6 ⟨va, vc, rfl, hm6, k6⟩
                      refine Or.inl ⟨_, rfl, ?_⟩
                      have d26 := D26.out w6 k6
                      refine wpAny_all (rs := [0]) (by kernel_rfl) (by simp) ?_
                      intro j hj
                      obtain rfl : j = 0 := by simpa using hj
                      refine any_value rfl rfl (.pointer (some ⟨p, 0, none⟩)) (by simp [execOp, go_sem, d26]) ?_
                      refine wpAny_all (rs := [3]) (by kernel_rfl) (by simp) ?_
                      intro j hj
                      obtain rfl : j = 3 := by simpa using hj
                      refine any_call rfl rfl 49 #[.pointer (some ⟨p, 0, none⟩), .agg #[.string an, .string al, .slice va am.length vc, .string ak]] (by simp [go_sem]) (ADY.out w6 va vc hm6 k6) ?_
                      rintro e w7 ⟨rfl, k7⟩
                      refine Or.inl ⟨_, rfl, ?_⟩
                      refine wpAny_done (by kernel_rfl) ?_ _
                      go_wp2_with fail
                      go_roundw
                      case rel => exact ⟨k + 1, _, by go_num, by go_num, by omega, HP2.out, K67.out w7 k7⟩
                      case measure => simp [intOf]; omega
          · have j1 : ¬ (k : Int) < (ls.length : Int) := by omega
            obtain rfl : k = ls.length := by omega
            have HPP : Hid (pass2 (accs L) ls 0 = .inr ()) := by
              have := hP.out
              rw [List.drop_length] at this
              exact this
            obtain ⟨q2, q3, qk⟩ := FIX.out wr S hKS hS.out
            have d2 : wr.cell? ⟨R2, 0, none⟩ = some (.pointer (some ⟨p, 0, none⟩)) := by rw [cell_of_row wr R2 0 _ _ (0, 0) q2]; rfl
            have MF := Lib.hid (mustFit_x hT (by omega) hF.out)
            by_cases hfit : (textL (accs L)).length ≤ 65536
            · have PAR := Lib.hid (P3.out (accs L) HP1.out HPP.out (by omega))
              have MFY : Hid (Calls Tryz.prog 50 #[.pointer (some ⟨p, 0, none⟩)] wr fun e w7 => e = .returned (.tuple #[]) ∧ Kept [] wr w7) := by
                refine MF.out.mono ?_
                rintro e w7 (⟨-, rfl, k7⟩ | ⟨h, -⟩)
                · exact ⟨rfl, k7⟩
                · rw [decide_eq_true hfit] at h; cases h
              have F7 : Hid (∀ w7, Kept [] wr w7 → _) := fun w7 k7 => FIX.out w7 S (hKS.trans k7 (fun i hi => by cases hi)) hS.out
              have HTt := Lib.hid hT
              clear hfit MF hT hM hKS
              go_wp2_with (first | (go_at_call 50; refine MFY.out.mono ?_; rintro e w7 ⟨rfl, k7⟩; obtain ⟨e2, e3, ek⟩ := F7.out w7 k7; have g2 : w7.cell? ⟨R2, 0, none⟩ = some (.pointer (some ⟨p, 0, none⟩)) := (by rw [cell_of_row w7 R2 0 _ _ (0, 0) e2]; rfl); have g3 : w7.cell? ⟨R3, 0, none⟩ = some (.int .i64 0) := (by rw [cell_of_row w7 R3 0 _ _ (0, 0) e3]; rfl); have fz2 : ∀ i, w7.frozen? ⟨R2, i, none⟩ = false := (fun i => by simp [World.frozen?, e2]); have fz3 : ∀ i, w7.frozen? ⟨R3, i, none⟩ = false := (fun i => by simp [World.frozen?, e3]); have g32 : (w7.setCell ⟨R2, 0, none⟩ (.pointer (some ⟨p, 0, none⟩))).cell? ⟨R3, 0, none⟩ = some (.int .i64 0) := (by rw [World.cell?_setCell_far _ _ _ _ HR.out]; exact g3)))
              obtain ⟨e2, e3, ek⟩ := F7.out w7 k7
              obtain ⟨wf, hwf⟩ : ∃ wf, wf = (w7.setCell ⟨R2, 0, none⟩ (.pointer (some ⟨p, 0, none⟩))).setCell ⟨R3, 0, none⟩ (.int .i64 0) := ⟨_, rfl⟩
              have kf : Kept [R2, R3] w7 wf := by
                rw [hwf]
                exact ((Kept.refl _ w7).setCell (p := ⟨R2, 0, none⟩) (Or.inl (by simp)) _).setCell (p := ⟨R3, 0, none⟩) (Or.inl (by simp)) _
              have h2f : wf.heap[R2]? = some (.cells #[.pointer (some ⟨p, 0, none⟩)] 29 (0, 0)) := by
                rw [hwf]
                exact (Below.heap_setCell _ _ _ _ HR.out).trans (by simpa using heap_set (i := 0) (Value.pointer (some ⟨p, 0, none⟩)) e2)
              have h3f : wf.heap[R3]? = some (.cells #[.int .i64 0] 37 (0, 0)) := by
                rw [hwf]
                have x3 : (w7.setCell ⟨R2, 0, none⟩ (.pointer (some ⟨p, 0, none⟩))).heap[R3]? = some (.cells #[.int .i64 0] 37 (0, 0)) := (Below.heap_setCell _ _ _ _ (fun h => HR.out h.symm)).trans e3
                simpa using heap_set (i := 0) (Value.int .i64 0) x3
              have TF := (HTt.out.kept k7).boxes e2 e3 kf
              have KF : Kept [] w wf := ek.trans kf (fun i hi => by have := HRL.out; simp at hi; omega)
              have c2 : wf.cell? ⟨R2, 0, none⟩ = some (.pointer (some ⟨p, 0, none⟩)) := by rw [cell_of_row wf R2 0 _ _ (0, 0) h2f]; rfl
              have c3 : wf.cell? ⟨R3, 0, none⟩ = some (.int .i64 0) := by rw [cell_of_row wf R3 0 _ _ (0, 0) h3f]; rfl
              rw [← hwf]
              clear hwf g2 g3 fz2 fz3 g32
              refine leaves_cons (f := 43) (args := #[.pointer (some ⟨R2, 0, none⟩), .pointer (some ⟨R3, 0, none⟩)]) (by simp) (by simp [go_sem]) ?_
              refine (parse1_idle _ _ _).mono ?_
              rintro e u' w'' ⟨rfl, rfl, rfl⟩
              simp [Leaves, settle, results, Tryz.f20, go_sem, c2, c3]
              exact Or.inl ⟨accs L, B, p, PAR.out, rfl, ⟨sl, m1, m2, n2, L, TF, rfl⟩, by rw [accs_length]; omega, hF.out, KF⟩
            · have PAR := Lib.hid (P2.out (accs L) HP1.out HPP.out (by omega))
              have MFN : Hid (Calls Tryz.prog 50 #[.pointer (some ⟨p, 0, none⟩)] wr fun e w7 => e = fell 1 ∧ Kept [] wr w7) := by
                refine MF.out.mono ?_
                rintro e w7 (⟨h, -⟩ | ⟨-, rfl, k7⟩)
                · rw [decide_eq_false hfit] at h; cases h
                · exact ⟨rfl, k7⟩
              have F7 : Hid (∀ w7, Kept [] wr w7 → _) := fun w7 k7 => FIX.out w7 S (hKS.trans k7 (fun i hi => by cases hi)) hS.out
              clear hfit MF hT hM hKS
              go_wp2_with (first | (go_at_call 50; refine MFN.out.mono ?_; rintro e w7 ⟨rfl, k7⟩))
              exact give_up (k := 1) (ln := 0) rfl rfl rfl (by rfl) HR.out HRL.out (F7.out w7 k7) PAR.out (by decide)
end Us
end Go.Proofs.YteeheapenfklcaaGreatDoor
