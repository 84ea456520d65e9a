/- rules: the document's examples, walked as the laws ask for them. -/
import Derived.Test.YteeheapenfklcaaGreatDoorRu5
import Derived.Test.YteeheapenfklcaaGreatDoorUpa
namespace Go.Proofs.YteeheapenfklcaaGreatDoor
set_option linter.unusedVariables false
open Go.RowKit Go.Shelf
attribute [local go_sem] Oper.semAt_some
namespace Ru
open Go.Proofs.YteeheapenfklcaaGreatDoor.Utf Go.Proofs.YteeheapenfklcaaGreatDoor.Txt Go.PlainAid Go.Proofs.YteeheapenfklcaaGreatDoor.Mpf Go.Proofs.YteeheapenfklcaaGreatDoor.Us

/-- A node's block, known whole. -/
def Bz (w : World) (B : Nat) (cs : Array Value) : Prop := w.heap[B]? = some (.cells cs 46 (0, 0))
theorem Bz.lt {w : World} {B : Nat} {cs : Array Value} (h : Bz w B cs) : B < w.heap.size := block_lt h
theorem Bz.kept {S : List Nat} {w w' : World} {B : Nat} {cs : Array Value} (h : Bz w B cs) (k : Kept S w w') (hn : B ∉ S) : Bz w' B cs := (k.block B h.lt hn).trans h
theorem Bz.made (w : World) (cs : Array Value) : Bz (w.alloc (.cells cs 46)) w.heap.size cs := (MapKept.heap_alloc w _).1
theorem Bz.cell {w : World} {B : Nat} {cs : Array Value} (h : Bz w B cs) (i : Nat) {v : Value} (hv : cs[i]? = some v) : w.cell? ⟨B, i, none⟩ = some v := by rw [cell_of_row w B i cs 46 (0, 0) h]; exact hv
theorem size_node8 : (Tryz.prog.info? 46).map (·.size) = some 13 := by kernel_rfl
theorem wpList_lnode {w : World} {ops : Array Oper} {rest : List Oper} {o : Oper} {a : Act} {Q : Exit → Act → World → Prop} (hgd : o.guard = none) (x : Operand) (ho : o.op = .load 46 x) (B : Nat) (V : Array Value) (hs : V.size = 13) (h : Bz w B V) (hx : a.eval x = .pointer (some ⟨B, 0, none⟩))
    (hK : wpList Tryz.prog ops Q rest (a.put o.dst (.agg V)) w) : wpList Tryz.prog ops Q (o :: rest) a w :=
  wpList_plain hgd fun K hK' => wp_load_row 46 x ho B hx 46 _ (0, 0) _ h Tryz.underlying46 rfl (by rw [hs]; exact size_node8) (hK' _ _ hK)
theorem wpList_snode {w : World} {ops : Array Oper} {rest : List Oper} {o : Oper} {a : Act} {Q : Exit → Act → World → Prop} (hgd : o.guard = none) (x y : Operand) (ho : o.op = .store 46 x y) (g : Nat) (hx : a.eval x = .pointer (some ⟨g, 0, none⟩)) (old cs : Array Value)
    (hy : a.eval y = .agg cs) (hg : Bz w g old) (hs : old.size = 13) (hc : cs.size = 13) (h1 : cs.all (·.oneCell') = true)
    (h : ∀ w', Bz w' g cs → Kept [g] w w' → wpList Tryz.prog ops Q rest (a.put o.dst undef) w') : wpList Tryz.prog ops Q (o :: rest) a w :=
  wpList_plain hgd fun K hK => by
    have := run_storeVar_row (P := Tryz.prog) w g 46 46 old cs hg (by rw [hc]; exact size_node8) (by rw [hs, hc]) h1
    unfold Oper.wp execOp
    simp only [ho, hx, hy, Instr.storeAt, Instr.sureAddr, Sem.run_bind, Sem.run_pure, Result.andThen_ok, this]
    exact hK _ _ (h _ (setRow_heap w g old cs 46 (0, 0) hg) ⟨rfl, rfl, rfl, by simp [World.setRow], fun k _ hk => setRow_other w g k _ (by simpa using hk)⟩)
set_option maxRecDepth 100000 in
/-- The example's table comes out. -/
theorem parse_example (w : World) (hm : Ml w) : Calls Tryz.prog 20 #[.string ⟨#[103, 108, 101, 110, 100, 97, 58, 58, 58, 10, 115, 121, 115, 58, 103, 108, 101, 110, 100, 97, 58, 98, 111, 98, 58, 10, 98, 111, 98, 58, 58, 58, 10, 101, 118, 101, 58, 58, 58, 10]⟩] w fun e w' => ∃ B p, e = .returned (.tuple #[.pointer (some ⟨p, 0, none⟩), .int .i64 0, .int .i64 0]) ∧ Tb w' B p peopleT ∧ Kept [] w w' := by
  refine (parse_any w people hm (by decide)).mono ?_
  rintro e w' (⟨T, B, p, h1, h2, h3, -, -, h4⟩ | ⟨er, ln, h1, -⟩)
  · rw [parse_people] at h1
    cases h1
    exact ⟨B, p, h2, h3, h4⟩
  · rw [parse_people] at h1
    cases h1
set_option maxHeartbeats 8000000 in
set_option maxRecDepth 100000 in
theorem known_any (w : World) (hm : Ml w) : Calls Tryz.prog 15 #[] w fun e w' => e = .returned (.bool true) ∧ Kept [] w w' := by
  have PAR := Lib.hid (parse_example w hm)
  clear hm
  go_enter Tryz.func15, Tryz.ntmps15
  go_wp2_with (first | (go_at_call 20; refine PAR.out.mono ?_; rintro e w2 ⟨B, p, rfl, tb, k2⟩; have TB := Lib.hid tb; have K2 := Lib.hid k2; clear tb k2) | (refine wpList_snode rfl (.tmp 4) (.tmp 22) rfl w2.heap.size rfl _ #[.int .u64 7, .int .u64 0, .string ⟨#[]⟩, .int .u32 416, .string ⟨#[98, 111, 98]⟩, .string ⟨#[115, 121, 115]⟩, .string ⟨#[]⟩, .int .u32 0, .int .u32 0, .int .u32 0, .int .u64 0, .int .i64 0, .int .i64 0] rfl (Bz.made _ _) rfl rfl (by simp [Value.oneCell']) ?_; intro w4 b4 k4; have K4 : Hid (Kept [] w2 w4) := ((Kept.refl [] w2).alloc _).trans k4 (fun i hi => Or.inr (by simp at hi; omega)); have B4 := Lib.hid b4; clear b4 k4) | (refine wpList_snode rfl (.tmp 5) (.tmp 23) rfl w4.heap.size rfl _ #[.int .u64 3, .int .u64 0, .string ⟨#[]⟩, .int .u32 2147484141, .string ⟨#[98, 111, 98]⟩, .string ⟨#[98, 111, 98]⟩, .string ⟨#[]⟩, .int .u32 0, .int .u32 0, .int .u32 0, .int .u64 0, .int .i64 0, .int .i64 0] rfl (Bz.made _ _) rfl rfl (by simp [Value.oneCell']) ?_; intro w5 b5 k5; have K5 : Hid (Kept [] w4 w5) := ((Kept.refl [] w4).alloc _).trans k5 (fun i hi => Or.inr (by simp at hi; omega)); have D5 := Lib.hid b5; have N5 := Lib.hid (B4.out.kept K5.out (by simp)); have T5 := Lib.hid (TB.out.kept (K4.out.trans K5.out (fun i hi => by cases hi))); clear b5 k5) | (refine wpList_lnode rfl (.tmp 5) rfl w4.heap.size #[.int .u64 3, .int .u64 0, .string ⟨#[]⟩, .int .u32 2147484141, .string ⟨#[98, 111, 98]⟩, .string ⟨#[98, 111, 98]⟩, .string ⟨#[]⟩, .int .u32 0, .int .u32 0, .int .u32 0, .int .u64 0, .int .i64 0, .int .i64 0] rfl D5.out rfl ?_) | (go_at_call 35; refine (create_bob T5.out).mono ?_; rintro e w6 ⟨rfl, k6⟩; have K6 := Lib.hid k6; clear k6))
  obtain ⟨w7, hw7⟩ : ∃ w7, w7 = w6.alloc (.cells #[.int .u64 0, .int .u64 3, .string ⟨#[120]⟩, .int .u32 493, .string ⟨#[98, 111, 98]⟩, .string ⟨#[98, 111, 98]⟩, .string ⟨#[98, 111, 98]⟩, .int .u32 0, .int .u32 0, .int .u32 0, .int .u64 0, .int .i64 0, .int .i64 0] 46) := ⟨_, rfl⟩
  have K7 : Hid (Kept [] w5 w7) := by rw [hw7]; exact K6.out.alloc _
  have M7 : Hid (Bz w7 w6.heap.size #[.int .u64 0, .int .u64 3, .string ⟨#[120]⟩, .int .u32 493, .string ⟨#[98, 111, 98]⟩, .string ⟨#[98, 111, 98]⟩, .string ⟨#[98, 111, 98]⟩, .int .u32 0, .int .u32 0, .int .u32 0, .int .u64 0, .int .i64 0, .int .i64 0]) := by rw [hw7]; exact Bz.made _ _
  have N7 := Lib.hid (N5.out.kept K7.out (by simp))
  have D7 := Lib.hid (D5.out.kept K7.out (by simp))
  have T7 := Lib.hid (T5.out.kept K7.out)
  obtain ⟨R, hR⟩ : ∃ R, R = w6.heap.size := ⟨_, rfl⟩
  rw [← hw7, ← hR]
  rw [← hR] at M7
  clear hw7 hR
  have KW : Hid (Kept [] w w7) := K2.out.trans (K4.out.trans (K5.out.trans K7.out (fun i hi => by cases hi)) (fun i hi => by cases hi)) (fun i hi => by cases hi)
  have RB : Hid (∀ w', Tb w' B p peopleT → Calls Tryz.prog 38 #[.pointer (some ⟨p, 0, none⟩), .string ⟨#[98, 111, 98]⟩, .agg #[.int .u64 7, .int .u64 0, .string ⟨#[]⟩, .int .u32 416, .string ⟨#[98, 111, 98]⟩, .string ⟨#[115, 121, 115]⟩, .string ⟨#[]⟩, .int .u32 0, .int .u32 0, .int .u32 0, .int .u64 0, .int .i64 0, .int .i64 0]] w' fun e w'' => e = .returned (.int .u8 6) ∧ Kept [] w' w'') := fun w' h => by
    have := rights_t h bob nN (by decide) (by decide)
    rw [rights_facts.1] at this
    exact this
  have RG : Hid (∀ w', Tb w' B p peopleT → Calls Tryz.prog 38 #[.pointer (some ⟨p, 0, none⟩), .string ⟨#[103, 108, 101, 110, 100, 97]⟩, .agg #[.int .u64 7, .int .u64 0, .string ⟨#[]⟩, .int .u32 416, .string ⟨#[98, 111, 98]⟩, .string ⟨#[115, 121, 115]⟩, .string ⟨#[]⟩, .int .u32 0, .int .u32 0, .int .u32 0, .int .u64 0, .int .i64 0, .int .i64 0]] w' fun e w'' => e = .returned (.int .u8 0) ∧ Kept [] w' w'') := fun w' h => by
    have := rights_t h glenda nN (by decide) (by decide)
    rw [rights_facts.2.1] at this
    exact this
  refine (wants_18 _).mono ?_
  rintro e w8 ⟨rfl, rfl⟩
  go_wp2_with (first | (refine wpList_lnode rfl (.tmp 4) rfl w2.heap.size #[.int .u64 7, .int .u64 0, .string ⟨#[]⟩, .int .u32 416, .string ⟨#[98, 111, 98]⟩, .string ⟨#[115, 121, 115]⟩, .string ⟨#[]⟩, .int .u32 0, .int .u32 0, .int .u32 0, .int .u64 0, .int .i64 0, .int .i64 0] rfl N7.out rfl ?_) | (refine wpList_lnode rfl (.tmp 5) rfl w4.heap.size #[.int .u64 3, .int .u64 0, .string ⟨#[]⟩, .int .u32 2147484141, .string ⟨#[98, 111, 98]⟩, .string ⟨#[98, 111, 98]⟩, .string ⟨#[]⟩, .int .u32 0, .int .u32 0, .int .u32 0, .int .u64 0, .int .i64 0, .int .i64 0] rfl D7.out rfl ?_) | (go_at_call 37; refine (open_eve T7.out).mono ?_; rintro e w9 ⟨rfl, k9⟩; have K9 := Lib.hid k9; have N9 := Lib.hid (N7.out.kept k9 (by simp)); have M9 := Lib.hid (M7.out.kept k9 (by simp)); have T9 := Lib.hid (T7.out.kept k9); clear k9) | (refine wpList_lnode rfl (.tmp 4) rfl w2.heap.size #[.int .u64 7, .int .u64 0, .string ⟨#[]⟩, .int .u32 416, .string ⟨#[98, 111, 98]⟩, .string ⟨#[115, 121, 115]⟩, .string ⟨#[]⟩, .int .u32 0, .int .u32 0, .int .u32 0, .int .u64 0, .int .i64 0, .int .i64 0] rfl N9.out rfl ?_) | (go_at_call 38; refine (RB.out _ T9.out).mono ?_; rintro e w10 ⟨rfl, k10⟩; have K10 := Lib.hid k10; have N10 := Lib.hid (N9.out.kept k10 (by simp)); have M10 := Lib.hid (M9.out.kept k10 (by simp)); have T10 := Lib.hid (T9.out.kept k10); have q0 := N10.out.cell 0 (v := .int .u64 7) rfl; have q1 := N10.out.cell 1 (v := .int .u64 0) rfl; have q2 := N10.out.cell 2 (v := .string ⟨#[]⟩) rfl; have q3 := N10.out.cell 3 (v := .int .u32 416) rfl; have q4 := N10.out.cell 4 (v := .string ⟨#[98, 111, 98]⟩) rfl; have q5 := N10.out.cell 5 (v := .string ⟨#[115, 121, 115]⟩) rfl; have q6 := N10.out.cell 6 (v := .string ⟨#[]⟩) rfl; have q7 := N10.out.cell 7 (v := .int .u32 0) rfl; have q8 := N10.out.cell 8 (v := .int .u32 0) rfl; have q9 := N10.out.cell 9 (v := .int .u32 0) rfl; have q10 := N10.out.cell 10 (v := .int .u64 0) rfl; have q11 := N10.out.cell 11 (v := .int .i64 0) rfl; have q12 := N10.out.cell 12 (v := .int .i64 0) rfl; clear k10) | (go_at_call 38; refine (RG.out _ T10.out).mono ?_; rintro e w11 ⟨rfl, k11⟩; have K11 := Lib.hid k11; have M11 := Lib.hid (M10.out.kept k11 (by simp)); have m1 := M11.out.cell 1 rfl; have m2 := M11.out.cell 2 rfl; have m3 := M11.out.cell 3 rfl; have m4 := M11.out.cell 4 rfl; clear k11))
  go_ret
  exact ⟨rfl, KW.out.trans (K9.out.trans (K10.out.trans K11.out (fun i hi => by cases hi)) (fun i hi => by cases hi)) (fun i hi => by cases hi)⟩
end Ru
end Go.Proofs.YteeheapenfklcaaGreatDoor
