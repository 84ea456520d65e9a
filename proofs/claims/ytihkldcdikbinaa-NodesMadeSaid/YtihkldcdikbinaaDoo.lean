/- What Do of nodes does, kind by kind, by what is done at the table or at a node. -/
import Derived.Test.YtihkldcdikbinaaTbl
namespace Go.Proofs.Ytihkldcdikbinaa
set_option linter.unusedVariables false
open Go.RowKit
namespace Nd
open Go.Proofs.Ytihkldcdikbinaa.Utf Go.Proofs.Ytihkldcdikbinaa.Txt Go.PlainAid Go.Proofs.Ytihkldcdikbinaa.Mpf

theorem wpList_load_V {w : World} {ops : Array Oper} {rest : List Oper} {op : Oper} {a : Act} {Q : Exit → Act → World → Prop} (hgd : op.guard = none) (x : Operand) (ho : op.op = .load 55 x) (B : Nat) (V : Array Value) (hs : V.size = 20) (h : Bx w B 55 V) (hx : a.eval x = .pointer (some ⟨B, 0, none⟩))
    (hK : wpList Try.prog ops Q rest (a.put op.dst (.agg V)) w) : wpList Try.prog ops Q (op :: rest) a w :=
  wpList_plain hgd fun K hK' => wp_load_row 55 x ho B hx 55 _ (0, 0) _ h Try.underlying55 rfl (by rw [hs]; exact size_op) (hK' _ _ hK)
set_option maxRecDepth 100000 in
theorem do_1 (w : World) (p : Nat) (V : Array Value) (R : Int → Int → World → Prop) (hs : V.size = 20) (hk : V[0]? = some (.int .u8 1))
    (hA : ∀ W, Kept [] w W → Calls Try.prog 42 #[.pointer (some ⟨p, 0, none⟩), .agg V, .func (.func 43) #[] #[]] W fun e w' => ∃ r er : Int, e = .returned (.tuple #[.int .u64 r, .int .i64 er]) ∧ R r er w') :
    Calls Try.prog 22 #[.pointer (some ⟨p, 0, none⟩), .agg V] w fun e w' => ∃ r er : Int, e = .returned (.tuple #[.int .u64 r, .int .i64 er]) ∧ R r er w' := by
  have AT := Lib.hid (hA (w.alloc (.cells V 55)) ((Kept.refl [] w).alloc _))
  have B0 := Lib.hid (Bx.made w 55 V)
  have c0 := B0.out.cell 0 hk
  have HS := Lib.hid hs
  clear hA hk hs
  go_enter Try.func22, Try.ntmps22
  go_wp2_with (first | (go_at_call 42; refine AT.out.mono ?_; rintro e w1 ⟨r, er, rfl, h⟩; have HR := Lib.hid h; clear h) | (refine wpList_load_V rfl _ rfl w.heap.size V HS.out B0.out rfl ?_))
  go_ret2
  exact ⟨r, er, rfl, HR.out⟩
set_option maxRecDepth 100000 in
theorem do_2 (w : World) (p : Nat) (V : Array Value) (R : Int → Int → World → Prop) (hs : V.size = 20) (hk : V[0]? = some (.int .u8 2))
    (hA : ∀ W, Kept [] w W → Calls Try.prog 42 #[.pointer (some ⟨p, 0, none⟩), .agg V, .func (.func 44) #[] #[]] W fun e w' => ∃ r er : Int, e = .returned (.tuple #[.int .u64 r, .int .i64 er]) ∧ R r er w') :
    Calls Try.prog 22 #[.pointer (some ⟨p, 0, none⟩), .agg V] w fun e w' => ∃ r er : Int, e = .returned (.tuple #[.int .u64 r, .int .i64 er]) ∧ R r er w' := by
  have AT := Lib.hid (hA (w.alloc (.cells V 55)) ((Kept.refl [] w).alloc _))
  have B0 := Lib.hid (Bx.made w 55 V)
  have c0 := B0.out.cell 0 hk
  have HS := Lib.hid hs
  clear hA hk hs
  go_enter Try.func22, Try.ntmps22
  go_wp2_with (first | (go_at_call 42; refine AT.out.mono ?_; rintro e w1 ⟨r, er, rfl, h⟩; have HR := Lib.hid h; clear h) | (refine wpList_load_V rfl _ rfl w.heap.size V HS.out B0.out rfl ?_))
  go_ret2
  exact ⟨r, er, rfl, HR.out⟩
set_option maxRecDepth 100000 in
theorem do_3 (w : World) (p : Nat) (V : Array Value) (R : Int → Int → World → Prop) (hs : V.size = 20) (hk : V[0]? = some (.int .u8 3))
    (hA : ∀ W, Kept [] w W → Calls Try.prog 42 #[.pointer (some ⟨p, 0, none⟩), .agg V, .func (.func 45) #[] #[]] W fun e w' => ∃ r er : Int, e = .returned (.tuple #[.int .u64 r, .int .i64 er]) ∧ R r er w') :
    Calls Try.prog 22 #[.pointer (some ⟨p, 0, none⟩), .agg V] w fun e w' => ∃ r er : Int, e = .returned (.tuple #[.int .u64 r, .int .i64 er]) ∧ R r er w' := by
  have AT := Lib.hid (hA (w.alloc (.cells V 55)) ((Kept.refl [] w).alloc _))
  have B0 := Lib.hid (Bx.made w 55 V)
  have c0 := B0.out.cell 0 hk
  have HS := Lib.hid hs
  clear hA hk hs
  go_enter Try.func22, Try.ntmps22
  go_wp2_with (first | (go_at_call 42; refine AT.out.mono ?_; rintro e w1 ⟨r, er, rfl, h⟩; have HR := Lib.hid h; clear h) | (refine wpList_load_V rfl _ rfl w.heap.size V HS.out B0.out rfl ?_))
  go_ret2
  exact ⟨r, er, rfl, HR.out⟩
set_option maxRecDepth 100000 in
theorem do_4 (w : World) (p : Nat) (V : Array Value) (R : Int → Int → World → Prop) (hs : V.size = 20) (hk : V[0]? = some (.int .u8 4))
    (hA : ∀ W, Kept [] w W → Calls Try.prog 46 #[.pointer (some ⟨p, 0, none⟩), .agg V, .func (.func 47) #[] #[]] W fun e w' => ∃ r er : Int, e = .returned (.tuple #[.int .u64 r, .int .i64 er]) ∧ R r er w') :
    Calls Try.prog 22 #[.pointer (some ⟨p, 0, none⟩), .agg V] w fun e w' => ∃ r er : Int, e = .returned (.tuple #[.int .u64 r, .int .i64 er]) ∧ R r er w' := by
  have AT := Lib.hid (hA (w.alloc (.cells V 55)) ((Kept.refl [] w).alloc _))
  have B0 := Lib.hid (Bx.made w 55 V)
  have c0 := B0.out.cell 0 hk
  have HS := Lib.hid hs
  clear hA hk hs
  go_enter Try.func22, Try.ntmps22
  go_wp2_with (first | (go_at_call 46; refine AT.out.mono ?_; rintro e w1 ⟨r, er, rfl, h⟩; have HR := Lib.hid h; clear h) | (refine wpList_load_V rfl _ rfl w.heap.size V HS.out B0.out rfl ?_))
  go_ret2
  exact ⟨r, er, rfl, HR.out⟩
set_option maxRecDepth 100000 in
theorem do_5 (w : World) (p : Nat) (V : Array Value) (R : Int → Int → World → Prop) (hs : V.size = 20) (hk : V[0]? = some (.int .u8 5))
    (hA : ∀ W, Kept [] w W → Calls Try.prog 46 #[.pointer (some ⟨p, 0, none⟩), .agg V, .func (.func 48) #[] #[]] W fun e w' => ∃ r er : Int, e = .returned (.tuple #[.int .u64 r, .int .i64 er]) ∧ R r er w') :
    Calls Try.prog 22 #[.pointer (some ⟨p, 0, none⟩), .agg V] w fun e w' => ∃ r er : Int, e = .returned (.tuple #[.int .u64 r, .int .i64 er]) ∧ R r er w' := by
  have AT := Lib.hid (hA (w.alloc (.cells V 55)) ((Kept.refl [] w).alloc _))
  have B0 := Lib.hid (Bx.made w 55 V)
  have c0 := B0.out.cell 0 hk
  have HS := Lib.hid hs
  clear hA hk hs
  go_enter Try.func22, Try.ntmps22
  go_wp2_with (first | (go_at_call 46; refine AT.out.mono ?_; rintro e w1 ⟨r, er, rfl, h⟩; have HR := Lib.hid h; clear h) | (refine wpList_load_V rfl _ rfl w.heap.size V HS.out B0.out rfl ?_))
  go_ret2
  exact ⟨r, er, rfl, HR.out⟩
set_option maxRecDepth 100000 in
theorem do_6 (w : World) (p : Nat) (V : Array Value) (R : Int → Int → World → Prop) (hs : V.size = 20) (hk : V[0]? = some (.int .u8 6))
    (hA : ∀ W, Kept [] w W → Calls Try.prog 46 #[.pointer (some ⟨p, 0, none⟩), .agg V, .func (.func 49) #[] #[]] W fun e w' => ∃ r er : Int, e = .returned (.tuple #[.int .u64 r, .int .i64 er]) ∧ R r er w') :
    Calls Try.prog 22 #[.pointer (some ⟨p, 0, none⟩), .agg V] w fun e w' => ∃ r er : Int, e = .returned (.tuple #[.int .u64 r, .int .i64 er]) ∧ R r er w' := by
  have AT := Lib.hid (hA (w.alloc (.cells V 55)) ((Kept.refl [] w).alloc _))
  have B0 := Lib.hid (Bx.made w 55 V)
  have c0 := B0.out.cell 0 hk
  have HS := Lib.hid hs
  clear hA hk hs
  go_enter Try.func22, Try.ntmps22
  go_wp2_with (first | (go_at_call 46; refine AT.out.mono ?_; rintro e w1 ⟨r, er, rfl, h⟩; have HR := Lib.hid h; clear h) | (refine wpList_load_V rfl _ rfl w.heap.size V HS.out B0.out rfl ?_))
  go_ret2
  exact ⟨r, er, rfl, HR.out⟩
set_option maxRecDepth 100000 in
theorem do_7 (w : World) (p : Nat) (V : Array Value) (R : Int → Int → World → Prop) (hs : V.size = 20) (hk : V[0]? = some (.int .u8 7))
    (hA : ∀ W, Kept [] w W → Calls Try.prog 46 #[.pointer (some ⟨p, 0, none⟩), .agg V, .func (.func 50) #[] #[]] W fun e w' => ∃ r er : Int, e = .returned (.tuple #[.int .u64 r, .int .i64 er]) ∧ R r er w') :
    Calls Try.prog 22 #[.pointer (some ⟨p, 0, none⟩), .agg V] w fun e w' => ∃ r er : Int, e = .returned (.tuple #[.int .u64 r, .int .i64 er]) ∧ R r er w' := by
  have AT := Lib.hid (hA (w.alloc (.cells V 55)) ((Kept.refl [] w).alloc _))
  have B0 := Lib.hid (Bx.made w 55 V)
  have c0 := B0.out.cell 0 hk
  have HS := Lib.hid hs
  clear hA hk hs
  go_enter Try.func22, Try.ntmps22
  go_wp2_with (first | (go_at_call 46; refine AT.out.mono ?_; rintro e w1 ⟨r, er, rfl, h⟩; have HR := Lib.hid h; clear h) | (refine wpList_load_V rfl _ rfl w.heap.size V HS.out B0.out rfl ?_))
  go_ret2
  exact ⟨r, er, rfl, HR.out⟩
end Nd
end Go.Proofs.Ytihkldcdikbinaa
