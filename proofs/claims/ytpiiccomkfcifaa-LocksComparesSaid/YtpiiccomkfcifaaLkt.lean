/- locks: one lock's table as it lies; New, isWaiting, holds, admits. -/
import Derived.Test.YtpiiccomkfcifaaLka
import Derived.DeepKeys5
import Derived.Lib.Hide
namespace Go.Proofs.Ytpiiccomkfcifaa
set_option linter.unusedVariables false
open Go.RowKit
namespace Lk
open Go.Proofs.Ytpiiccomkfcifaa.Mpf Go.PlainAid

/-- The one lock of the example, a need of it. -/
def aV : Value := .agg #[.int .u8 3, .int .i64 0, .int .u64 5]
def needV (b : Bool) : Value := .agg #[.int .u8 3, .int .i64 0, .int .u64 5, .bool b]
def unitV : Value := .agg #[]
theorem laidOut : laidOutB Try.prog = true := by kernel_rfl
theorem rowL : (26 : TypeId) < Try.prog.types.size := of_decide_eq_true (by kernel_rfl)
theorem wideL : (match Try.prog.underlying 26 with | some (.array _ _) | some (.struct _) => true | _ => false) = true := by kernel_rfl
theorem deepL : Try.prog.keyType 26 = true := by kernel_rfl
set_option maxRecDepth 100000 in
theorem lawL : WideMaps.KeyLaw Try.prog 26 := deep_law_laid laidOut (m := 3) (by omega) rowL (by kernel_rfl) wideL
theorem keyA : ∃ l, keyOf Try.prog 26 aV = some l := by
  cases h : keyOf Try.prog 26 aV with
  | some l => exact ⟨l, rfl⟩
  | none =>
    have h2 : (keyOf Try.prog 26 aV).isSome = true := by kernel_rfl
    rw [h] at h2
    cases h2
/-- Maps whose one key is the lock. -/
noncomputable def LK : MapK Try.prog 26 Unit where
  enc _ := aV
  ok _ := True
  keyed := Go.Maps.Keyed.of_law lawL
  key _ _ := keyA
  inj x y _ := rfl
/-- Keys that are people. -/
def IK : MapK Try.prog 3 Nat where
  enc n := .int .i64 n
  ok n := n < 9223372036854775808
  keyed := Go.Maps.int_keyed Try.underlying3
  key x hx := ⟨_, Go.Maps.keyOf_int_mk Try.underlying3 (by have hx2 : x < 9223372036854775808 := hx; simp [Lit.wf, IntKind.min, IntKind.max, IntKind.signed, IntKind.bits]; omega)⟩
  inj x y h := by simp at h; omega
theorem zero_need (w : World) : (zeroValue 46).run Try.prog w = .ok (.agg #[.int .u8 0, .int .i64 0, .int .u64 0, .bool false]) w := by kernel_rfl
theorem zero_unit (w : World) : (zeroValue 93).run Try.prog w = .ok unitV w := by kernel_rfl
theorem zero_map (w : World) : (zeroValue 82).run Try.prog w = .ok (.map none) w := by kernel_rfl
theorem zero_lock (w : World) : (zeroValue 68).run Try.prog w = .ok (.pointer none) w := by kernel_rfl
/-- A table: its three maps. -/
def Tab (w : World) (p b1 b2 b3 : Nat) : Prop := Bx w p 67 #[.map (some b1), .map (some b2), .map (some b3)]
/-- What is written: needs. -/
def NeedVals (H : Nat → Option Value) : Prop := ∀ x v, H x = some v → ∃ b, v = needV b
theorem isWaiting_any {w : World} {p b1 b2 b3 n : Nat} {H : Nat → Option Value} (ht : Tab w p b1 b2 b3) (hm : Mp IK w b3 n H) (hv : NeedVals H) (x : Nat) (hx : x < 9223372036854775808) :
    Calls Try.prog 40 #[.pointer (some ⟨p, 0, none⟩), .int .i64 x] w fun e w' => e = .returned (.bool (H x).isSome) ∧ Kept [] w w' := by
  have c2 := Bx.cell ht 2 (v := .map (some b3)) rfl
  have LKP := hm.look Try.underlying65 (zero_need w) (x := x) hx true
  obtain ⟨a0, a1, a2, a3, hV⟩ : ∃ (a0 a1 a2 : Int) (a3 : Bool), (H x).getD (.agg #[.int .u8 0, .int .i64 0, .int .u64 0, .bool false]) = .agg #[.int .u8 a0, .int .i64 a1, .int .u64 a2, .bool a3] := by
    cases hH : H x with
    | none => exact ⟨0, 0, 0, false, rfl⟩
    | some v => obtain ⟨b, rfl⟩ := hv x v hH; exact ⟨3, 0, 5, b, rfl⟩
  rw [hV, if_pos rfl] at LKP
  obtain ⟨r, hr⟩ : ∃ r, r = (H x).isSome := ⟨_, rfl⟩
  rw [← hr] at LKP ⊢
  have LK2 : (Instr.lookup 65 (.map (some b3)) (.int .i64 x) true).run Try.prog w = .ok (.tuple #[.agg #[.int .u8 a0, .int .i64 a1, .int .u64 a2, .bool a3], .bool r]) w := LKP
  have K1 : Hid (Kept [] w (w.alloc (.cells #[.int .u8 a0, .int .i64 a1, .int .u64 a2, .bool a3] 46))) := (Kept.refl _ _).alloc _
  clear LKP hV hr hm hv ht hx
  go_enter Try.func40, Try.ntmps40
  go_wp2_with fail
  go_ret
  exact ⟨rfl, K1.out⟩
/-- What a map of holdings says: a map of its own for each who holds the lock. -/
def Hol (w : World) (G : Nat → Option Value) : Prop := ∀ x v, G x = some v → ∃ b, v = .map (some b) ∧ Mp LK w b 1 (fun _ => some unitV)
theorem Hol.kept {S : List Nat} {w w' : World} {G : Nat → Option Value} (h : Hol w G) (k : Kept S w w') (hS : ∀ x b, G x = some (.map (some b)) → b ∉ S) : Hol w' G := fun x v hv => by
  obtain ⟨b, rfl, hb⟩ := h x v hv
  exact ⟨b, rfl, hb.kept k (hS x b hv)⟩
theorem holds_any {w : World} {p b1 b2 b3 n : Nat} {G : Nat → Option Value} (ht : Tab w p b1 b2 b3) (hm : Mp IK w b2 n G) (hh : Hol w G) (x : Nat) (hx : x < 9223372036854775808) :
    Calls Try.prog 44 #[.pointer (some ⟨p, 0, none⟩), .int .i64 x, aV] w fun e w' => e = .returned (.bool (G x).isSome) ∧ Kept [] w w' := by
  have hm2 := hm
  obtain ⟨es, ck, hb, hs, -⟩ := hm2
  have LK1 : ∀ W' : World, W'.heap[b2]? = some (.map es ck) → (Instr.lookup 64 (.map (some b2)) (.int .i64 x) false).run Try.prog W' = .ok ((G x).getD (.map none)) W' := fun W' h => (hm.of_block (w' := W') (h.trans hb.symm)).look Try.underlying64 (zero_map W') (x := x) hx false
  have B0 : Hid (Bx (w.alloc (.cells #[.int .u8 3, .int .i64 0, .int .u64 5] 26)) w.heap.size 26 #[.int .u8 3, .int .i64 0, .int .u64 5]) := Bx.made _ _ _
  have hb1 : (w.alloc (.cells #[.int .u8 3, .int .i64 0, .int .u64 5] 26)).heap[b2]? = some (.map es ck) := (Below.heap_alloc _ _ _ (block_lt hb)).trans hb
  have c1 : (w.alloc (.cells #[.int .u8 3, .int .i64 0, .int .u64 5] 26)).cell? ⟨p, 1, none⟩ = some (.map (some b2)) := Bx.cell (Bx.alloc ht _) 1 rfl
  have K1 : Hid (Kept [] w (w.alloc (.cells #[.int .u8 3, .int .i64 0, .int .u64 5] 26))) := (Kept.refl _ _).alloc _
  have d0 := B0.out.cell 0 (v := .int .u8 3) rfl
  have d1 := B0.out.cell 1 (v := .int .i64 0) rfl
  have d2 := B0.out.cell 2 (v := .int .u64 5) rfl
  have ht1 : Bx (w.alloc (.cells #[.int .u8 3, .int .i64 0, .int .u64 5] 26)) p 67 #[.map (some b1), .map (some b2), .map (some b3)] := Bx.alloc ht _
  have SL : Hid (∀ w' : World, w'.heap[b2]? = some (.map es ck) → Bx w' p 67 #[.map (some b1), .map (some b2), .map (some b3)] → Bx w' w.heap.size 26 #[.int .u8 3, .int .i64 0, .int .u64 5] → w'.heap[b2]? = some (.map es ck) ∧ w'.cell? ⟨p, 1, none⟩ = some (Value.map (some b2)) ∧ w'.cell? ⟨w.heap.size, 0, none⟩ = some (Value.int .u8 3) ∧ w'.cell? ⟨w.heap.size, 1, none⟩ = some (Value.int .i64 0) ∧ w'.cell? ⟨w.heap.size, 2, none⟩ = some (Value.int .u64 5)) := fun w' h1 h2 h3 => ⟨h1, h2.cell 1 rfl, h3.cell 0 rfl, h3.cell 1 rfl, h3.cell 2 rfl⟩
  have S1 := Lib.hid (SL.out _ hb1 ht1 B0.out)
  have S2 := Lib.hid (SL.out _ ((Below.heap_alloc _ (.cells #[] 93) _ (block_lt hb1)).trans hb1) (ht1.alloc (.cells #[] 93)) (B0.out.alloc (.cells #[] 93)))
  cases hG : G x with
  | none =>
    rw [hG] at LK1
    simp only [Option.getD_none] at LK1
    have LK2 : ∀ W' : World, (Instr.lookup 82 (.map none) (.agg #[.int .u8 3, .int .i64 0, .int .u64 5]) true).run Try.prog W' = .ok (.tuple #[.agg #[], .bool false]) W' := fun W' => by
      obtain ⟨l, hl⟩ := keyA
      exact Maps.look_nil (w := W') true (Go.Maps.Keyed.of_law lawL) Try.underlying82 (zero_unit W') hl
    simp only [Option.isSome_none]
    clear hG hm hh hx hb hs B0
    unfold aV
    go_enter Try.func44, Try.ntmps44
    go_wp2_with fail
    go_region_held3 (fun w' => w'.heap[b2]? = some (.map es ck) ∧ w'.cell? ⟨p, 1, none⟩ = some (Value.map (some b2)) ∧ w'.cell? ⟨w.heap.size, 0, none⟩ = some (Value.int .u8 3) ∧ w'.cell? ⟨w.heap.size, 1, none⟩ = some (Value.int .i64 0) ∧ w'.cell? ⟨w.heap.size, 2, none⟩ = some (Value.int .u64 5)) (first | exact S1.out | exact S2.out) (first | fail)
    all_goals
      rename_i hh
      clear hh
      go_wp2_with fail
      go_ret
      first
        | exact ⟨rfl, K1.out.drew.alloc _⟩
        | exact ⟨rfl, (K1.out.alloc _).drew⟩
  | some v =>
    obtain ⟨b, rfl, hmb⟩ := hh x v hG
    rw [hG] at LK1
    simp only [Option.getD_some] at LK1
    have hmb2 := hmb
    obtain ⟨es', ck', hb', -, -⟩ := hmb2
    have hb2 : (w.alloc (.cells #[.int .u8 3, .int .i64 0, .int .u64 5] 26)).heap[b]? = some (.map es' ck') := (Below.heap_alloc _ _ _ (block_lt hb')).trans hb'
    have LK2 : ∀ W' : World, W'.heap[b]? = some (.map es' ck') → (Instr.lookup 82 (.map (some b)) (.agg #[.int .u8 3, .int .i64 0, .int .u64 5]) true).run Try.prog W' = .ok (.tuple #[.agg #[], .bool true]) W' := fun W' h => (hmb.of_block (w' := W') (h.trans hb'.symm)).look Try.underlying82 (zero_unit W') (x := ()) trivial true
    simp only [Option.isSome_some]
    clear hG hm hh hx hb hs B0 hmb hb'
    unfold aV
    go_enter Try.func44, Try.ntmps44
    go_wp2_with fail
    go_region_held3 (fun w' => w'.heap[b]? = some (.map es' ck') ∧ w'.heap[b2]? = some (.map es ck) ∧ w'.cell? ⟨p, 1, none⟩ = some (Value.map (some b2)) ∧ w'.cell? ⟨w.heap.size, 0, none⟩ = some (Value.int .u8 3) ∧ w'.cell? ⟨w.heap.size, 1, none⟩ = some (Value.int .i64 0) ∧ w'.cell? ⟨w.heap.size, 2, none⟩ = some (Value.int .u64 5)) (first | exact ⟨hb2, S1.out⟩ | exact ⟨(Below.heap_alloc _ _ _ (block_lt hb2)).trans hb2, S2.out⟩) (first | fail)
    all_goals
      rename_i hh
      clear hh
      go_wp2_with fail
      go_ret
      first
        | exact ⟨rfl, K1.out.drew.alloc _⟩
        | exact ⟨rfl, (K1.out.alloc _).drew⟩
/-- Whether somebody could have a lock. -/
def admB (al : Bool) (n : Nat) (b : Bool) : Bool := decide (n = 0) || (!b && !al)
theorem admits_any {w : World} {k bm n : Nat} {al : Bool} {s : Value} {F : Nat → Option Value} (hk : Bx w k 74 #[.bool al, .map (some bm), s]) (hm : Mp IK w bm n F) (x : Nat) (b : Bool) :
    Calls Try.prog 73 #[.pointer (some ⟨k, 0, none⟩), .agg #[.int .i64 x, .bool b]] w fun e w' => e = .returned (.bool (admB al n b)) ∧ Kept [] w w' := by
  have c0 := (hk.alloc (.cells #[.int .i64 x, .bool b] 95)).cell 0 (v := .bool al) rfl
  have c1 := (hk.alloc (.cells #[.int .i64 x, .bool b] 95)).cell 1 (v := .map (some bm)) rfl
  have B0 : Hid (Bx (w.alloc (.cells #[.int .i64 x, .bool b] 95)) w.heap.size 95 #[.int .i64 x, .bool b]) := Bx.made _ _ _
  have d1 := B0.out.cell 1 (v := .bool b) rfl
  have K1 : Hid (Kept [] w (w.alloc (.cells #[.int .i64 x, .bool b] 95))) := (Kept.refl _ _).alloc _
  have LEN := (hm.alloc (.cells #[.int .i64 x, .bool b] 95)).len Try.underlying71 3
  unfold admB
  by_cases hn : n = 0
  · subst hn
    have LEN2 : (Builtin.len_ #[71] 3 #[.map (some bm)]).run Try.prog (w.alloc (.cells #[.int .i64 x, .bool b] 95)) = .ok (.int .i64 0) (w.alloc (.cells #[.int .i64 x, .bool b] 95)) := LEN
    clear LEN hm hk B0
    go_enter Try.func73, Try.ntmps73
    go_wp2_with fail
    go_ret
    exact ⟨rfl, K1.out⟩
  · have n0 : ((n : Int) == 0) = false := by simp; exact hn
    have e0 : decide (n = 0) = false := by simp [hn]
    rw [e0]
    clear hm hk B0 hn e0
    cases b with
    | true =>
      go_enter Try.func73, Try.ntmps73
      go_wp2_with fail
      go_ret
      exact ⟨rfl, K1.out⟩
    | false =>
      go_enter Try.func73, Try.ntmps73
      go_wp2_with fail
      go_ret
      exact ⟨by simp, K1.out⟩
end Lk
end Go.Proofs.Ytpiiccomkfcifaa
