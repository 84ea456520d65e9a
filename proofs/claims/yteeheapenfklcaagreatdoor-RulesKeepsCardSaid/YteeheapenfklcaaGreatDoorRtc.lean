/- What Keep and Touched do. -/
import Derived.Test.YteeheapenfklcaaGreatDoorRtb
import Derived.Test.YteeheapenfklcaaGreatDoorRfl
namespace Go.Proofs.YteeheapenfklcaaGreatDoor
set_option linter.unusedVariables false
open Go.RowKit
/-- Is a field the same in two records? -/
def eqk (s h : Rec) : Nat → Bool
  | 0 => ((s.ty : Int) == (h.ty : Int))
  | 1 => ((s.dev : Int) == (h.dev : Int))
  | 2 => ((s.kind : Int) == (h.kind : Int))
  | 3 => ((s.vers : Int) == (h.vers : Int))
  | 4 => ((s.path : Int) == (h.path : Int))
  | 5 => ((s.mode : Int) == (h.mode : Int))
  | 6 => ((s.atime : Int) == (h.atime : Int))
  | 7 => ((s.mtime : Int) == (h.mtime : Int))
  | 8 => ((s.len : Int) == (h.len : Int))
  | 9 => (s.name.toList == h.name.toList)
  | 10 => (s.uid.toList == h.uid.toList)
  | 11 => (s.gid.toList == h.gid.toList)
  | 12 => (s.muid.toList == h.muid.toList)
  | _ => true
def keepR : Rec := ⟨65535, 4294967295, 255, 4294967295, 18446744073709551615, 4294967295, 4294967295, 4294967295, 18446744073709551615, ⟨#[]⟩, ⟨#[]⟩, ⟨#[]⟩, ⟨#[]⟩⟩
theorem keep_val : keepR.val = .agg #[.int .u16 65535, .int .u32 4294967295, .int .u8 255, .int .u32 4294967295, .int .u64 18446744073709551615, .int .u32 4294967295, .int .u32 4294967295, .int .u32 4294967295, .int .u64 18446744073709551615, .string ⟨#[]⟩, .string ⟨#[]⟩, .string ⟨#[]⟩, .string ⟨#[]⟩] := rfl
/-- Is a field touched? -/
def tk (s h : Rec) (k : Nat) : Bool := !eqk s keepR k && !eqk s h k
/-- A set's number. -/
def tb (f : Nat → Bool) : Nat → Nat
  | 0 => 0
  | n + 1 => tb f n + if f n then 2 ^ n else 0
theorem tb_lt (f : Nat → Bool) : ∀ n, tb f n < 2 ^ n
  | 0 => by simp [tb]
  | n + 1 => by
    have := tb_lt f n
    simp only [tb, Nat.pow_succ]
    split <;> omega
theorem tb_on {f : Nat → Bool} {n : Nat} (h : f n = true) : tb f (n + 1) = tb f n + 2 ^ n := by simp [tb, h]
theorem tb_off {f : Nat → Bool} {n : Nat} (h : f n = false) : tb f (n + 1) = tb f n := by simp [tb, h]
theorem or_bit (a k : Nat) (ha : a < 2 ^ k) (hk : k < 16) : bits .or .u16 (a : Int) ((2 ^ k : Nat) : Int) = ((a + 2 ^ k : Nat) : Int) := by
  have h1 : (2 : Nat) ^ k < 65536 := Nat.pow_lt_pow_right (by decide) hk
  have := Rdr.or_16 a 1 (2 ^ k) k rfl ha (by omega) h1
  rw [Nat.one_mul] at this
  exact this

structure TInv (w : World) (a b c B : Nat) (s h g : Rec) (wr : World) : Prop where
  want : Lies wr a s
  have' : Lies wr b h
  keep : Lies wr c g
  tab : Tab.Lies wr B
  kept : Kept [] w wr
theorem TInv.pure {w : World} {a b c B : Nat} {s h g : Rec} {wr w' : World} (I : TInv w a b c B s h g wr) (hk : Kept [] wr w') : TInv w a b c B s h g w' :=
  ⟨I.want.kept hk (by simp), I.have'.kept hk (by simp), I.keep.kept hk (by simp), I.tab.kept hk (fun _ _ _ => by simp), I.kept.trans hk (fun i hi => by simp at hi)⟩

namespace Stt
open Go.Proofs.YteeheapenfklcaaGreatDoor.Txt

set_option maxRecDepth 100000 in
theorem keep_any (w : World) : Calls Tryz.prog 19 #[] w fun e w' => e = .returned (.agg #[.int .u16 65535, .int .u32 4294967295, .int .u8 255, .int .u32 4294967295, .int .u64 18446744073709551615, .int .u32 4294967295, .int .u32 4294967295, .int .u32 4294967295, .int .u64 18446744073709551615, .string ⟨#[]⟩, .string ⟨#[]⟩, .string ⟨#[]⟩, .string ⟨#[]⟩]) ∧ Kept [] w w' := by
  go_enter Tryz.func19, Tryz.ntmps19
  go_wp2_with fail
  go_returns
  exact ⟨rfl, (Kept.refl [] _).alloc _⟩

set_option maxHeartbeats 8000000 in
set_option maxRecDepth 100000 in
theorem touched_any (w : World) (s h : Rec) : Calls Tryz.prog 40 #[s.val, h.val] w fun e w' => e = .returned (.int .u16 (tb (tk s h) 13 : Nat)) ∧ Kept [] w w' := by
  obtain ⟨f, hf⟩ : ∃ f, f = tk s h := ⟨_, rfl⟩
  have HF : Hid (∀ k, f k = (!eqk s keepR k && !eqk s h k)) := fun k => by rw [hf]; rfl
  rw [← hf]
  clear hf
  have A0 : Hid (Lies ((w.alloc (.cells s.cells 55 (0, 0))).alloc (.cells h.cells 55 (0, 0))) w.heap.size s) := two_old w _ _
  have A1 : Hid (Lies ((w.alloc (.cells s.cells 55 (0, 0))).alloc (.cells h.cells 55 (0, 0))) (w.heap.size + 1) h) := two_new w _ _
  have K0 : Hid (Kept [] w ((w.alloc (.cells s.cells 55 (0, 0))).alloc (.cells h.cells 55 (0, 0)))) := ((Kept.refl [] _).alloc _).alloc _
  unfold Rec.val
  unfold Rec.cells at A0 A1 K0 ⊢
  go_enter Tryz.func40, Tryz.ntmps40
  go_wp2_with fail
  refine (keep_any _).mono ?_
  rintro e w1 ⟨rfl, k1⟩
  have B0 : Hid (Lies (w1.alloc (.cells #[.int .u16 65535, .int .u32 4294967295, .int .u8 255, .int .u32 4294967295, .int .u64 18446744073709551615, .int .u32 4294967295, .int .u32 4294967295, .int .u32 4294967295, .int .u64 18446744073709551615, .string ⟨#[]⟩, .string ⟨#[]⟩, .string ⟨#[]⟩, .string ⟨#[]⟩] 55 (0, 0))) w.heap.size s) := (A0.out.kept k1 (by simp)).kept ((Kept.refl [] w1).alloc _) (by simp)
  have B1 : Hid (Lies (w1.alloc (.cells #[.int .u16 65535, .int .u32 4294967295, .int .u8 255, .int .u32 4294967295, .int .u64 18446744073709551615, .int .u32 4294967295, .int .u32 4294967295, .int .u32 4294967295, .int .u64 18446744073709551615, .string ⟨#[]⟩, .string ⟨#[]⟩, .string ⟨#[]⟩, .string ⟨#[]⟩] 55 (0, 0))) (w.heap.size + 1) h) := (A1.out.kept k1 (by simp)).kept ((Kept.refl [] w1).alloc _) (by simp)
  have B2 : Hid (Lies (w1.alloc (.cells #[.int .u16 65535, .int .u32 4294967295, .int .u8 255, .int .u32 4294967295, .int .u64 18446744073709551615, .int .u32 4294967295, .int .u32 4294967295, .int .u32 4294967295, .int .u64 18446744073709551615, .string ⟨#[]⟩, .string ⟨#[]⟩, .string ⟨#[]⟩, .string ⟨#[]⟩] 55 (0, 0))) w1.heap.size keepR) := heap_alloc_new w1 _
  have K1 : Hid (Kept [] w (w1.alloc (.cells #[.int .u16 65535, .int .u32 4294967295, .int .u8 255, .int .u32 4294967295, .int .u64 18446744073709551615, .int .u32 4294967295, .int .u32 4294967295, .int .u32 4294967295, .int .u64 18446744073709551615, .string ⟨#[]⟩, .string ⟨#[]⟩, .string ⟨#[]⟩, .string ⟨#[]⟩] 55 (0, 0)))) := (K0.out.trans k1 (fun i hi => by simp at hi)).alloc _
  clear k1 A0 A1 K0
  go_wp2_with fail
  refine (Tab.fields_any _).mono ?_
  rintro e w2 ⟨rfl, ht, k2⟩
  obtain ⟨B, hB⟩ : ∃ B, B = (w1.alloc (.cells #[.int .u16 65535, .int .u32 4294967295, .int .u8 255, .int .u32 4294967295, .int .u64 18446744073709551615, .int .u32 4294967295, .int .u32 4294967295, .int .u32 4294967295, .int .u64 18446744073709551615, .string ⟨#[]⟩, .string ⟨#[]⟩, .string ⟨#[]⟩, .string ⟨#[]⟩] 55 (0, 0))).heap.size := ⟨_, rfl⟩
  rw [← hB] at ht ⊢
  have I0 : Hid (TInv w w.heap.size (w.heap.size + 1) w1.heap.size B s h keepR w2) := ⟨B0.out.kept k2 (by simp), B1.out.kept k2 (by simp), B2.out.kept k2 (by simp), ht.out, K1.out.trans k2 (fun i hi => by simp at hi)⟩
  obtain ⟨a, ha⟩ : ∃ a, a = w.heap.size := ⟨_, rfl⟩
  obtain ⟨b, hb⟩ : ∃ b, b = w.heap.size + 1 := ⟨_, rfl⟩
  obtain ⟨c, hc⟩ : ∃ c, c = w1.heap.size := ⟨_, rfl⟩
  rw [← hb, ← ha, ← hc] at I0
  have HT : Hid (tb f 0 = 0) := rfl
  clear hB ht k2 B0 B1 B2 K1
  go_wp2_with fail
  rw [← hb, ← ha, ← hc]
  clear ha hb hc
  go_loopw [5, 12] (fun tv iv' wr => ∃ i : Nat, i ≤ 13 ∧ iv' = .int .i64 i ∧ tv = .int .u16 (tb f i : Nat) ∧ Hid (TInv w a b c B s h keepR wr)) (fun _ iv' _ => 13 - (intOf iv').toNat)
  case atStart => exact ⟨0, by omega, rfl, rfl, I0⟩
  case round =>
    clear I0
    obtain ⟨i, hi, rfl, rfl, I⟩ := hrel
    obtain rfl | rfl | rfl | rfl | rfl | rfl | rfl | rfl | rfl | rfl | rfl | rfl | rfl | rfl : i = 0 ∨ i = 1 ∨ i = 2 ∨ i = 3 ∨ i = 4 ∨ i = 5 ∨ i = 6 ∨ i = 7 ∨ i = 8 ∨ i = 9 ∨ i = 10 ∨ i = 11 ∨ i = 12 ∨ i = 13 := by omega
    · obtain ⟨r1, r2, r3, r4⟩ := I.out.tab.row0
      have hlt := tb_lt f 0
      have HON := Lib.hid (fun h => (tb_on (f := f) (n := 0) h))
      have HOFF := Lib.hid (fun h => (tb_off (f := f) (n := 0) h))
      have HOR := Lib.hid (or_bit (tb f 0) 0 hlt (by decide))
      obtain ⟨t, ht⟩ : ∃ t, t = tb f 0 := ⟨_, rfl⟩
      rw [← ht] at HON HOFF HOR ⊢
      clear hlt ht
      have IW : Hid (TInv w a b c B s h keepR (wr.alloc (.cells #[.int .u16 1, .func (.func 140) #[] #[.pointer (some ⟨B + 0, 0, none⟩)], .func (.func 141) #[] #[.pointer (some ⟨B + 0, 0, none⟩)]] 142 (0, 0)))) := I.out.pure ((Kept.refl [] _).alloc _)
      have LW : Hid ((wr.alloc (.cells #[.int .u16 1, .func (.func 140) #[] #[.pointer (some ⟨B + 0, 0, none⟩)], .func (.func 141) #[] #[.pointer (some ⟨B + 0, 0, none⟩)]] 142 (0, 0))).heap[wr.heap.size]? = some (.cells #[.int .u16 1, .func (.func 140) #[] #[.pointer (some ⟨B + 0, 0, none⟩)], .func (.func 141) #[] #[.pointer (some ⟨B + 0, 0, none⟩)]] 142 (0, 0))) := heap_alloc_new wr _
      have x1 := IW.out.want.cells.1
      have x2 := IW.out.keep.cells.1
      have x3 := IW.out.tab.row0.2.2.2
      cases z1 : eqk s keepR 0 with
      | true =>
        have SM := Lib.hid (Tab.same_0 (wr.alloc (.cells #[.int .u16 1, .func (.func 140) #[] #[.pointer (some ⟨B + 0, 0, none⟩)], .func (.func 141) #[] #[.pointer (some ⟨B + 0, 0, none⟩)]] 142 (0, 0))) a c (B + 0) _ _ true z1 x3 x1 x2)
        have hoff := HOFF.out (by rw [HF.out, z1]; rfl)
        have HO := Lib.hid hoff
        clear z1 x1 x2 x3 hoff HON HOFF HOR
        go_wp2_with fail
        refine SM.out.mono ?_
        rintro e w3 ⟨rfl, k3⟩
        have I3 := Lib.hid (IW.out.pure k3)
        clear k3 IW LW SM I
        go_wp2_with fail
        go_roundw
        case rel => exact ⟨1, by omega, rfl, by rw [HO.out], I3⟩
        case measure => decide
      | false =>
        have SM := Lib.hid (Tab.same_0 (wr.alloc (.cells #[.int .u16 1, .func (.func 140) #[] #[.pointer (some ⟨B + 0, 0, none⟩)], .func (.func 141) #[] #[.pointer (some ⟨B + 0, 0, none⟩)]] 142 (0, 0))) a c (B + 0) _ _ false z1 x3 x1 x2)
        have Z1 := Lib.hid z1
        clear z1 x1 x2 x3
        cases z2 : eqk s h 0 with
        | true =>
          have hoff := HOFF.out (by rw [HF.out, z2, Z1.out]; rfl)
          have HO := Lib.hid hoff
          have Z2 := Lib.hid z2
          clear z2 hoff HON HOFF HOR
          go_wp2_with fail
          refine SM.out.mono ?_
          rintro e w3 ⟨rfl, k3⟩
          have I3 := Lib.hid (IW.out.pure k3)
          have L3 : Hid (w3.heap[wr.heap.size]? = some (.cells #[.int .u16 1, .func (.func 140) #[] #[.pointer (some ⟨B + 0, 0, none⟩)], .func (.func 141) #[] #[.pointer (some ⟨B + 0, 0, none⟩)]] 142 (0, 0))) := (k3.block _ (block_lt LW.out) (by simp)).trans LW.out
          obtain ⟨l0, l1, l2, -⟩ := three L3.out
          clear k3 IW LW SM I
          go_wp2_with fail
          refine (Tab.same_0 _ a b (B + 0) _ _ true Z2.out I3.out.tab.row0.2.2.2 I3.out.want.cells.1 I3.out.have'.cells.1).mono ?_
          rintro e w4 ⟨rfl, k4⟩
          have I4 := Lib.hid (I3.out.pure k4)
          clear k4 I3 L3 l0 l1 l2
          go_wp2_with fail
          go_roundw
          case rel => exact ⟨1, by omega, rfl, by rw [HO.out], I4⟩
          case measure => decide
        | false =>
          have hon := HON.out (by rw [HF.out, z2, Z1.out]; rfl)
          have HO := Lib.hid hon
          have Z2 := Lib.hid z2
          clear z2 hon HON HOFF
          go_wp2_with fail
          refine SM.out.mono ?_
          rintro e w3 ⟨rfl, k3⟩
          have I3 := Lib.hid (IW.out.pure k3)
          have L3 : Hid (w3.heap[wr.heap.size]? = some (.cells #[.int .u16 1, .func (.func 140) #[] #[.pointer (some ⟨B + 0, 0, none⟩)], .func (.func 141) #[] #[.pointer (some ⟨B + 0, 0, none⟩)]] 142 (0, 0))) := (k3.block _ (block_lt LW.out) (by simp)).trans LW.out
          obtain ⟨l0, l1, l2, -⟩ := three L3.out
          clear k3 IW LW SM I
          go_wp2_with fail
          refine (Tab.same_0 _ a b (B + 0) _ _ false Z2.out I3.out.tab.row0.2.2.2 I3.out.want.cells.1 I3.out.have'.cells.1).mono ?_
          rintro e w4 ⟨rfl, k4⟩
          have I4 := Lib.hid (I3.out.pure k4)
          have L4 : Hid (w4.heap[wr.heap.size]? = some (.cells #[.int .u16 1, .func (.func 140) #[] #[.pointer (some ⟨B + 0, 0, none⟩)], .func (.func 141) #[] #[.pointer (some ⟨B + 0, 0, none⟩)]] 142 (0, 0))) := (k4.block _ (block_lt L3.out) (by simp)).trans L3.out
          clear k4 I3 L3 l0 l1 l2
          obtain ⟨l0, l1, l2, -⟩ := three L4.out
          have hor : bits .or .u16 (t : Int) 1 = ((tb f 1 : Nat) : Int) := by rw [HO.out]; exact HOR.out
          clear HOR HO
          go_wp2_with fail
          go_roundw
          case rel => exact ⟨1, by omega, rfl, by first | rfl | rw [hor], I4⟩
          case measure => decide
    · obtain ⟨r1, r2, r3, r4⟩ := I.out.tab.row1
      have hlt := tb_lt f 1
      have HON := Lib.hid (fun h => (tb_on (f := f) (n := 1) h))
      have HOFF := Lib.hid (fun h => (tb_off (f := f) (n := 1) h))
      have HOR := Lib.hid (or_bit (tb f 1) 1 hlt (by decide))
      obtain ⟨t, ht⟩ : ∃ t, t = tb f 1 := ⟨_, rfl⟩
      rw [← ht] at HON HOFF HOR ⊢
      clear hlt ht
      have IW : Hid (TInv w a b c B s h keepR (wr.alloc (.cells #[.int .u16 2, .func (.func 142) #[] #[.pointer (some ⟨B + 2, 0, none⟩)], .func (.func 143) #[] #[.pointer (some ⟨B + 2, 0, none⟩)]] 142 (0, 0)))) := I.out.pure ((Kept.refl [] _).alloc _)
      have LW : Hid ((wr.alloc (.cells #[.int .u16 2, .func (.func 142) #[] #[.pointer (some ⟨B + 2, 0, none⟩)], .func (.func 143) #[] #[.pointer (some ⟨B + 2, 0, none⟩)]] 142 (0, 0))).heap[wr.heap.size]? = some (.cells #[.int .u16 2, .func (.func 142) #[] #[.pointer (some ⟨B + 2, 0, none⟩)], .func (.func 143) #[] #[.pointer (some ⟨B + 2, 0, none⟩)]] 142 (0, 0))) := heap_alloc_new wr _
      have x1 := IW.out.want.cells.2.1
      have x2 := IW.out.keep.cells.2.1
      have x3 := IW.out.tab.row1.2.2.2
      cases z1 : eqk s keepR 1 with
      | true =>
        have SM := Lib.hid (Tab.same_1 (wr.alloc (.cells #[.int .u16 2, .func (.func 142) #[] #[.pointer (some ⟨B + 2, 0, none⟩)], .func (.func 143) #[] #[.pointer (some ⟨B + 2, 0, none⟩)]] 142 (0, 0))) a c (B + 2) _ _ true z1 x3 x1 x2)
        have hoff := HOFF.out (by rw [HF.out, z1]; rfl)
        have HO := Lib.hid hoff
        clear z1 x1 x2 x3 hoff HON HOFF HOR
        go_wp2_with fail
        refine SM.out.mono ?_
        rintro e w3 ⟨rfl, k3⟩
        have I3 := Lib.hid (IW.out.pure k3)
        clear k3 IW LW SM I
        go_wp2_with fail
        go_roundw
        case rel => exact ⟨2, by omega, rfl, by rw [HO.out], I3⟩
        case measure => decide
      | false =>
        have SM := Lib.hid (Tab.same_1 (wr.alloc (.cells #[.int .u16 2, .func (.func 142) #[] #[.pointer (some ⟨B + 2, 0, none⟩)], .func (.func 143) #[] #[.pointer (some ⟨B + 2, 0, none⟩)]] 142 (0, 0))) a c (B + 2) _ _ false z1 x3 x1 x2)
        have Z1 := Lib.hid z1
        clear z1 x1 x2 x3
        cases z2 : eqk s h 1 with
        | true =>
          have hoff := HOFF.out (by rw [HF.out, z2, Z1.out]; rfl)
          have HO := Lib.hid hoff
          have Z2 := Lib.hid z2
          clear z2 hoff HON HOFF HOR
          go_wp2_with fail
          refine SM.out.mono ?_
          rintro e w3 ⟨rfl, k3⟩
          have I3 := Lib.hid (IW.out.pure k3)
          have L3 : Hid (w3.heap[wr.heap.size]? = some (.cells #[.int .u16 2, .func (.func 142) #[] #[.pointer (some ⟨B + 2, 0, none⟩)], .func (.func 143) #[] #[.pointer (some ⟨B + 2, 0, none⟩)]] 142 (0, 0))) := (k3.block _ (block_lt LW.out) (by simp)).trans LW.out
          obtain ⟨l0, l1, l2, -⟩ := three L3.out
          clear k3 IW LW SM I
          go_wp2_with fail
          refine (Tab.same_1 _ a b (B + 2) _ _ true Z2.out I3.out.tab.row1.2.2.2 I3.out.want.cells.2.1 I3.out.have'.cells.2.1).mono ?_
          rintro e w4 ⟨rfl, k4⟩
          have I4 := Lib.hid (I3.out.pure k4)
          clear k4 I3 L3 l0 l1 l2
          go_wp2_with fail
          go_roundw
          case rel => exact ⟨2, by omega, rfl, by rw [HO.out], I4⟩
          case measure => decide
        | false =>
          have hon := HON.out (by rw [HF.out, z2, Z1.out]; rfl)
          have HO := Lib.hid hon
          have Z2 := Lib.hid z2
          clear z2 hon HON HOFF
          go_wp2_with fail
          refine SM.out.mono ?_
          rintro e w3 ⟨rfl, k3⟩
          have I3 := Lib.hid (IW.out.pure k3)
          have L3 : Hid (w3.heap[wr.heap.size]? = some (.cells #[.int .u16 2, .func (.func 142) #[] #[.pointer (some ⟨B + 2, 0, none⟩)], .func (.func 143) #[] #[.pointer (some ⟨B + 2, 0, none⟩)]] 142 (0, 0))) := (k3.block _ (block_lt LW.out) (by simp)).trans LW.out
          obtain ⟨l0, l1, l2, -⟩ := three L3.out
          clear k3 IW LW SM I
          go_wp2_with fail
          refine (Tab.same_1 _ a b (B + 2) _ _ false Z2.out I3.out.tab.row1.2.2.2 I3.out.want.cells.2.1 I3.out.have'.cells.2.1).mono ?_
          rintro e w4 ⟨rfl, k4⟩
          have I4 := Lib.hid (I3.out.pure k4)
          have L4 : Hid (w4.heap[wr.heap.size]? = some (.cells #[.int .u16 2, .func (.func 142) #[] #[.pointer (some ⟨B + 2, 0, none⟩)], .func (.func 143) #[] #[.pointer (some ⟨B + 2, 0, none⟩)]] 142 (0, 0))) := (k4.block _ (block_lt L3.out) (by simp)).trans L3.out
          clear k4 I3 L3 l0 l1 l2
          obtain ⟨l0, l1, l2, -⟩ := three L4.out
          have hor : bits .or .u16 (t : Int) 2 = ((tb f 2 : Nat) : Int) := by rw [HO.out]; exact HOR.out
          clear HOR HO
          go_wp2_with fail
          go_roundw
          case rel => exact ⟨2, by omega, rfl, by first | rfl | rw [hor], I4⟩
          case measure => decide
    · obtain ⟨r1, r2, r3, r4⟩ := I.out.tab.row2
      have hlt := tb_lt f 2
      have HON := Lib.hid (fun h => (tb_on (f := f) (n := 2) h))
      have HOFF := Lib.hid (fun h => (tb_off (f := f) (n := 2) h))
      have HOR := Lib.hid (or_bit (tb f 2) 2 hlt (by decide))
      obtain ⟨t, ht⟩ : ∃ t, t = tb f 2 := ⟨_, rfl⟩
      rw [← ht] at HON HOFF HOR ⊢
      clear hlt ht
      have IW : Hid (TInv w a b c B s h keepR (wr.alloc (.cells #[.int .u16 4, .func (.func 144) #[] #[.pointer (some ⟨B + 4, 0, none⟩)], .func (.func 145) #[] #[.pointer (some ⟨B + 4, 0, none⟩)]] 142 (0, 0)))) := I.out.pure ((Kept.refl [] _).alloc _)
      have LW : Hid ((wr.alloc (.cells #[.int .u16 4, .func (.func 144) #[] #[.pointer (some ⟨B + 4, 0, none⟩)], .func (.func 145) #[] #[.pointer (some ⟨B + 4, 0, none⟩)]] 142 (0, 0))).heap[wr.heap.size]? = some (.cells #[.int .u16 4, .func (.func 144) #[] #[.pointer (some ⟨B + 4, 0, none⟩)], .func (.func 145) #[] #[.pointer (some ⟨B + 4, 0, none⟩)]] 142 (0, 0))) := heap_alloc_new wr _
      have x1 := IW.out.want.cells.2.2.1
      have x2 := IW.out.keep.cells.2.2.1
      have x3 := IW.out.tab.row2.2.2.2
      cases z1 : eqk s keepR 2 with
      | true =>
        have SM := Lib.hid (Tab.same_2 (wr.alloc (.cells #[.int .u16 4, .func (.func 144) #[] #[.pointer (some ⟨B + 4, 0, none⟩)], .func (.func 145) #[] #[.pointer (some ⟨B + 4, 0, none⟩)]] 142 (0, 0))) a c (B + 4) _ _ true z1 x3 x1 x2)
        have hoff := HOFF.out (by rw [HF.out, z1]; rfl)
        have HO := Lib.hid hoff
        clear z1 x1 x2 x3 hoff HON HOFF HOR
        go_wp2_with fail
        refine SM.out.mono ?_
        rintro e w3 ⟨rfl, k3⟩
        have I3 := Lib.hid (IW.out.pure k3)
        clear k3 IW LW SM I
        go_wp2_with fail
        go_roundw
        case rel => exact ⟨3, by omega, rfl, by rw [HO.out], I3⟩
        case measure => decide
      | false =>
        have SM := Lib.hid (Tab.same_2 (wr.alloc (.cells #[.int .u16 4, .func (.func 144) #[] #[.pointer (some ⟨B + 4, 0, none⟩)], .func (.func 145) #[] #[.pointer (some ⟨B + 4, 0, none⟩)]] 142 (0, 0))) a c (B + 4) _ _ false z1 x3 x1 x2)
        have Z1 := Lib.hid z1
        clear z1 x1 x2 x3
        cases z2 : eqk s h 2 with
        | true =>
          have hoff := HOFF.out (by rw [HF.out, z2, Z1.out]; rfl)
          have HO := Lib.hid hoff
          have Z2 := Lib.hid z2
          clear z2 hoff HON HOFF HOR
          go_wp2_with fail
          refine SM.out.mono ?_
          rintro e w3 ⟨rfl, k3⟩
          have I3 := Lib.hid (IW.out.pure k3)
          have L3 : Hid (w3.heap[wr.heap.size]? = some (.cells #[.int .u16 4, .func (.func 144) #[] #[.pointer (some ⟨B + 4, 0, none⟩)], .func (.func 145) #[] #[.pointer (some ⟨B + 4, 0, none⟩)]] 142 (0, 0))) := (k3.block _ (block_lt LW.out) (by simp)).trans LW.out
          obtain ⟨l0, l1, l2, -⟩ := three L3.out
          clear k3 IW LW SM I
          go_wp2_with fail
          refine (Tab.same_2 _ a b (B + 4) _ _ true Z2.out I3.out.tab.row2.2.2.2 I3.out.want.cells.2.2.1 I3.out.have'.cells.2.2.1).mono ?_
          rintro e w4 ⟨rfl, k4⟩
          have I4 := Lib.hid (I3.out.pure k4)
          clear k4 I3 L3 l0 l1 l2
          go_wp2_with fail
          go_roundw
          case rel => exact ⟨3, by omega, rfl, by rw [HO.out], I4⟩
          case measure => decide
        | false =>
          have hon := HON.out (by rw [HF.out, z2, Z1.out]; rfl)
          have HO := Lib.hid hon
          have Z2 := Lib.hid z2
          clear z2 hon HON HOFF
          go_wp2_with fail
          refine SM.out.mono ?_
          rintro e w3 ⟨rfl, k3⟩
          have I3 := Lib.hid (IW.out.pure k3)
          have L3 : Hid (w3.heap[wr.heap.size]? = some (.cells #[.int .u16 4, .func (.func 144) #[] #[.pointer (some ⟨B + 4, 0, none⟩)], .func (.func 145) #[] #[.pointer (some ⟨B + 4, 0, none⟩)]] 142 (0, 0))) := (k3.block _ (block_lt LW.out) (by simp)).trans LW.out
          obtain ⟨l0, l1, l2, -⟩ := three L3.out
          clear k3 IW LW SM I
          go_wp2_with fail
          refine (Tab.same_2 _ a b (B + 4) _ _ false Z2.out I3.out.tab.row2.2.2.2 I3.out.want.cells.2.2.1 I3.out.have'.cells.2.2.1).mono ?_
          rintro e w4 ⟨rfl, k4⟩
          have I4 := Lib.hid (I3.out.pure k4)
          have L4 : Hid (w4.heap[wr.heap.size]? = some (.cells #[.int .u16 4, .func (.func 144) #[] #[.pointer (some ⟨B + 4, 0, none⟩)], .func (.func 145) #[] #[.pointer (some ⟨B + 4, 0, none⟩)]] 142 (0, 0))) := (k4.block _ (block_lt L3.out) (by simp)).trans L3.out
          clear k4 I3 L3 l0 l1 l2
          obtain ⟨l0, l1, l2, -⟩ := three L4.out
          have hor : bits .or .u16 (t : Int) 4 = ((tb f 3 : Nat) : Int) := by rw [HO.out]; exact HOR.out
          clear HOR HO
          go_wp2_with fail
          go_roundw
          case rel => exact ⟨3, by omega, rfl, by first | rfl | rw [hor], I4⟩
          case measure => decide
    · obtain ⟨r1, r2, r3, r4⟩ := I.out.tab.row3
      have hlt := tb_lt f 3
      have HON := Lib.hid (fun h => (tb_on (f := f) (n := 3) h))
      have HOFF := Lib.hid (fun h => (tb_off (f := f) (n := 3) h))
      have HOR := Lib.hid (or_bit (tb f 3) 3 hlt (by decide))
      obtain ⟨t, ht⟩ : ∃ t, t = tb f 3 := ⟨_, rfl⟩
      rw [← ht] at HON HOFF HOR ⊢
      clear hlt ht
      have IW : Hid (TInv w a b c B s h keepR (wr.alloc (.cells #[.int .u16 8, .func (.func 142) #[] #[.pointer (some ⟨B + 6, 0, none⟩)], .func (.func 143) #[] #[.pointer (some ⟨B + 6, 0, none⟩)]] 142 (0, 0)))) := I.out.pure ((Kept.refl [] _).alloc _)
      have LW : Hid ((wr.alloc (.cells #[.int .u16 8, .func (.func 142) #[] #[.pointer (some ⟨B + 6, 0, none⟩)], .func (.func 143) #[] #[.pointer (some ⟨B + 6, 0, none⟩)]] 142 (0, 0))).heap[wr.heap.size]? = some (.cells #[.int .u16 8, .func (.func 142) #[] #[.pointer (some ⟨B + 6, 0, none⟩)], .func (.func 143) #[] #[.pointer (some ⟨B + 6, 0, none⟩)]] 142 (0, 0))) := heap_alloc_new wr _
      have x1 := IW.out.want.cells.2.2.2.1
      have x2 := IW.out.keep.cells.2.2.2.1
      have x3 := IW.out.tab.row3.2.2.2
      cases z1 : eqk s keepR 3 with
      | true =>
        have SM := Lib.hid (Tab.same_3 (wr.alloc (.cells #[.int .u16 8, .func (.func 142) #[] #[.pointer (some ⟨B + 6, 0, none⟩)], .func (.func 143) #[] #[.pointer (some ⟨B + 6, 0, none⟩)]] 142 (0, 0))) a c (B + 6) _ _ true z1 x3 x1 x2)
        have hoff := HOFF.out (by rw [HF.out, z1]; rfl)
        have HO := Lib.hid hoff
        clear z1 x1 x2 x3 hoff HON HOFF HOR
        go_wp2_with fail
        refine SM.out.mono ?_
        rintro e w3 ⟨rfl, k3⟩
        have I3 := Lib.hid (IW.out.pure k3)
        clear k3 IW LW SM I
        go_wp2_with fail
        go_roundw
        case rel => exact ⟨4, by omega, rfl, by rw [HO.out], I3⟩
        case measure => decide
      | false =>
        have SM := Lib.hid (Tab.same_3 (wr.alloc (.cells #[.int .u16 8, .func (.func 142) #[] #[.pointer (some ⟨B + 6, 0, none⟩)], .func (.func 143) #[] #[.pointer (some ⟨B + 6, 0, none⟩)]] 142 (0, 0))) a c (B + 6) _ _ false z1 x3 x1 x2)
        have Z1 := Lib.hid z1
        clear z1 x1 x2 x3
        cases z2 : eqk s h 3 with
        | true =>
          have hoff := HOFF.out (by rw [HF.out, z2, Z1.out]; rfl)
          have HO := Lib.hid hoff
          have Z2 := Lib.hid z2
          clear z2 hoff HON HOFF HOR
          go_wp2_with fail
          refine SM.out.mono ?_
          rintro e w3 ⟨rfl, k3⟩
          have I3 := Lib.hid (IW.out.pure k3)
          have L3 : Hid (w3.heap[wr.heap.size]? = some (.cells #[.int .u16 8, .func (.func 142) #[] #[.pointer (some ⟨B + 6, 0, none⟩)], .func (.func 143) #[] #[.pointer (some ⟨B + 6, 0, none⟩)]] 142 (0, 0))) := (k3.block _ (block_lt LW.out) (by simp)).trans LW.out
          obtain ⟨l0, l1, l2, -⟩ := three L3.out
          clear k3 IW LW SM I
          go_wp2_with fail
          refine (Tab.same_3 _ a b (B + 6) _ _ true Z2.out I3.out.tab.row3.2.2.2 I3.out.want.cells.2.2.2.1 I3.out.have'.cells.2.2.2.1).mono ?_
          rintro e w4 ⟨rfl, k4⟩
          have I4 := Lib.hid (I3.out.pure k4)
          clear k4 I3 L3 l0 l1 l2
          go_wp2_with fail
          go_roundw
          case rel => exact ⟨4, by omega, rfl, by rw [HO.out], I4⟩
          case measure => decide
        | false =>
          have hon := HON.out (by rw [HF.out, z2, Z1.out]; rfl)
          have HO := Lib.hid hon
          have Z2 := Lib.hid z2
          clear z2 hon HON HOFF
          go_wp2_with fail
          refine SM.out.mono ?_
          rintro e w3 ⟨rfl, k3⟩
          have I3 := Lib.hid (IW.out.pure k3)
          have L3 : Hid (w3.heap[wr.heap.size]? = some (.cells #[.int .u16 8, .func (.func 142) #[] #[.pointer (some ⟨B + 6, 0, none⟩)], .func (.func 143) #[] #[.pointer (some ⟨B + 6, 0, none⟩)]] 142 (0, 0))) := (k3.block _ (block_lt LW.out) (by simp)).trans LW.out
          obtain ⟨l0, l1, l2, -⟩ := three L3.out
          clear k3 IW LW SM I
          go_wp2_with fail
          refine (Tab.same_3 _ a b (B + 6) _ _ false Z2.out I3.out.tab.row3.2.2.2 I3.out.want.cells.2.2.2.1 I3.out.have'.cells.2.2.2.1).mono ?_
          rintro e w4 ⟨rfl, k4⟩
          have I4 := Lib.hid (I3.out.pure k4)
          have L4 : Hid (w4.heap[wr.heap.size]? = some (.cells #[.int .u16 8, .func (.func 142) #[] #[.pointer (some ⟨B + 6, 0, none⟩)], .func (.func 143) #[] #[.pointer (some ⟨B + 6, 0, none⟩)]] 142 (0, 0))) := (k4.block _ (block_lt L3.out) (by simp)).trans L3.out
          clear k4 I3 L3 l0 l1 l2
          obtain ⟨l0, l1, l2, -⟩ := three L4.out
          have hor : bits .or .u16 (t : Int) 8 = ((tb f 4 : Nat) : Int) := by rw [HO.out]; exact HOR.out
          clear HOR HO
          go_wp2_with fail
          go_roundw
          case rel => exact ⟨4, by omega, rfl, by first | rfl | rw [hor], I4⟩
          case measure => decide
    · obtain ⟨r1, r2, r3, r4⟩ := I.out.tab.row4
      have hlt := tb_lt f 4
      have HON := Lib.hid (fun h => (tb_on (f := f) (n := 4) h))
      have HOFF := Lib.hid (fun h => (tb_off (f := f) (n := 4) h))
      have HOR := Lib.hid (or_bit (tb f 4) 4 hlt (by decide))
      obtain ⟨t, ht⟩ : ∃ t, t = tb f 4 := ⟨_, rfl⟩
      rw [← ht] at HON HOFF HOR ⊢
      clear hlt ht
      have IW : Hid (TInv w a b c B s h keepR (wr.alloc (.cells #[.int .u16 16, .func (.func 146) #[] #[.pointer (some ⟨B + 8, 0, none⟩)], .func (.func 147) #[] #[.pointer (some ⟨B + 8, 0, none⟩)]] 142 (0, 0)))) := I.out.pure ((Kept.refl [] _).alloc _)
      have LW : Hid ((wr.alloc (.cells #[.int .u16 16, .func (.func 146) #[] #[.pointer (some ⟨B + 8, 0, none⟩)], .func (.func 147) #[] #[.pointer (some ⟨B + 8, 0, none⟩)]] 142 (0, 0))).heap[wr.heap.size]? = some (.cells #[.int .u16 16, .func (.func 146) #[] #[.pointer (some ⟨B + 8, 0, none⟩)], .func (.func 147) #[] #[.pointer (some ⟨B + 8, 0, none⟩)]] 142 (0, 0))) := heap_alloc_new wr _
      have x1 := IW.out.want.cells.2.2.2.2.1
      have x2 := IW.out.keep.cells.2.2.2.2.1
      have x3 := IW.out.tab.row4.2.2.2
      cases z1 : eqk s keepR 4 with
      | true =>
        have SM := Lib.hid (Tab.same_4 (wr.alloc (.cells #[.int .u16 16, .func (.func 146) #[] #[.pointer (some ⟨B + 8, 0, none⟩)], .func (.func 147) #[] #[.pointer (some ⟨B + 8, 0, none⟩)]] 142 (0, 0))) a c (B + 8) _ _ true z1 x3 x1 x2)
        have hoff := HOFF.out (by rw [HF.out, z1]; rfl)
        have HO := Lib.hid hoff
        clear z1 x1 x2 x3 hoff HON HOFF HOR
        go_wp2_with fail
        refine SM.out.mono ?_
        rintro e w3 ⟨rfl, k3⟩
        have I3 := Lib.hid (IW.out.pure k3)
        clear k3 IW LW SM I
        go_wp2_with fail
        go_roundw
        case rel => exact ⟨5, by omega, rfl, by rw [HO.out], I3⟩
        case measure => decide
      | false =>
        have SM := Lib.hid (Tab.same_4 (wr.alloc (.cells #[.int .u16 16, .func (.func 146) #[] #[.pointer (some ⟨B + 8, 0, none⟩)], .func (.func 147) #[] #[.pointer (some ⟨B + 8, 0, none⟩)]] 142 (0, 0))) a c (B + 8) _ _ false z1 x3 x1 x2)
        have Z1 := Lib.hid z1
        clear z1 x1 x2 x3
        cases z2 : eqk s h 4 with
        | true =>
          have hoff := HOFF.out (by rw [HF.out, z2, Z1.out]; rfl)
          have HO := Lib.hid hoff
          have Z2 := Lib.hid z2
          clear z2 hoff HON HOFF HOR
          go_wp2_with fail
          refine SM.out.mono ?_
          rintro e w3 ⟨rfl, k3⟩
          have I3 := Lib.hid (IW.out.pure k3)
          have L3 : Hid (w3.heap[wr.heap.size]? = some (.cells #[.int .u16 16, .func (.func 146) #[] #[.pointer (some ⟨B + 8, 0, none⟩)], .func (.func 147) #[] #[.pointer (some ⟨B + 8, 0, none⟩)]] 142 (0, 0))) := (k3.block _ (block_lt LW.out) (by simp)).trans LW.out
          obtain ⟨l0, l1, l2, -⟩ := three L3.out
          clear k3 IW LW SM I
          go_wp2_with fail
          refine (Tab.same_4 _ a b (B + 8) _ _ true Z2.out I3.out.tab.row4.2.2.2 I3.out.want.cells.2.2.2.2.1 I3.out.have'.cells.2.2.2.2.1).mono ?_
          rintro e w4 ⟨rfl, k4⟩
          have I4 := Lib.hid (I3.out.pure k4)
          clear k4 I3 L3 l0 l1 l2
          go_wp2_with fail
          go_roundw
          case rel => exact ⟨5, by omega, rfl, by rw [HO.out], I4⟩
          case measure => decide
        | false =>
          have hon := HON.out (by rw [HF.out, z2, Z1.out]; rfl)
          have HO := Lib.hid hon
          have Z2 := Lib.hid z2
          clear z2 hon HON HOFF
          go_wp2_with fail
          refine SM.out.mono ?_
          rintro e w3 ⟨rfl, k3⟩
          have I3 := Lib.hid (IW.out.pure k3)
          have L3 : Hid (w3.heap[wr.heap.size]? = some (.cells #[.int .u16 16, .func (.func 146) #[] #[.pointer (some ⟨B + 8, 0, none⟩)], .func (.func 147) #[] #[.pointer (some ⟨B + 8, 0, none⟩)]] 142 (0, 0))) := (k3.block _ (block_lt LW.out) (by simp)).trans LW.out
          obtain ⟨l0, l1, l2, -⟩ := three L3.out
          clear k3 IW LW SM I
          go_wp2_with fail
          refine (Tab.same_4 _ a b (B + 8) _ _ false Z2.out I3.out.tab.row4.2.2.2 I3.out.want.cells.2.2.2.2.1 I3.out.have'.cells.2.2.2.2.1).mono ?_
          rintro e w4 ⟨rfl, k4⟩
          have I4 := Lib.hid (I3.out.pure k4)
          have L4 : Hid (w4.heap[wr.heap.size]? = some (.cells #[.int .u16 16, .func (.func 146) #[] #[.pointer (some ⟨B + 8, 0, none⟩)], .func (.func 147) #[] #[.pointer (some ⟨B + 8, 0, none⟩)]] 142 (0, 0))) := (k4.block _ (block_lt L3.out) (by simp)).trans L3.out
          clear k4 I3 L3 l0 l1 l2
          obtain ⟨l0, l1, l2, -⟩ := three L4.out
          have hor : bits .or .u16 (t : Int) 16 = ((tb f 5 : Nat) : Int) := by rw [HO.out]; exact HOR.out
          clear HOR HO
          go_wp2_with fail
          go_roundw
          case rel => exact ⟨5, by omega, rfl, by first | rfl | rw [hor], I4⟩
          case measure => decide
    · obtain ⟨r1, r2, r3, r4⟩ := I.out.tab.row5
      have hlt := tb_lt f 5
      have HON := Lib.hid (fun h => (tb_on (f := f) (n := 5) h))
      have HOFF := Lib.hid (fun h => (tb_off (f := f) (n := 5) h))
      have HOR := Lib.hid (or_bit (tb f 5) 5 hlt (by decide))
      obtain ⟨t, ht⟩ : ∃ t, t = tb f 5 := ⟨_, rfl⟩
      rw [← ht] at HON HOFF HOR ⊢
      clear hlt ht
      have IW : Hid (TInv w a b c B s h keepR (wr.alloc (.cells #[.int .u16 32, .func (.func 142) #[] #[.pointer (some ⟨B + 10, 0, none⟩)], .func (.func 143) #[] #[.pointer (some ⟨B + 10, 0, none⟩)]] 142 (0, 0)))) := I.out.pure ((Kept.refl [] _).alloc _)
      have LW : Hid ((wr.alloc (.cells #[.int .u16 32, .func (.func 142) #[] #[.pointer (some ⟨B + 10, 0, none⟩)], .func (.func 143) #[] #[.pointer (some ⟨B + 10, 0, none⟩)]] 142 (0, 0))).heap[wr.heap.size]? = some (.cells #[.int .u16 32, .func (.func 142) #[] #[.pointer (some ⟨B + 10, 0, none⟩)], .func (.func 143) #[] #[.pointer (some ⟨B + 10, 0, none⟩)]] 142 (0, 0))) := heap_alloc_new wr _
      have x1 := IW.out.want.cells.2.2.2.2.2.1
      have x2 := IW.out.keep.cells.2.2.2.2.2.1
      have x3 := IW.out.tab.row5.2.2.2
      cases z1 : eqk s keepR 5 with
      | true =>
        have SM := Lib.hid (Tab.same_5 (wr.alloc (.cells #[.int .u16 32, .func (.func 142) #[] #[.pointer (some ⟨B + 10, 0, none⟩)], .func (.func 143) #[] #[.pointer (some ⟨B + 10, 0, none⟩)]] 142 (0, 0))) a c (B + 10) _ _ true z1 x3 x1 x2)
        have hoff := HOFF.out (by rw [HF.out, z1]; rfl)
        have HO := Lib.hid hoff
        clear z1 x1 x2 x3 hoff HON HOFF HOR
        go_wp2_with fail
        refine SM.out.mono ?_
        rintro e w3 ⟨rfl, k3⟩
        have I3 := Lib.hid (IW.out.pure k3)
        clear k3 IW LW SM I
        go_wp2_with fail
        go_roundw
        case rel => exact ⟨6, by omega, rfl, by rw [HO.out], I3⟩
        case measure => decide
      | false =>
        have SM := Lib.hid (Tab.same_5 (wr.alloc (.cells #[.int .u16 32, .func (.func 142) #[] #[.pointer (some ⟨B + 10, 0, none⟩)], .func (.func 143) #[] #[.pointer (some ⟨B + 10, 0, none⟩)]] 142 (0, 0))) a c (B + 10) _ _ false z1 x3 x1 x2)
        have Z1 := Lib.hid z1
        clear z1 x1 x2 x3
        cases z2 : eqk s h 5 with
        | true =>
          have hoff := HOFF.out (by rw [HF.out, z2, Z1.out]; rfl)
          have HO := Lib.hid hoff
          have Z2 := Lib.hid z2
          clear z2 hoff HON HOFF HOR
          go_wp2_with fail
          refine SM.out.mono ?_
          rintro e w3 ⟨rfl, k3⟩
          have I3 := Lib.hid (IW.out.pure k3)
          have L3 : Hid (w3.heap[wr.heap.size]? = some (.cells #[.int .u16 32, .func (.func 142) #[] #[.pointer (some ⟨B + 10, 0, none⟩)], .func (.func 143) #[] #[.pointer (some ⟨B + 10, 0, none⟩)]] 142 (0, 0))) := (k3.block _ (block_lt LW.out) (by simp)).trans LW.out
          obtain ⟨l0, l1, l2, -⟩ := three L3.out
          clear k3 IW LW SM I
          go_wp2_with fail
          refine (Tab.same_5 _ a b (B + 10) _ _ true Z2.out I3.out.tab.row5.2.2.2 I3.out.want.cells.2.2.2.2.2.1 I3.out.have'.cells.2.2.2.2.2.1).mono ?_
          rintro e w4 ⟨rfl, k4⟩
          have I4 := Lib.hid (I3.out.pure k4)
          clear k4 I3 L3 l0 l1 l2
          go_wp2_with fail
          go_roundw
          case rel => exact ⟨6, by omega, rfl, by rw [HO.out], I4⟩
          case measure => decide
        | false =>
          have hon := HON.out (by rw [HF.out, z2, Z1.out]; rfl)
          have HO := Lib.hid hon
          have Z2 := Lib.hid z2
          clear z2 hon HON HOFF
          go_wp2_with fail
          refine SM.out.mono ?_
          rintro e w3 ⟨rfl, k3⟩
          have I3 := Lib.hid (IW.out.pure k3)
          have L3 : Hid (w3.heap[wr.heap.size]? = some (.cells #[.int .u16 32, .func (.func 142) #[] #[.pointer (some ⟨B + 10, 0, none⟩)], .func (.func 143) #[] #[.pointer (some ⟨B + 10, 0, none⟩)]] 142 (0, 0))) := (k3.block _ (block_lt LW.out) (by simp)).trans LW.out
          obtain ⟨l0, l1, l2, -⟩ := three L3.out
          clear k3 IW LW SM I
          go_wp2_with fail
          refine (Tab.same_5 _ a b (B + 10) _ _ false Z2.out I3.out.tab.row5.2.2.2 I3.out.want.cells.2.2.2.2.2.1 I3.out.have'.cells.2.2.2.2.2.1).mono ?_
          rintro e w4 ⟨rfl, k4⟩
          have I4 := Lib.hid (I3.out.pure k4)
          have L4 : Hid (w4.heap[wr.heap.size]? = some (.cells #[.int .u16 32, .func (.func 142) #[] #[.pointer (some ⟨B + 10, 0, none⟩)], .func (.func 143) #[] #[.pointer (some ⟨B + 10, 0, none⟩)]] 142 (0, 0))) := (k4.block _ (block_lt L3.out) (by simp)).trans L3.out
          clear k4 I3 L3 l0 l1 l2
          obtain ⟨l0, l1, l2, -⟩ := three L4.out
          have hor : bits .or .u16 (t : Int) 32 = ((tb f 6 : Nat) : Int) := by rw [HO.out]; exact HOR.out
          clear HOR HO
          go_wp2_with fail
          go_roundw
          case rel => exact ⟨6, by omega, rfl, by first | rfl | rw [hor], I4⟩
          case measure => decide
    · obtain ⟨r1, r2, r3, r4⟩ := I.out.tab.row6
      have hlt := tb_lt f 6
      have HON := Lib.hid (fun h => (tb_on (f := f) (n := 6) h))
      have HOFF := Lib.hid (fun h => (tb_off (f := f) (n := 6) h))
      have HOR := Lib.hid (or_bit (tb f 6) 6 hlt (by decide))
      obtain ⟨t, ht⟩ : ∃ t, t = tb f 6 := ⟨_, rfl⟩
      rw [← ht] at HON HOFF HOR ⊢
      clear hlt ht
      have IW : Hid (TInv w a b c B s h keepR (wr.alloc (.cells #[.int .u16 64, .func (.func 142) #[] #[.pointer (some ⟨B + 12, 0, none⟩)], .func (.func 143) #[] #[.pointer (some ⟨B + 12, 0, none⟩)]] 142 (0, 0)))) := I.out.pure ((Kept.refl [] _).alloc _)
      have LW : Hid ((wr.alloc (.cells #[.int .u16 64, .func (.func 142) #[] #[.pointer (some ⟨B + 12, 0, none⟩)], .func (.func 143) #[] #[.pointer (some ⟨B + 12, 0, none⟩)]] 142 (0, 0))).heap[wr.heap.size]? = some (.cells #[.int .u16 64, .func (.func 142) #[] #[.pointer (some ⟨B + 12, 0, none⟩)], .func (.func 143) #[] #[.pointer (some ⟨B + 12, 0, none⟩)]] 142 (0, 0))) := heap_alloc_new wr _
      have x1 := IW.out.want.cells.2.2.2.2.2.2.1
      have x2 := IW.out.keep.cells.2.2.2.2.2.2.1
      have x3 := IW.out.tab.row6.2.2.2
      cases z1 : eqk s keepR 6 with
      | true =>
        have SM := Lib.hid (Tab.same_6 (wr.alloc (.cells #[.int .u16 64, .func (.func 142) #[] #[.pointer (some ⟨B + 12, 0, none⟩)], .func (.func 143) #[] #[.pointer (some ⟨B + 12, 0, none⟩)]] 142 (0, 0))) a c (B + 12) _ _ true z1 x3 x1 x2)
        have hoff := HOFF.out (by rw [HF.out, z1]; rfl)
        have HO := Lib.hid hoff
        clear z1 x1 x2 x3 hoff HON HOFF HOR
        go_wp2_with fail
        refine SM.out.mono ?_
        rintro e w3 ⟨rfl, k3⟩
        have I3 := Lib.hid (IW.out.pure k3)
        clear k3 IW LW SM I
        go_wp2_with fail
        go_roundw
        case rel => exact ⟨7, by omega, rfl, by rw [HO.out], I3⟩
        case measure => decide
      | false =>
        have SM := Lib.hid (Tab.same_6 (wr.alloc (.cells #[.int .u16 64, .func (.func 142) #[] #[.pointer (some ⟨B + 12, 0, none⟩)], .func (.func 143) #[] #[.pointer (some ⟨B + 12, 0, none⟩)]] 142 (0, 0))) a c (B + 12) _ _ false z1 x3 x1 x2)
        have Z1 := Lib.hid z1
        clear z1 x1 x2 x3
        cases z2 : eqk s h 6 with
        | true =>
          have hoff := HOFF.out (by rw [HF.out, z2, Z1.out]; rfl)
          have HO := Lib.hid hoff
          have Z2 := Lib.hid z2
          clear z2 hoff HON HOFF HOR
          go_wp2_with fail
          refine SM.out.mono ?_
          rintro e w3 ⟨rfl, k3⟩
          have I3 := Lib.hid (IW.out.pure k3)
          have L3 : Hid (w3.heap[wr.heap.size]? = some (.cells #[.int .u16 64, .func (.func 142) #[] #[.pointer (some ⟨B + 12, 0, none⟩)], .func (.func 143) #[] #[.pointer (some ⟨B + 12, 0, none⟩)]] 142 (0, 0))) := (k3.block _ (block_lt LW.out) (by simp)).trans LW.out
          obtain ⟨l0, l1, l2, -⟩ := three L3.out
          clear k3 IW LW SM I
          go_wp2_with fail
          refine (Tab.same_6 _ a b (B + 12) _ _ true Z2.out I3.out.tab.row6.2.2.2 I3.out.want.cells.2.2.2.2.2.2.1 I3.out.have'.cells.2.2.2.2.2.2.1).mono ?_
          rintro e w4 ⟨rfl, k4⟩
          have I4 := Lib.hid (I3.out.pure k4)
          clear k4 I3 L3 l0 l1 l2
          go_wp2_with fail
          go_roundw
          case rel => exact ⟨7, by omega, rfl, by rw [HO.out], I4⟩
          case measure => decide
        | false =>
          have hon := HON.out (by rw [HF.out, z2, Z1.out]; rfl)
          have HO := Lib.hid hon
          have Z2 := Lib.hid z2
          clear z2 hon HON HOFF
          go_wp2_with fail
          refine SM.out.mono ?_
          rintro e w3 ⟨rfl, k3⟩
          have I3 := Lib.hid (IW.out.pure k3)
          have L3 : Hid (w3.heap[wr.heap.size]? = some (.cells #[.int .u16 64, .func (.func 142) #[] #[.pointer (some ⟨B + 12, 0, none⟩)], .func (.func 143) #[] #[.pointer (some ⟨B + 12, 0, none⟩)]] 142 (0, 0))) := (k3.block _ (block_lt LW.out) (by simp)).trans LW.out
          obtain ⟨l0, l1, l2, -⟩ := three L3.out
          clear k3 IW LW SM I
          go_wp2_with fail
          refine (Tab.same_6 _ a b (B + 12) _ _ false Z2.out I3.out.tab.row6.2.2.2 I3.out.want.cells.2.2.2.2.2.2.1 I3.out.have'.cells.2.2.2.2.2.2.1).mono ?_
          rintro e w4 ⟨rfl, k4⟩
          have I4 := Lib.hid (I3.out.pure k4)
          have L4 : Hid (w4.heap[wr.heap.size]? = some (.cells #[.int .u16 64, .func (.func 142) #[] #[.pointer (some ⟨B + 12, 0, none⟩)], .func (.func 143) #[] #[.pointer (some ⟨B + 12, 0, none⟩)]] 142 (0, 0))) := (k4.block _ (block_lt L3.out) (by simp)).trans L3.out
          clear k4 I3 L3 l0 l1 l2
          obtain ⟨l0, l1, l2, -⟩ := three L4.out
          have hor : bits .or .u16 (t : Int) 64 = ((tb f 7 : Nat) : Int) := by rw [HO.out]; exact HOR.out
          clear HOR HO
          go_wp2_with fail
          go_roundw
          case rel => exact ⟨7, by omega, rfl, by first | rfl | rw [hor], I4⟩
          case measure => decide
    · obtain ⟨r1, r2, r3, r4⟩ := I.out.tab.row7
      have hlt := tb_lt f 7
      have HON := Lib.hid (fun h => (tb_on (f := f) (n := 7) h))
      have HOFF := Lib.hid (fun h => (tb_off (f := f) (n := 7) h))
      have HOR := Lib.hid (or_bit (tb f 7) 7 hlt (by decide))
      obtain ⟨t, ht⟩ : ∃ t, t = tb f 7 := ⟨_, rfl⟩
      rw [← ht] at HON HOFF HOR ⊢
      clear hlt ht
      have IW : Hid (TInv w a b c B s h keepR (wr.alloc (.cells #[.int .u16 128, .func (.func 142) #[] #[.pointer (some ⟨B + 14, 0, none⟩)], .func (.func 143) #[] #[.pointer (some ⟨B + 14, 0, none⟩)]] 142 (0, 0)))) := I.out.pure ((Kept.refl [] _).alloc _)
      have LW : Hid ((wr.alloc (.cells #[.int .u16 128, .func (.func 142) #[] #[.pointer (some ⟨B + 14, 0, none⟩)], .func (.func 143) #[] #[.pointer (some ⟨B + 14, 0, none⟩)]] 142 (0, 0))).heap[wr.heap.size]? = some (.cells #[.int .u16 128, .func (.func 142) #[] #[.pointer (some ⟨B + 14, 0, none⟩)], .func (.func 143) #[] #[.pointer (some ⟨B + 14, 0, none⟩)]] 142 (0, 0))) := heap_alloc_new wr _
      have x1 := IW.out.want.cells.2.2.2.2.2.2.2.1
      have x2 := IW.out.keep.cells.2.2.2.2.2.2.2.1
      have x3 := IW.out.tab.row7.2.2.2
      cases z1 : eqk s keepR 7 with
      | true =>
        have SM := Lib.hid (Tab.same_7 (wr.alloc (.cells #[.int .u16 128, .func (.func 142) #[] #[.pointer (some ⟨B + 14, 0, none⟩)], .func (.func 143) #[] #[.pointer (some ⟨B + 14, 0, none⟩)]] 142 (0, 0))) a c (B + 14) _ _ true z1 x3 x1 x2)
        have hoff := HOFF.out (by rw [HF.out, z1]; rfl)
        have HO := Lib.hid hoff
        clear z1 x1 x2 x3 hoff HON HOFF HOR
        go_wp2_with fail
        refine SM.out.mono ?_
        rintro e w3 ⟨rfl, k3⟩
        have I3 := Lib.hid (IW.out.pure k3)
        clear k3 IW LW SM I
        go_wp2_with fail
        go_roundw
        case rel => exact ⟨8, by omega, rfl, by rw [HO.out], I3⟩
        case measure => decide
      | false =>
        have SM := Lib.hid (Tab.same_7 (wr.alloc (.cells #[.int .u16 128, .func (.func 142) #[] #[.pointer (some ⟨B + 14, 0, none⟩)], .func (.func 143) #[] #[.pointer (some ⟨B + 14, 0, none⟩)]] 142 (0, 0))) a c (B + 14) _ _ false z1 x3 x1 x2)
        have Z1 := Lib.hid z1
        clear z1 x1 x2 x3
        cases z2 : eqk s h 7 with
        | true =>
          have hoff := HOFF.out (by rw [HF.out, z2, Z1.out]; rfl)
          have HO := Lib.hid hoff
          have Z2 := Lib.hid z2
          clear z2 hoff HON HOFF HOR
          go_wp2_with fail
          refine SM.out.mono ?_
          rintro e w3 ⟨rfl, k3⟩
          have I3 := Lib.hid (IW.out.pure k3)
          have L3 : Hid (w3.heap[wr.heap.size]? = some (.cells #[.int .u16 128, .func (.func 142) #[] #[.pointer (some ⟨B + 14, 0, none⟩)], .func (.func 143) #[] #[.pointer (some ⟨B + 14, 0, none⟩)]] 142 (0, 0))) := (k3.block _ (block_lt LW.out) (by simp)).trans LW.out
          obtain ⟨l0, l1, l2, -⟩ := three L3.out
          clear k3 IW LW SM I
          go_wp2_with fail
          refine (Tab.same_7 _ a b (B + 14) _ _ true Z2.out I3.out.tab.row7.2.2.2 I3.out.want.cells.2.2.2.2.2.2.2.1 I3.out.have'.cells.2.2.2.2.2.2.2.1).mono ?_
          rintro e w4 ⟨rfl, k4⟩
          have I4 := Lib.hid (I3.out.pure k4)
          clear k4 I3 L3 l0 l1 l2
          go_wp2_with fail
          go_roundw
          case rel => exact ⟨8, by omega, rfl, by rw [HO.out], I4⟩
          case measure => decide
        | false =>
          have hon := HON.out (by rw [HF.out, z2, Z1.out]; rfl)
          have HO := Lib.hid hon
          have Z2 := Lib.hid z2
          clear z2 hon HON HOFF
          go_wp2_with fail
          refine SM.out.mono ?_
          rintro e w3 ⟨rfl, k3⟩
          have I3 := Lib.hid (IW.out.pure k3)
          have L3 : Hid (w3.heap[wr.heap.size]? = some (.cells #[.int .u16 128, .func (.func 142) #[] #[.pointer (some ⟨B + 14, 0, none⟩)], .func (.func 143) #[] #[.pointer (some ⟨B + 14, 0, none⟩)]] 142 (0, 0))) := (k3.block _ (block_lt LW.out) (by simp)).trans LW.out
          obtain ⟨l0, l1, l2, -⟩ := three L3.out
          clear k3 IW LW SM I
          go_wp2_with fail
          refine (Tab.same_7 _ a b (B + 14) _ _ false Z2.out I3.out.tab.row7.2.2.2 I3.out.want.cells.2.2.2.2.2.2.2.1 I3.out.have'.cells.2.2.2.2.2.2.2.1).mono ?_
          rintro e w4 ⟨rfl, k4⟩
          have I4 := Lib.hid (I3.out.pure k4)
          have L4 : Hid (w4.heap[wr.heap.size]? = some (.cells #[.int .u16 128, .func (.func 142) #[] #[.pointer (some ⟨B + 14, 0, none⟩)], .func (.func 143) #[] #[.pointer (some ⟨B + 14, 0, none⟩)]] 142 (0, 0))) := (k4.block _ (block_lt L3.out) (by simp)).trans L3.out
          clear k4 I3 L3 l0 l1 l2
          obtain ⟨l0, l1, l2, -⟩ := three L4.out
          have hor : bits .or .u16 (t : Int) 128 = ((tb f 8 : Nat) : Int) := by rw [HO.out]; exact HOR.out
          clear HOR HO
          go_wp2_with fail
          go_roundw
          case rel => exact ⟨8, by omega, rfl, by first | rfl | rw [hor], I4⟩
          case measure => decide
    · obtain ⟨r1, r2, r3, r4⟩ := I.out.tab.row8
      have hlt := tb_lt f 8
      have HON := Lib.hid (fun h => (tb_on (f := f) (n := 8) h))
      have HOFF := Lib.hid (fun h => (tb_off (f := f) (n := 8) h))
      have HOR := Lib.hid (or_bit (tb f 8) 8 hlt (by decide))
      obtain ⟨t, ht⟩ : ∃ t, t = tb f 8 := ⟨_, rfl⟩
      rw [← ht] at HON HOFF HOR ⊢
      clear hlt ht
      have IW : Hid (TInv w a b c B s h keepR (wr.alloc (.cells #[.int .u16 256, .func (.func 146) #[] #[.pointer (some ⟨B + 16, 0, none⟩)], .func (.func 147) #[] #[.pointer (some ⟨B + 16, 0, none⟩)]] 142 (0, 0)))) := I.out.pure ((Kept.refl [] _).alloc _)
      have LW : Hid ((wr.alloc (.cells #[.int .u16 256, .func (.func 146) #[] #[.pointer (some ⟨B + 16, 0, none⟩)], .func (.func 147) #[] #[.pointer (some ⟨B + 16, 0, none⟩)]] 142 (0, 0))).heap[wr.heap.size]? = some (.cells #[.int .u16 256, .func (.func 146) #[] #[.pointer (some ⟨B + 16, 0, none⟩)], .func (.func 147) #[] #[.pointer (some ⟨B + 16, 0, none⟩)]] 142 (0, 0))) := heap_alloc_new wr _
      have x1 := IW.out.want.cells.2.2.2.2.2.2.2.2.1
      have x2 := IW.out.keep.cells.2.2.2.2.2.2.2.2.1
      have x3 := IW.out.tab.row8.2.2.2
      cases z1 : eqk s keepR 8 with
      | true =>
        have SM := Lib.hid (Tab.same_8 (wr.alloc (.cells #[.int .u16 256, .func (.func 146) #[] #[.pointer (some ⟨B + 16, 0, none⟩)], .func (.func 147) #[] #[.pointer (some ⟨B + 16, 0, none⟩)]] 142 (0, 0))) a c (B + 16) _ _ true z1 x3 x1 x2)
        have hoff := HOFF.out (by rw [HF.out, z1]; rfl)
        have HO := Lib.hid hoff
        clear z1 x1 x2 x3 hoff HON HOFF HOR
        go_wp2_with fail
        refine SM.out.mono ?_
        rintro e w3 ⟨rfl, k3⟩
        have I3 := Lib.hid (IW.out.pure k3)
        clear k3 IW LW SM I
        go_wp2_with fail
        go_roundw
        case rel => exact ⟨9, by omega, rfl, by rw [HO.out], I3⟩
        case measure => decide
      | false =>
        have SM := Lib.hid (Tab.same_8 (wr.alloc (.cells #[.int .u16 256, .func (.func 146) #[] #[.pointer (some ⟨B + 16, 0, none⟩)], .func (.func 147) #[] #[.pointer (some ⟨B + 16, 0, none⟩)]] 142 (0, 0))) a c (B + 16) _ _ false z1 x3 x1 x2)
        have Z1 := Lib.hid z1
        clear z1 x1 x2 x3
        cases z2 : eqk s h 8 with
        | true =>
          have hoff := HOFF.out (by rw [HF.out, z2, Z1.out]; rfl)
          have HO := Lib.hid hoff
          have Z2 := Lib.hid z2
          clear z2 hoff HON HOFF HOR
          go_wp2_with fail
          refine SM.out.mono ?_
          rintro e w3 ⟨rfl, k3⟩
          have I3 := Lib.hid (IW.out.pure k3)
          have L3 : Hid (w3.heap[wr.heap.size]? = some (.cells #[.int .u16 256, .func (.func 146) #[] #[.pointer (some ⟨B + 16, 0, none⟩)], .func (.func 147) #[] #[.pointer (some ⟨B + 16, 0, none⟩)]] 142 (0, 0))) := (k3.block _ (block_lt LW.out) (by simp)).trans LW.out
          obtain ⟨l0, l1, l2, -⟩ := three L3.out
          clear k3 IW LW SM I
          go_wp2_with fail
          refine (Tab.same_8 _ a b (B + 16) _ _ true Z2.out I3.out.tab.row8.2.2.2 I3.out.want.cells.2.2.2.2.2.2.2.2.1 I3.out.have'.cells.2.2.2.2.2.2.2.2.1).mono ?_
          rintro e w4 ⟨rfl, k4⟩
          have I4 := Lib.hid (I3.out.pure k4)
          clear k4 I3 L3 l0 l1 l2
          go_wp2_with fail
          go_roundw
          case rel => exact ⟨9, by omega, rfl, by rw [HO.out], I4⟩
          case measure => decide
        | false =>
          have hon := HON.out (by rw [HF.out, z2, Z1.out]; rfl)
          have HO := Lib.hid hon
          have Z2 := Lib.hid z2
          clear z2 hon HON HOFF
          go_wp2_with fail
          refine SM.out.mono ?_
          rintro e w3 ⟨rfl, k3⟩
          have I3 := Lib.hid (IW.out.pure k3)
          have L3 : Hid (w3.heap[wr.heap.size]? = some (.cells #[.int .u16 256, .func (.func 146) #[] #[.pointer (some ⟨B + 16, 0, none⟩)], .func (.func 147) #[] #[.pointer (some ⟨B + 16, 0, none⟩)]] 142 (0, 0))) := (k3.block _ (block_lt LW.out) (by simp)).trans LW.out
          obtain ⟨l0, l1, l2, -⟩ := three L3.out
          clear k3 IW LW SM I
          go_wp2_with fail
          refine (Tab.same_8 _ a b (B + 16) _ _ false Z2.out I3.out.tab.row8.2.2.2 I3.out.want.cells.2.2.2.2.2.2.2.2.1 I3.out.have'.cells.2.2.2.2.2.2.2.2.1).mono ?_
          rintro e w4 ⟨rfl, k4⟩
          have I4 := Lib.hid (I3.out.pure k4)
          have L4 : Hid (w4.heap[wr.heap.size]? = some (.cells #[.int .u16 256, .func (.func 146) #[] #[.pointer (some ⟨B + 16, 0, none⟩)], .func (.func 147) #[] #[.pointer (some ⟨B + 16, 0, none⟩)]] 142 (0, 0))) := (k4.block _ (block_lt L3.out) (by simp)).trans L3.out
          clear k4 I3 L3 l0 l1 l2
          obtain ⟨l0, l1, l2, -⟩ := three L4.out
          have hor : bits .or .u16 (t : Int) 256 = ((tb f 9 : Nat) : Int) := by rw [HO.out]; exact HOR.out
          clear HOR HO
          go_wp2_with fail
          go_roundw
          case rel => exact ⟨9, by omega, rfl, by first | rfl | rw [hor], I4⟩
          case measure => decide
    · obtain ⟨r1, r2, r3, r4⟩ := I.out.tab.row9
      have hlt := tb_lt f 9
      have HON := Lib.hid (fun h => (tb_on (f := f) (n := 9) h))
      have HOFF := Lib.hid (fun h => (tb_off (f := f) (n := 9) h))
      have HOR := Lib.hid (or_bit (tb f 9) 9 hlt (by decide))
      obtain ⟨t, ht⟩ : ∃ t, t = tb f 9 := ⟨_, rfl⟩
      rw [← ht] at HON HOFF HOR ⊢
      clear hlt ht
      have IW : Hid (TInv w a b c B s h keepR (wr.alloc (.cells #[.int .u16 512, .func (.func 148) #[] #[.pointer (some ⟨B + 18, 0, none⟩)], .func (.func 149) #[] #[.pointer (some ⟨B + 18, 0, none⟩)]] 142 (0, 0)))) := I.out.pure ((Kept.refl [] _).alloc _)
      have LW : Hid ((wr.alloc (.cells #[.int .u16 512, .func (.func 148) #[] #[.pointer (some ⟨B + 18, 0, none⟩)], .func (.func 149) #[] #[.pointer (some ⟨B + 18, 0, none⟩)]] 142 (0, 0))).heap[wr.heap.size]? = some (.cells #[.int .u16 512, .func (.func 148) #[] #[.pointer (some ⟨B + 18, 0, none⟩)], .func (.func 149) #[] #[.pointer (some ⟨B + 18, 0, none⟩)]] 142 (0, 0))) := heap_alloc_new wr _
      have x1 := IW.out.want.cells.2.2.2.2.2.2.2.2.2.1
      have x2 := IW.out.keep.cells.2.2.2.2.2.2.2.2.2.1
      have x3 := IW.out.tab.row9.2.2.2
      cases z1 : eqk s keepR 9 with
      | true =>
        have SM := Lib.hid (Tab.same_9 (wr.alloc (.cells #[.int .u16 512, .func (.func 148) #[] #[.pointer (some ⟨B + 18, 0, none⟩)], .func (.func 149) #[] #[.pointer (some ⟨B + 18, 0, none⟩)]] 142 (0, 0))) a c (B + 18) _ _ true z1 x3 x1 x2)
        have hoff := HOFF.out (by rw [HF.out, z1]; rfl)
        have HO := Lib.hid hoff
        clear z1 x1 x2 x3 hoff HON HOFF HOR
        go_wp2_with fail
        refine SM.out.mono ?_
        rintro e w3 ⟨rfl, k3⟩
        have I3 := Lib.hid (IW.out.pure k3)
        clear k3 IW LW SM I
        go_wp2_with fail
        go_roundw
        case rel => exact ⟨10, by omega, rfl, by rw [HO.out], I3⟩
        case measure => decide
      | false =>
        have SM := Lib.hid (Tab.same_9 (wr.alloc (.cells #[.int .u16 512, .func (.func 148) #[] #[.pointer (some ⟨B + 18, 0, none⟩)], .func (.func 149) #[] #[.pointer (some ⟨B + 18, 0, none⟩)]] 142 (0, 0))) a c (B + 18) _ _ false z1 x3 x1 x2)
        have Z1 := Lib.hid z1
        clear z1 x1 x2 x3
        cases z2 : eqk s h 9 with
        | true =>
          have hoff := HOFF.out (by rw [HF.out, z2, Z1.out]; rfl)
          have HO := Lib.hid hoff
          have Z2 := Lib.hid z2
          clear z2 hoff HON HOFF HOR
          go_wp2_with fail
          refine SM.out.mono ?_
          rintro e w3 ⟨rfl, k3⟩
          have I3 := Lib.hid (IW.out.pure k3)
          have L3 : Hid (w3.heap[wr.heap.size]? = some (.cells #[.int .u16 512, .func (.func 148) #[] #[.pointer (some ⟨B + 18, 0, none⟩)], .func (.func 149) #[] #[.pointer (some ⟨B + 18, 0, none⟩)]] 142 (0, 0))) := (k3.block _ (block_lt LW.out) (by simp)).trans LW.out
          obtain ⟨l0, l1, l2, -⟩ := three L3.out
          clear k3 IW LW SM I
          go_wp2_with fail
          refine (Tab.same_9 _ a b (B + 18) _ _ true Z2.out I3.out.tab.row9.2.2.2 I3.out.want.cells.2.2.2.2.2.2.2.2.2.1 I3.out.have'.cells.2.2.2.2.2.2.2.2.2.1).mono ?_
          rintro e w4 ⟨rfl, k4⟩
          have I4 := Lib.hid (I3.out.pure k4)
          clear k4 I3 L3 l0 l1 l2
          go_wp2_with fail
          go_roundw
          case rel => exact ⟨10, by omega, rfl, by rw [HO.out], I4⟩
          case measure => decide
        | false =>
          have hon := HON.out (by rw [HF.out, z2, Z1.out]; rfl)
          have HO := Lib.hid hon
          have Z2 := Lib.hid z2
          clear z2 hon HON HOFF
          go_wp2_with fail
          refine SM.out.mono ?_
          rintro e w3 ⟨rfl, k3⟩
          have I3 := Lib.hid (IW.out.pure k3)
          have L3 : Hid (w3.heap[wr.heap.size]? = some (.cells #[.int .u16 512, .func (.func 148) #[] #[.pointer (some ⟨B + 18, 0, none⟩)], .func (.func 149) #[] #[.pointer (some ⟨B + 18, 0, none⟩)]] 142 (0, 0))) := (k3.block _ (block_lt LW.out) (by simp)).trans LW.out
          obtain ⟨l0, l1, l2, -⟩ := three L3.out
          clear k3 IW LW SM I
          go_wp2_with fail
          refine (Tab.same_9 _ a b (B + 18) _ _ false Z2.out I3.out.tab.row9.2.2.2 I3.out.want.cells.2.2.2.2.2.2.2.2.2.1 I3.out.have'.cells.2.2.2.2.2.2.2.2.2.1).mono ?_
          rintro e w4 ⟨rfl, k4⟩
          have I4 := Lib.hid (I3.out.pure k4)
          have L4 : Hid (w4.heap[wr.heap.size]? = some (.cells #[.int .u16 512, .func (.func 148) #[] #[.pointer (some ⟨B + 18, 0, none⟩)], .func (.func 149) #[] #[.pointer (some ⟨B + 18, 0, none⟩)]] 142 (0, 0))) := (k4.block _ (block_lt L3.out) (by simp)).trans L3.out
          clear k4 I3 L3 l0 l1 l2
          obtain ⟨l0, l1, l2, -⟩ := three L4.out
          have hor : bits .or .u16 (t : Int) 512 = ((tb f 10 : Nat) : Int) := by rw [HO.out]; exact HOR.out
          clear HOR HO
          go_wp2_with fail
          go_roundw
          case rel => exact ⟨10, by omega, rfl, by first | rfl | rw [hor], I4⟩
          case measure => decide
    · obtain ⟨r1, r2, r3, r4⟩ := I.out.tab.row10
      have hlt := tb_lt f 10
      have HON := Lib.hid (fun h => (tb_on (f := f) (n := 10) h))
      have HOFF := Lib.hid (fun h => (tb_off (f := f) (n := 10) h))
      have HOR := Lib.hid (or_bit (tb f 10) 10 hlt (by decide))
      obtain ⟨t, ht⟩ : ∃ t, t = tb f 10 := ⟨_, rfl⟩
      rw [← ht] at HON HOFF HOR ⊢
      clear hlt ht
      have IW : Hid (TInv w a b c B s h keepR (wr.alloc (.cells #[.int .u16 1024, .func (.func 148) #[] #[.pointer (some ⟨B + 20, 0, none⟩)], .func (.func 149) #[] #[.pointer (some ⟨B + 20, 0, none⟩)]] 142 (0, 0)))) := I.out.pure ((Kept.refl [] _).alloc _)
      have LW : Hid ((wr.alloc (.cells #[.int .u16 1024, .func (.func 148) #[] #[.pointer (some ⟨B + 20, 0, none⟩)], .func (.func 149) #[] #[.pointer (some ⟨B + 20, 0, none⟩)]] 142 (0, 0))).heap[wr.heap.size]? = some (.cells #[.int .u16 1024, .func (.func 148) #[] #[.pointer (some ⟨B + 20, 0, none⟩)], .func (.func 149) #[] #[.pointer (some ⟨B + 20, 0, none⟩)]] 142 (0, 0))) := heap_alloc_new wr _
      have x1 := IW.out.want.cells.2.2.2.2.2.2.2.2.2.2.1
      have x2 := IW.out.keep.cells.2.2.2.2.2.2.2.2.2.2.1
      have x3 := IW.out.tab.row10.2.2.2
      cases z1 : eqk s keepR 10 with
      | true =>
        have SM := Lib.hid (Tab.same_10 (wr.alloc (.cells #[.int .u16 1024, .func (.func 148) #[] #[.pointer (some ⟨B + 20, 0, none⟩)], .func (.func 149) #[] #[.pointer (some ⟨B + 20, 0, none⟩)]] 142 (0, 0))) a c (B + 20) _ _ true z1 x3 x1 x2)
        have hoff := HOFF.out (by rw [HF.out, z1]; rfl)
        have HO := Lib.hid hoff
        clear z1 x1 x2 x3 hoff HON HOFF HOR
        go_wp2_with fail
        refine SM.out.mono ?_
        rintro e w3 ⟨rfl, k3⟩
        have I3 := Lib.hid (IW.out.pure k3)
        clear k3 IW LW SM I
        go_wp2_with fail
        go_roundw
        case rel => exact ⟨11, by omega, rfl, by rw [HO.out], I3⟩
        case measure => decide
      | false =>
        have SM := Lib.hid (Tab.same_10 (wr.alloc (.cells #[.int .u16 1024, .func (.func 148) #[] #[.pointer (some ⟨B + 20, 0, none⟩)], .func (.func 149) #[] #[.pointer (some ⟨B + 20, 0, none⟩)]] 142 (0, 0))) a c (B + 20) _ _ false z1 x3 x1 x2)
        have Z1 := Lib.hid z1
        clear z1 x1 x2 x3
        cases z2 : eqk s h 10 with
        | true =>
          have hoff := HOFF.out (by rw [HF.out, z2, Z1.out]; rfl)
          have HO := Lib.hid hoff
          have Z2 := Lib.hid z2
          clear z2 hoff HON HOFF HOR
          go_wp2_with fail
          refine SM.out.mono ?_
          rintro e w3 ⟨rfl, k3⟩
          have I3 := Lib.hid (IW.out.pure k3)
          have L3 : Hid (w3.heap[wr.heap.size]? = some (.cells #[.int .u16 1024, .func (.func 148) #[] #[.pointer (some ⟨B + 20, 0, none⟩)], .func (.func 149) #[] #[.pointer (some ⟨B + 20, 0, none⟩)]] 142 (0, 0))) := (k3.block _ (block_lt LW.out) (by simp)).trans LW.out
          obtain ⟨l0, l1, l2, -⟩ := three L3.out
          clear k3 IW LW SM I
          go_wp2_with fail
          refine (Tab.same_10 _ a b (B + 20) _ _ true Z2.out I3.out.tab.row10.2.2.2 I3.out.want.cells.2.2.2.2.2.2.2.2.2.2.1 I3.out.have'.cells.2.2.2.2.2.2.2.2.2.2.1).mono ?_
          rintro e w4 ⟨rfl, k4⟩
          have I4 := Lib.hid (I3.out.pure k4)
          clear k4 I3 L3 l0 l1 l2
          go_wp2_with fail
          go_roundw
          case rel => exact ⟨11, by omega, rfl, by rw [HO.out], I4⟩
          case measure => decide
        | false =>
          have hon := HON.out (by rw [HF.out, z2, Z1.out]; rfl)
          have HO := Lib.hid hon
          have Z2 := Lib.hid z2
          clear z2 hon HON HOFF
          go_wp2_with fail
          refine SM.out.mono ?_
          rintro e w3 ⟨rfl, k3⟩
          have I3 := Lib.hid (IW.out.pure k3)
          have L3 : Hid (w3.heap[wr.heap.size]? = some (.cells #[.int .u16 1024, .func (.func 148) #[] #[.pointer (some ⟨B + 20, 0, none⟩)], .func (.func 149) #[] #[.pointer (some ⟨B + 20, 0, none⟩)]] 142 (0, 0))) := (k3.block _ (block_lt LW.out) (by simp)).trans LW.out
          obtain ⟨l0, l1, l2, -⟩ := three L3.out
          clear k3 IW LW SM I
          go_wp2_with fail
          refine (Tab.same_10 _ a b (B + 20) _ _ false Z2.out I3.out.tab.row10.2.2.2 I3.out.want.cells.2.2.2.2.2.2.2.2.2.2.1 I3.out.have'.cells.2.2.2.2.2.2.2.2.2.2.1).mono ?_
          rintro e w4 ⟨rfl, k4⟩
          have I4 := Lib.hid (I3.out.pure k4)
          have L4 : Hid (w4.heap[wr.heap.size]? = some (.cells #[.int .u16 1024, .func (.func 148) #[] #[.pointer (some ⟨B + 20, 0, none⟩)], .func (.func 149) #[] #[.pointer (some ⟨B + 20, 0, none⟩)]] 142 (0, 0))) := (k4.block _ (block_lt L3.out) (by simp)).trans L3.out
          clear k4 I3 L3 l0 l1 l2
          obtain ⟨l0, l1, l2, -⟩ := three L4.out
          have hor : bits .or .u16 (t : Int) 1024 = ((tb f 11 : Nat) : Int) := by rw [HO.out]; exact HOR.out
          clear HOR HO
          go_wp2_with fail
          go_roundw
          case rel => exact ⟨11, by omega, rfl, by first | rfl | rw [hor], I4⟩
          case measure => decide
    · obtain ⟨r1, r2, r3, r4⟩ := I.out.tab.row11
      have hlt := tb_lt f 11
      have HON := Lib.hid (fun h => (tb_on (f := f) (n := 11) h))
      have HOFF := Lib.hid (fun h => (tb_off (f := f) (n := 11) h))
      have HOR := Lib.hid (or_bit (tb f 11) 11 hlt (by decide))
      obtain ⟨t, ht⟩ : ∃ t, t = tb f 11 := ⟨_, rfl⟩
      rw [← ht] at HON HOFF HOR ⊢
      clear hlt ht
      have IW : Hid (TInv w a b c B s h keepR (wr.alloc (.cells #[.int .u16 2048, .func (.func 148) #[] #[.pointer (some ⟨B + 22, 0, none⟩)], .func (.func 149) #[] #[.pointer (some ⟨B + 22, 0, none⟩)]] 142 (0, 0)))) := I.out.pure ((Kept.refl [] _).alloc _)
      have LW : Hid ((wr.alloc (.cells #[.int .u16 2048, .func (.func 148) #[] #[.pointer (some ⟨B + 22, 0, none⟩)], .func (.func 149) #[] #[.pointer (some ⟨B + 22, 0, none⟩)]] 142 (0, 0))).heap[wr.heap.size]? = some (.cells #[.int .u16 2048, .func (.func 148) #[] #[.pointer (some ⟨B + 22, 0, none⟩)], .func (.func 149) #[] #[.pointer (some ⟨B + 22, 0, none⟩)]] 142 (0, 0))) := heap_alloc_new wr _
      have x1 := IW.out.want.cells.2.2.2.2.2.2.2.2.2.2.2.1
      have x2 := IW.out.keep.cells.2.2.2.2.2.2.2.2.2.2.2.1
      have x3 := IW.out.tab.row11.2.2.2
      cases z1 : eqk s keepR 11 with
      | true =>
        have SM := Lib.hid (Tab.same_11 (wr.alloc (.cells #[.int .u16 2048, .func (.func 148) #[] #[.pointer (some ⟨B + 22, 0, none⟩)], .func (.func 149) #[] #[.pointer (some ⟨B + 22, 0, none⟩)]] 142 (0, 0))) a c (B + 22) _ _ true z1 x3 x1 x2)
        have hoff := HOFF.out (by rw [HF.out, z1]; rfl)
        have HO := Lib.hid hoff
        clear z1 x1 x2 x3 hoff HON HOFF HOR
        go_wp2_with fail
        refine SM.out.mono ?_
        rintro e w3 ⟨rfl, k3⟩
        have I3 := Lib.hid (IW.out.pure k3)
        clear k3 IW LW SM I
        go_wp2_with fail
        go_roundw
        case rel => exact ⟨12, by omega, rfl, by rw [HO.out], I3⟩
        case measure => decide
      | false =>
        have SM := Lib.hid (Tab.same_11 (wr.alloc (.cells #[.int .u16 2048, .func (.func 148) #[] #[.pointer (some ⟨B + 22, 0, none⟩)], .func (.func 149) #[] #[.pointer (some ⟨B + 22, 0, none⟩)]] 142 (0, 0))) a c (B + 22) _ _ false z1 x3 x1 x2)
        have Z1 := Lib.hid z1
        clear z1 x1 x2 x3
        cases z2 : eqk s h 11 with
        | true =>
          have hoff := HOFF.out (by rw [HF.out, z2, Z1.out]; rfl)
          have HO := Lib.hid hoff
          have Z2 := Lib.hid z2
          clear z2 hoff HON HOFF HOR
          go_wp2_with fail
          refine SM.out.mono ?_
          rintro e w3 ⟨rfl, k3⟩
          have I3 := Lib.hid (IW.out.pure k3)
          have L3 : Hid (w3.heap[wr.heap.size]? = some (.cells #[.int .u16 2048, .func (.func 148) #[] #[.pointer (some ⟨B + 22, 0, none⟩)], .func (.func 149) #[] #[.pointer (some ⟨B + 22, 0, none⟩)]] 142 (0, 0))) := (k3.block _ (block_lt LW.out) (by simp)).trans LW.out
          obtain ⟨l0, l1, l2, -⟩ := three L3.out
          clear k3 IW LW SM I
          go_wp2_with fail
          refine (Tab.same_11 _ a b (B + 22) _ _ true Z2.out I3.out.tab.row11.2.2.2 I3.out.want.cells.2.2.2.2.2.2.2.2.2.2.2.1 I3.out.have'.cells.2.2.2.2.2.2.2.2.2.2.2.1).mono ?_
          rintro e w4 ⟨rfl, k4⟩
          have I4 := Lib.hid (I3.out.pure k4)
          clear k4 I3 L3 l0 l1 l2
          go_wp2_with fail
          go_roundw
          case rel => exact ⟨12, by omega, rfl, by rw [HO.out], I4⟩
          case measure => decide
        | false =>
          have hon := HON.out (by rw [HF.out, z2, Z1.out]; rfl)
          have HO := Lib.hid hon
          have Z2 := Lib.hid z2
          clear z2 hon HON HOFF
          go_wp2_with fail
          refine SM.out.mono ?_
          rintro e w3 ⟨rfl, k3⟩
          have I3 := Lib.hid (IW.out.pure k3)
          have L3 : Hid (w3.heap[wr.heap.size]? = some (.cells #[.int .u16 2048, .func (.func 148) #[] #[.pointer (some ⟨B + 22, 0, none⟩)], .func (.func 149) #[] #[.pointer (some ⟨B + 22, 0, none⟩)]] 142 (0, 0))) := (k3.block _ (block_lt LW.out) (by simp)).trans LW.out
          obtain ⟨l0, l1, l2, -⟩ := three L3.out
          clear k3 IW LW SM I
          go_wp2_with fail
          refine (Tab.same_11 _ a b (B + 22) _ _ false Z2.out I3.out.tab.row11.2.2.2 I3.out.want.cells.2.2.2.2.2.2.2.2.2.2.2.1 I3.out.have'.cells.2.2.2.2.2.2.2.2.2.2.2.1).mono ?_
          rintro e w4 ⟨rfl, k4⟩
          have I4 := Lib.hid (I3.out.pure k4)
          have L4 : Hid (w4.heap[wr.heap.size]? = some (.cells #[.int .u16 2048, .func (.func 148) #[] #[.pointer (some ⟨B + 22, 0, none⟩)], .func (.func 149) #[] #[.pointer (some ⟨B + 22, 0, none⟩)]] 142 (0, 0))) := (k4.block _ (block_lt L3.out) (by simp)).trans L3.out
          clear k4 I3 L3 l0 l1 l2
          obtain ⟨l0, l1, l2, -⟩ := three L4.out
          have hor : bits .or .u16 (t : Int) 2048 = ((tb f 12 : Nat) : Int) := by rw [HO.out]; exact HOR.out
          clear HOR HO
          go_wp2_with fail
          go_roundw
          case rel => exact ⟨12, by omega, rfl, by first | rfl | rw [hor], I4⟩
          case measure => decide
    · obtain ⟨r1, r2, r3, r4⟩ := I.out.tab.row12
      have hlt := tb_lt f 12
      have HON := Lib.hid (fun h => (tb_on (f := f) (n := 12) h))
      have HOFF := Lib.hid (fun h => (tb_off (f := f) (n := 12) h))
      have HOR := Lib.hid (or_bit (tb f 12) 12 hlt (by decide))
      obtain ⟨t, ht⟩ : ∃ t, t = tb f 12 := ⟨_, rfl⟩
      rw [← ht] at HON HOFF HOR ⊢
      clear hlt ht
      have IW : Hid (TInv w a b c B s h keepR (wr.alloc (.cells #[.int .u16 4096, .func (.func 148) #[] #[.pointer (some ⟨B + 24, 0, none⟩)], .func (.func 149) #[] #[.pointer (some ⟨B + 24, 0, none⟩)]] 142 (0, 0)))) := I.out.pure ((Kept.refl [] _).alloc _)
      have LW : Hid ((wr.alloc (.cells #[.int .u16 4096, .func (.func 148) #[] #[.pointer (some ⟨B + 24, 0, none⟩)], .func (.func 149) #[] #[.pointer (some ⟨B + 24, 0, none⟩)]] 142 (0, 0))).heap[wr.heap.size]? = some (.cells #[.int .u16 4096, .func (.func 148) #[] #[.pointer (some ⟨B + 24, 0, none⟩)], .func (.func 149) #[] #[.pointer (some ⟨B + 24, 0, none⟩)]] 142 (0, 0))) := heap_alloc_new wr _
      have x1 := IW.out.want.cells.2.2.2.2.2.2.2.2.2.2.2.2
      have x2 := IW.out.keep.cells.2.2.2.2.2.2.2.2.2.2.2.2
      have x3 := IW.out.tab.row12.2.2.2
      cases z1 : eqk s keepR 12 with
      | true =>
        have SM := Lib.hid (Tab.same_12 (wr.alloc (.cells #[.int .u16 4096, .func (.func 148) #[] #[.pointer (some ⟨B + 24, 0, none⟩)], .func (.func 149) #[] #[.pointer (some ⟨B + 24, 0, none⟩)]] 142 (0, 0))) a c (B + 24) _ _ true z1 x3 x1 x2)
        have hoff := HOFF.out (by rw [HF.out, z1]; rfl)
        have HO := Lib.hid hoff
        clear z1 x1 x2 x3 hoff HON HOFF HOR
        go_wp2_with fail
        refine SM.out.mono ?_
        rintro e w3 ⟨rfl, k3⟩
        have I3 := Lib.hid (IW.out.pure k3)
        clear k3 IW LW SM I
        go_wp2_with fail
        go_roundw
        case rel => exact ⟨13, by omega, rfl, by rw [HO.out], I3⟩
        case measure => decide
      | false =>
        have SM := Lib.hid (Tab.same_12 (wr.alloc (.cells #[.int .u16 4096, .func (.func 148) #[] #[.pointer (some ⟨B + 24, 0, none⟩)], .func (.func 149) #[] #[.pointer (some ⟨B + 24, 0, none⟩)]] 142 (0, 0))) a c (B + 24) _ _ false z1 x3 x1 x2)
        have Z1 := Lib.hid z1
        clear z1 x1 x2 x3
        cases z2 : eqk s h 12 with
        | true =>
          have hoff := HOFF.out (by rw [HF.out, z2, Z1.out]; rfl)
          have HO := Lib.hid hoff
          have Z2 := Lib.hid z2
          clear z2 hoff HON HOFF HOR
          go_wp2_with fail
          refine SM.out.mono ?_
          rintro e w3 ⟨rfl, k3⟩
          have I3 := Lib.hid (IW.out.pure k3)
          have L3 : Hid (w3.heap[wr.heap.size]? = some (.cells #[.int .u16 4096, .func (.func 148) #[] #[.pointer (some ⟨B + 24, 0, none⟩)], .func (.func 149) #[] #[.pointer (some ⟨B + 24, 0, none⟩)]] 142 (0, 0))) := (k3.block _ (block_lt LW.out) (by simp)).trans LW.out
          obtain ⟨l0, l1, l2, -⟩ := three L3.out
          clear k3 IW LW SM I
          go_wp2_with fail
          refine (Tab.same_12 _ a b (B + 24) _ _ true Z2.out I3.out.tab.row12.2.2.2 I3.out.want.cells.2.2.2.2.2.2.2.2.2.2.2.2 I3.out.have'.cells.2.2.2.2.2.2.2.2.2.2.2.2).mono ?_
          rintro e w4 ⟨rfl, k4⟩
          have I4 := Lib.hid (I3.out.pure k4)
          clear k4 I3 L3 l0 l1 l2
          go_wp2_with fail
          go_roundw
          case rel => exact ⟨13, by omega, rfl, by rw [HO.out], I4⟩
          case measure => decide
        | false =>
          have hon := HON.out (by rw [HF.out, z2, Z1.out]; rfl)
          have HO := Lib.hid hon
          have Z2 := Lib.hid z2
          clear z2 hon HON HOFF
          go_wp2_with fail
          refine SM.out.mono ?_
          rintro e w3 ⟨rfl, k3⟩
          have I3 := Lib.hid (IW.out.pure k3)
          have L3 : Hid (w3.heap[wr.heap.size]? = some (.cells #[.int .u16 4096, .func (.func 148) #[] #[.pointer (some ⟨B + 24, 0, none⟩)], .func (.func 149) #[] #[.pointer (some ⟨B + 24, 0, none⟩)]] 142 (0, 0))) := (k3.block _ (block_lt LW.out) (by simp)).trans LW.out
          obtain ⟨l0, l1, l2, -⟩ := three L3.out
          clear k3 IW LW SM I
          go_wp2_with fail
          refine (Tab.same_12 _ a b (B + 24) _ _ false Z2.out I3.out.tab.row12.2.2.2 I3.out.want.cells.2.2.2.2.2.2.2.2.2.2.2.2 I3.out.have'.cells.2.2.2.2.2.2.2.2.2.2.2.2).mono ?_
          rintro e w4 ⟨rfl, k4⟩
          have I4 := Lib.hid (I3.out.pure k4)
          have L4 : Hid (w4.heap[wr.heap.size]? = some (.cells #[.int .u16 4096, .func (.func 148) #[] #[.pointer (some ⟨B + 24, 0, none⟩)], .func (.func 149) #[] #[.pointer (some ⟨B + 24, 0, none⟩)]] 142 (0, 0))) := (k4.block _ (block_lt L3.out) (by simp)).trans L3.out
          clear k4 I3 L3 l0 l1 l2
          obtain ⟨l0, l1, l2, -⟩ := three L4.out
          have hor : bits .or .u16 (t : Int) 4096 = ((tb f 13 : Nat) : Int) := by rw [HO.out]; exact HOR.out
          clear HOR HO
          go_wp2_with fail
          go_roundw
          case rel => exact ⟨13, by omega, rfl, by first | rfl | rw [hor], I4⟩
          case measure => decide
    · go_wp2_with fail
      go_ret
      exact ⟨rfl, I.out.kept⟩
end Stt
end Go.Proofs.YteeheapenfklcaaGreatDoor
