/- What the law's reads does: one step of one reader. -/
import Derived.Test.YtfdbpbhihccgbaaRmn
import Derived.Test.YtfdbpbhihccgbaaChw
import Derived.Test.YtfdbpbhihccgbaaNum
import Derived.Deep.RegionWith
import Derived.Deep.Cut
import Derived.Deep.CutBlock
import Derived.Deep.CutRange
namespace Go.Proofs.Ytfdbpbhihccgbaa
set_option linter.unusedVariables false
open Go.RowKit

/-- What a step leaves. -/
def ReadsOut (w0 : World) (g k n m : Nat) (e : Ending) (w' : World) : Prop :=
  ∃ z cv dv n' p q T U st col B m', e = .returned (.bool true) ∧ n ≤ n' ∧ n' ≤ n + 1 ∧ m' ≤ m + 1 ∧ Hid (Rmn w0 w' z g k cv dv n' n' n' p q T U st col B) ∧ Hid (Bkl w' k B m')
theorem ReadsOut.mk {w0 w' : World} {z g k n n' m m' : Nat} {cv dv : Value} {p q : Nat → Nat} {T U : Nat → List Nat} {st : Nat → RS} {col : Nat → Nat} {B : List Nat} (h1 : n ≤ n') (h2 : n' ≤ n + 1) (h3 : m' ≤ m + 1) (h : Rmn w0 w' z g k cv dv n' n' n' p q T U st col B) (b : Bkl w' k B m') : ReadsOut w0 g k n m (.returned (.bool true)) w' :=
  ⟨z, cv, dv, n', p, q, T, U, st, col, B, m', rfl, h1, h2, h3, h, b⟩

/-- The numbers of a step that reads. -/
structure Rst (o : Stp) : Prop where
  w1 : -9223372036854775808 ≤ o.who
  w2 : o.who ≤ 9223372036854775807
  k1 : -9223372036854775808 ≤ o.k
  k2 : o.k ≤ 9223372036854775807
/-- Everything that a step begins with. -/
structure Beg (w0 w : World) (g k n m : Nat) (cv dv : Value) (p q : Nat → Nat) (T U : Nat → List Nat) (st : Nat → RS) (col : Nat → Nat) (B : List Nat) (z : Nat) : Prop where
  r : Rmn w0 w z g k cv dv n n n p q T U st col B
  b : Bkl w k B m
  n0 : 0 < n
  nn : n ≤ 4000000
  mm : m ≤ 100000000
theorem Beg.pure {w0 w w' : World} {g k n m : Nat} {cv dv : Value} {p q : Nat → Nat} {T U : Nat → List Nat} {st : Nat → RS} {col : Nat → Nat} {B : List Nat} {z : Nat} (h : Beg w0 w g k n m cv dv p q T U st col B z) (K : Kept [] w w') : Beg w0 w' g k n m cv dv p q T U st col B z :=
  ⟨h.r.pure K, h.b.kept K (fun _ _ hm => by cases hm), h.n0, h.nn, h.mm⟩

namespace Lst
open Go.Proofs.Ytfdbpbhihccgbaa.Txt

set_option maxHeartbeats 4000000 in
set_option maxRecDepth 100000 in
theorem reads_raw (w0 w : World) (g k n m : Nat) (cv dv : Value) (p q : Nat → Nat) (T U : Nat → List Nat) (st : Nat → RS) (col : Nat → Nat) (B : List Nat) (z : Nat) (o : Stp) (hkind : o.kind = 5) (so : Rst o) (h : Hid (Beg w0 w g k n m cv dv p q T U st col B z)) :
    Calls Try.prog 21 #[.pointer (some ⟨g, 0, none⟩), o.val] w (ReadsOut w0 g k n m) := by
  obtain ⟨who, kind, on, ok, ob, os⟩ := o
  have hw1 := so.w1
  have hw2 := so.w2
  have hk1 := so.k1
  have hk2 := so.k2
  have hn0 := h.out.n0
  have hnn := h.out.nn
  dsimp only at hkind hw1 hw2 hk1 hk2
  subst hkind
  show Calls Try.prog 21 #[.pointer (some ⟨g, 0, none⟩), .agg #[.int .i64 who, .int .i64 5, .int .u64 on, .int .i64 ok, ob, .string os]] w _
  obtain ⟨j, hj⟩ : ∃ x, x = Mad.pk who n := ⟨_, rfl⟩
  have PICK := Lib.hid (fun w => Mad.pick_any who n n w rfl (by omega) (by omega) hw1 hw2)
  rw [← hj] at PICK
  have hjn : j < n := by rw [hj]; exact Mad.pk_lt who n hn0
  clear hj so hw1 hw2
  obtain ⟨W, hW⟩ : ∃ W, W = w.alloc (.cells #[.int .i64 who, .int .i64 5, .int .u64 on, .int .i64 ok, ob, .string os] 43 (0, 0)) := ⟨_, rfl⟩
  obtain ⟨bx, hbx⟩ : ∃ b, b = w.heap.size := ⟨_, rfl⟩
  have KW : Hid (Kept [] w W) := by rw [hW]; exact (Kept.refl [] w).alloc _
  have BX : W.heap[bx]? = some (.cells #[.int .i64 who, .int .i64 5, .int .u64 on, .int .i64 ok, ob, .string os] 43 (0, 0)) := by rw [hW, hbx]; exact heap_alloc_new w _
  have x0 : W.cell? ⟨bx, 0, none⟩ = some (.int .i64 who) := by rw [cell_of_row W bx 0 _ _ (0, 0) BX]; rfl
  have x1 : W.cell? ⟨bx, 1, none⟩ = some (.int .i64 5) := by rw [cell_of_row W bx 1 _ _ (0, 0) BX]; rfl
  have x3 : W.cell? ⟨bx, 3, none⟩ = some (.int .i64 ok) := by rw [cell_of_row W bx 3 _ _ (0, 0) BX]; rfl
  have H1 : Hid (Beg w0 W g k n m cv dv p q T U st col B z) := h.out.pure KW.out
  have HZ : Hid (z ≤ bx) := by rw [hbx]; exact h.out.r.zle
  have HBL : Hid (bx < W.heap.size) := block_lt BX
  have HW := Lib.hid hW
  have HBX := Lib.hid hbx
  obtain ⟨ca, cc, rfl, hcc, hcell⟩ := ptrs_at H1.out.r.crow hjn
  obtain ⟨da, dd, rfl, hdd, hdell⟩ := ptrs_at H1.out.r.drow hjn
  obtain ⟨c0, c1, c2, fz⟩ := three H1.out.r.hand
  have j4 : (j : Int) < (n : Int) := by omega
  clear h BX fz hW hbx 
  go_enter Try.func21, Try.ntmps21
  go_wp2_with fail
  rw [← HW.out, ← HBX.out]
  obtain ⟨W1, hW1⟩ : ∃ x, x = W.drew := ⟨_, rfl⟩
  have HW1 := Lib.hid hW1
  have K1 : Hid (Kept [] W W1) := by rw [hW1]; exact (Kept.refl [] W).drew
  have H2 : Hid (Beg w0 W1 g k n m (.slice (some ⟨ca, 0, none⟩) n cc) (.slice (some ⟨da, 0, none⟩) n dd) p q T U st col B z) := H1.out.pure K1.out
  have HBL1 : Hid (bx < W1.heap.size) := by rw [hW1]; exact HBL.out
  have c0' : W1.cell? ⟨g, 0, none⟩ = some (.slice (some ⟨ca, 0, none⟩) n cc) := by rw [hW1]; exact c0
  have c1' : W1.cell? ⟨g, 1, none⟩ = some (.slice (some ⟨da, 0, none⟩) n dd) := by rw [hW1]; exact c1
  have c2' : W1.cell? ⟨g, 2, none⟩ = some (.pointer (some ⟨k, 0, none⟩)) := by rw [hW1]; exact c2
  have hc' : W1.cell? ⟨ca, j, none⟩ = some (.pointer (some ⟨p j, 0, none⟩)) := by rw [hW1]; exact hcell
  have hd' : W1.cell? ⟨da, j, none⟩ = some (.pointer (some ⟨q j, 0, none⟩)) := by rw [hW1]; exact hdell
  have x1' : W1.cell? ⟨bx, 1, none⟩ = some (.int .i64 5) := by rw [hW1]; exact x1
  have x3' : W1.cell? ⟨bx, 3, none⟩ = some (.int .i64 ok) := by rw [hW1]; exact x3
  have HX3 : Hid (∀ w2 S, Kept S W1 w2 → bx ∉ S → w2.cell? ⟨bx, 3, none⟩ = some (.int .i64 ok)) := fun w2 S KK hb => by rw [← x3']; exact World.cell?_of_block (KK.block bx HBL1.out hb)
  have HX1 : Hid (∀ w2 S, Kept S W1 w2 → bx ∉ S → w2.cell? ⟨bx, 1, none⟩ = some (.int .i64 5)) := fun w2 S KK hb => by rw [← x1']; exact World.cell?_of_block (KK.block bx HBL1.out hb)
  have PR := Lib.hid (H2.out.r.two j hjn)
  have FI := Lib.hid (H2.out.r.fine j hjn)
  have SC := Lib.hid (H2.out.r.sc j hjn)
  have hbp : bx ∉ [p j] := by have := SC.out; have := HZ.out; simp; omega
  have hbq : bx ∉ [p j, q j] := by have := SC.out; have := HZ.out; simp; omega
  have HBP := Lib.hid hbp
  have HBQ := Lib.hid hbq
  have TL : Hid (∀ b ∈ T j, b < W1.heap.size) := fun b hb => PR.out.lt b (List.mem_append_left _ hb)
  have PB : (st j).pos + (st j).left.length ≤ 67108864 := FI.out.pos
  clear hW1
  go_upto_region 1 with (fail)
  go_cut [5] from 15 to 22 (fun s5 wx => s5 = .int .i64 j ∧ W1 = wx)
  case first =>
    clear c0' c1' c2' hc' hd' x1' x3'
    go_region_with (go_at_call 9; refine (PICK.out _).mono ?_; rintro e w2 ⟨rfl, rfl⟩)
    all_goals
      go_wp2_with fail
      go_meet
      case rel => exact ⟨rfl, HW1.out⟩
  obtain ⟨rfl, rfl⟩ := hcut
  clear x0 x1 x3 c0 c1 c2 hcell hdell HW HBX H1 PICK HBL HBL1 KW K1 hbp hbq HW1
  have R1 := Lib.hid (Rdr.raw_any W1 (p j) (T j) (st j) ok (by omega) FI.out.ok PR.out.a)
  go_wp2_with fail
  refine R1.out.mono ?_
  rintro e w2 ⟨v1, rfl, o1, r1, k1⟩
  have K1 := Lib.hid k1
  have y3 := HX3.out _ _ k1 HBP.out
  have R2 := Lib.hid (Vrd.raw_any w2 (q j) (U j) (st j) ok (by omega) (PR.out.left k1))
  obtain ⟨a1, d1, rfl⟩ := Zb.own_slice o1.out
  clear k1 R1
  go_wp2_with fail
  refine R2.out.mono ?_
  rintro e w3 ⟨v2, rfl, o2, r2, k2⟩
  have K2 := Lib.hid k2
  obtain ⟨P3, K3⟩ := PR.out.both r1.out K1.out r2.out K2.out
  obtain ⟨a2, d2, rfl⟩ := Zb.own_slice o2.out
  obtain ⟨bs, hbs⟩ : ∃ l, l = (st j).raws ok := ⟨_, rfl⟩
  rw [← hbs] at o1 o2 ⊢
  have hbl : bs.length ≤ 67108864 := by
    rw [hbs]
    unfold RS.raws
    split
    · simp
    · have := RS.got_left (st j) ok.toNat; omega
  have Q1 : Hid (∀ b, (Value.slice a1 bs.length d1).ownBlock = some b → W1.heap.size ≤ b ∧ b < w2.heap.size) := fun b hb => o1.out.lt b hb
  have O1 : Hid (Wrt.Own w3 0 (.slice a1 bs.length d1) bs) := World.ownsRow.mono (Zb.ownsRow_kept o1.out K2.out (fun b hb hm => by have := Q1.out b hb; have h1 := (H2.out.r.plt2 hjn).2; simp at hm; omega)) (Nat.zero_le _)
  have s1 : Hid (Seg w3 (.slice a1 bs.length d1) bs (Value.slice a1 bs.length d1).ownBlock.toList) := Seg.of_own O1.out
  have s2 : Hid (Seg w3 (.slice a2 bs.length d2) bs (Value.slice a2 bs.length d2).ownBlock.toList) := Seg.of_own o2.out
  have SAME : Hid (Calls Try.prog 29 #[.slice a1 bs.length d1, .slice a2 bs.length d2] w3 fun e w' => e = .returned (.bool true) ∧ Kept [] w3 w') := (Lst.same_any w3 (.slice a1 bs.length d1) (.slice a2 bs.length d2) bs bs _ _ (by omega) s1 s2).mono fun e w' ⟨h1, h2⟩ => ⟨by rw [h1]; simp, h2⟩
  obtain ⟨RR, NB⟩ := H2.out.r.step hjn (FI.out.rawed ok) P3 K3
  have RRh := Lib.hid RR
  have BB : Hid (Bkl w3 k B m) := H2.out.b.kept K3 NB
  have K3h := Lib.hid K3
  clear hbs k2 R2 y3 s1 s2 P3 K3 RR NB
  go_wp2_with fail
  refine SAME.out.mono ?_
  rintro e w4 ⟨rfl, k4⟩
  have R4 := Lib.hid (RRh.out.pure k4)
  have B4 : Hid (Bkl w4 k B m) := BB.out.kept k4 (fun _ _ hm => by cases hm)
  obtain ⟨e0, e1, e2, fz⟩ := three R4.out.hand
  have O4 : Hid (w4.ownsRow 0 5 1 (.slice a1 bs.length d1) bs.length (bs.map Zb.bv)) := Zb.ownsRow_kept O1.out k4 (fun _ _ hm => by cases hm)
  have NW : Hid (∀ b, (Value.slice a1 bs.length d1).ownBlock = some b → z ≤ b) := fun b hb => Nat.le_trans H2.out.r.zle (Q1.out b hb).1
  have OW := Lib.hid (Bkl.owns_any w4 k B m (.slice a1 bs.length d1) bs (by have := H2.out.mm; omega) (by omega) O4 (fun b hb hm => by have := NW.out b hb; have := R4.out.bc b hm; omega) B4)
  clear SAME k4 fz
  go_wp2_with fail
  refine OW.out.mono ?_
  rintro e w5 ⟨rfl, o5⟩
  obtain ⟨B', col', z', R5, B5⟩ := R4.out.book NW.out o5
  go_wp2_with fail
  go_ret
  exact ReadsOut.mk (Nat.le_refl _) (Nat.le_succ _) (Nat.le_refl _) R5 B5

set_option maxHeartbeats 4000000 in
set_option maxRecDepth 100000 in
theorem reads_text (w0 w : World) (g k n m : Nat) (cv dv : Value) (p q : Nat → Nat) (T U : Nat → List Nat) (st : Nat → RS) (col : Nat → Nat) (B : List Nat) (z : Nat) (o : Stp) (hkind : o.kind = 6) (so : Rst o) (h : Hid (Beg w0 w g k n m cv dv p q T U st col B z)) :
    Calls Try.prog 21 #[.pointer (some ⟨g, 0, none⟩), o.val] w (ReadsOut w0 g k n m) := by
  obtain ⟨who, kind, on, ok, ob, os⟩ := o
  have hw1 := so.w1
  have hw2 := so.w2
  have hk1 := so.k1
  have hk2 := so.k2
  have hn0 := h.out.n0
  have hnn := h.out.nn
  dsimp only at hkind hw1 hw2 hk1 hk2
  subst hkind
  show Calls Try.prog 21 #[.pointer (some ⟨g, 0, none⟩), .agg #[.int .i64 who, .int .i64 6, .int .u64 on, .int .i64 ok, ob, .string os]] w _
  obtain ⟨j, hj⟩ : ∃ x, x = Mad.pk who n := ⟨_, rfl⟩
  have PICK := Lib.hid (fun w => Mad.pick_any who n n w rfl (by omega) (by omega) hw1 hw2)
  rw [← hj] at PICK
  have hjn : j < n := by rw [hj]; exact Mad.pk_lt who n hn0
  clear hj so hw1 hw2
  obtain ⟨W, hW⟩ : ∃ W, W = w.alloc (.cells #[.int .i64 who, .int .i64 6, .int .u64 on, .int .i64 ok, ob, .string os] 43 (0, 0)) := ⟨_, rfl⟩
  obtain ⟨bx, hbx⟩ : ∃ b, b = w.heap.size := ⟨_, rfl⟩
  have KW : Hid (Kept [] w W) := by rw [hW]; exact (Kept.refl [] w).alloc _
  have BX : W.heap[bx]? = some (.cells #[.int .i64 who, .int .i64 6, .int .u64 on, .int .i64 ok, ob, .string os] 43 (0, 0)) := by rw [hW, hbx]; exact heap_alloc_new w _
  have x0 : W.cell? ⟨bx, 0, none⟩ = some (.int .i64 who) := by rw [cell_of_row W bx 0 _ _ (0, 0) BX]; rfl
  have x1 : W.cell? ⟨bx, 1, none⟩ = some (.int .i64 6) := by rw [cell_of_row W bx 1 _ _ (0, 0) BX]; rfl
  have x3 : W.cell? ⟨bx, 3, none⟩ = some (.int .i64 ok) := by rw [cell_of_row W bx 3 _ _ (0, 0) BX]; rfl
  have H1 : Hid (Beg w0 W g k n m cv dv p q T U st col B z) := h.out.pure KW.out
  have HZ : Hid (z ≤ bx) := by rw [hbx]; exact h.out.r.zle
  have HBL : Hid (bx < W.heap.size) := block_lt BX
  have HW := Lib.hid hW
  have HBX := Lib.hid hbx
  obtain ⟨ca, cc, rfl, hcc, hcell⟩ := ptrs_at H1.out.r.crow hjn
  obtain ⟨da, dd, rfl, hdd, hdell⟩ := ptrs_at H1.out.r.drow hjn
  obtain ⟨c0, c1, c2, fz⟩ := three H1.out.r.hand
  have j4 : (j : Int) < (n : Int) := by omega
  clear h BX fz hW hbx 
  go_enter Try.func21, Try.ntmps21
  go_wp2_with fail
  rw [← HW.out, ← HBX.out]
  obtain ⟨W1, hW1⟩ : ∃ x, x = W.drew := ⟨_, rfl⟩
  have HW1 := Lib.hid hW1
  have K1 : Hid (Kept [] W W1) := by rw [hW1]; exact (Kept.refl [] W).drew
  have H2 : Hid (Beg w0 W1 g k n m (.slice (some ⟨ca, 0, none⟩) n cc) (.slice (some ⟨da, 0, none⟩) n dd) p q T U st col B z) := H1.out.pure K1.out
  have HBL1 : Hid (bx < W1.heap.size) := by rw [hW1]; exact HBL.out
  have c0' : W1.cell? ⟨g, 0, none⟩ = some (.slice (some ⟨ca, 0, none⟩) n cc) := by rw [hW1]; exact c0
  have c1' : W1.cell? ⟨g, 1, none⟩ = some (.slice (some ⟨da, 0, none⟩) n dd) := by rw [hW1]; exact c1
  have c2' : W1.cell? ⟨g, 2, none⟩ = some (.pointer (some ⟨k, 0, none⟩)) := by rw [hW1]; exact c2
  have hc' : W1.cell? ⟨ca, j, none⟩ = some (.pointer (some ⟨p j, 0, none⟩)) := by rw [hW1]; exact hcell
  have hd' : W1.cell? ⟨da, j, none⟩ = some (.pointer (some ⟨q j, 0, none⟩)) := by rw [hW1]; exact hdell
  have x1' : W1.cell? ⟨bx, 1, none⟩ = some (.int .i64 6) := by rw [hW1]; exact x1
  have x3' : W1.cell? ⟨bx, 3, none⟩ = some (.int .i64 ok) := by rw [hW1]; exact x3
  have HX3 : Hid (∀ w2 S, Kept S W1 w2 → bx ∉ S → w2.cell? ⟨bx, 3, none⟩ = some (.int .i64 ok)) := fun w2 S KK hb => by rw [← x3']; exact World.cell?_of_block (KK.block bx HBL1.out hb)
  have HX1 : Hid (∀ w2 S, Kept S W1 w2 → bx ∉ S → w2.cell? ⟨bx, 1, none⟩ = some (.int .i64 6)) := fun w2 S KK hb => by rw [← x1']; exact World.cell?_of_block (KK.block bx HBL1.out hb)
  have PR := Lib.hid (H2.out.r.two j hjn)
  have FI := Lib.hid (H2.out.r.fine j hjn)
  have SC := Lib.hid (H2.out.r.sc j hjn)
  have hbp : bx ∉ [p j] := by have := SC.out; have := HZ.out; simp; omega
  have hbq : bx ∉ [p j, q j] := by have := SC.out; have := HZ.out; simp; omega
  have HBP := Lib.hid hbp
  have HBQ := Lib.hid hbq
  have TL : Hid (∀ b ∈ T j, b < W1.heap.size) := fun b hb => PR.out.lt b (List.mem_append_left _ hb)
  have PB : (st j).pos + (st j).left.length ≤ 67108864 := FI.out.pos
  clear hW1
  go_upto_region 1 with (fail)
  go_cut [5] from 15 to 22 (fun s5 wx => s5 = .int .i64 j ∧ W1 = wx)
  case first =>
    clear c0' c1' c2' hc' hd' x1' x3'
    go_region_with (go_at_call 9; refine (PICK.out _).mono ?_; rintro e w2 ⟨rfl, rfl⟩)
    all_goals
      go_wp2_with fail
      go_meet
      case rel => exact ⟨rfl, HW1.out⟩
  obtain ⟨rfl, rfl⟩ := hcut
  clear x0 x1 x3 c0 c1 c2 hcell hdell HW HBX H1 PICK HBL HBL1 KW K1 hbp hbq HW1
  have R1 := Lib.hid (Rdr.text_any W1 (p j) (T j) (st j) TL FI.out.ok PR.out.a)
  go_wp2_with fail
  refine R1.out.mono ?_
  rintro e w2 ⟨rfl, r1, k1⟩
  have K1 := Lib.hid k1
  skip
  have R2 := Lib.hid (Vrd.text_any w2 (q j) (U j) (st j) (by omega) (PR.out.left k1))
  clear k1 R1
  go_wp2_with fail
  refine R2.out.mono ?_
  rintro e w3 ⟨rfl, r2, k2⟩
  have K2 := Lib.hid k2
  obtain ⟨P3, K3⟩ := PR.out.both r1.out K1.out r2.out K2.out
  obtain ⟨RR, NB⟩ := H2.out.r.step hjn (FI.out.text) P3 K3
  have RRh := Lib.hid RR
  have BB : Hid (Bkl w3 k B m) := H2.out.b.kept K3 NB
  have K3h := Lib.hid K3
  have P3h := Lib.hid P3
  clear k2 R2 P3 K3 RR NB
  go_wp2_with fail
  go_ret
  exact ReadsOut.mk (Nat.le_refl _) (Nat.le_succ _) (Nat.le_succ _) RRh.out BB.out

set_option maxHeartbeats 4000000 in
set_option maxRecDepth 100000 in
theorem reads_open (w0 w : World) (g k n m : Nat) (cv dv : Value) (p q : Nat → Nat) (T U : Nat → List Nat) (st : Nat → RS) (col : Nat → Nat) (B : List Nat) (z : Nat) (o : Stp) (hkind : o.kind = 7) (so : Rst o) (h : Hid (Beg w0 w g k n m cv dv p q T U st col B z)) :
    Calls Try.prog 21 #[.pointer (some ⟨g, 0, none⟩), o.val] w (ReadsOut w0 g k n m) := by
  obtain ⟨who, kind, on, ok, ob, os⟩ := o
  have hw1 := so.w1
  have hw2 := so.w2
  have hk1 := so.k1
  have hk2 := so.k2
  have hn0 := h.out.n0
  have hnn := h.out.nn
  dsimp only at hkind hw1 hw2 hk1 hk2
  subst hkind
  show Calls Try.prog 21 #[.pointer (some ⟨g, 0, none⟩), .agg #[.int .i64 who, .int .i64 7, .int .u64 on, .int .i64 ok, ob, .string os]] w _
  obtain ⟨j, hj⟩ : ∃ x, x = Mad.pk who n := ⟨_, rfl⟩
  have PICK := Lib.hid (fun w => Mad.pick_any who n n w rfl (by omega) (by omega) hw1 hw2)
  rw [← hj] at PICK
  have hjn : j < n := by rw [hj]; exact Mad.pk_lt who n hn0
  clear hj so hw1 hw2
  obtain ⟨W, hW⟩ : ∃ W, W = w.alloc (.cells #[.int .i64 who, .int .i64 7, .int .u64 on, .int .i64 ok, ob, .string os] 43 (0, 0)) := ⟨_, rfl⟩
  obtain ⟨bx, hbx⟩ : ∃ b, b = w.heap.size := ⟨_, rfl⟩
  have KW : Hid (Kept [] w W) := by rw [hW]; exact (Kept.refl [] w).alloc _
  have BX : W.heap[bx]? = some (.cells #[.int .i64 who, .int .i64 7, .int .u64 on, .int .i64 ok, ob, .string os] 43 (0, 0)) := by rw [hW, hbx]; exact heap_alloc_new w _
  have x0 : W.cell? ⟨bx, 0, none⟩ = some (.int .i64 who) := by rw [cell_of_row W bx 0 _ _ (0, 0) BX]; rfl
  have x1 : W.cell? ⟨bx, 1, none⟩ = some (.int .i64 7) := by rw [cell_of_row W bx 1 _ _ (0, 0) BX]; rfl
  have x3 : W.cell? ⟨bx, 3, none⟩ = some (.int .i64 ok) := by rw [cell_of_row W bx 3 _ _ (0, 0) BX]; rfl
  have H1 : Hid (Beg w0 W g k n m cv dv p q T U st col B z) := h.out.pure KW.out
  have HZ : Hid (z ≤ bx) := by rw [hbx]; exact h.out.r.zle
  have HBL : Hid (bx < W.heap.size) := block_lt BX
  have HW := Lib.hid hW
  have HBX := Lib.hid hbx
  obtain ⟨ca, cc, rfl, hcc, hcell⟩ := ptrs_at H1.out.r.crow hjn
  obtain ⟨da, dd, rfl, hdd, hdell⟩ := ptrs_at H1.out.r.drow hjn
  obtain ⟨c0, c1, c2, fz⟩ := three H1.out.r.hand
  have j4 : (j : Int) < (n : Int) := by omega
  clear h BX fz hW hbx 
  go_enter Try.func21, Try.ntmps21
  go_wp2_with fail
  rw [← HW.out, ← HBX.out]
  obtain ⟨W1, hW1⟩ : ∃ x, x = W.drew := ⟨_, rfl⟩
  have HW1 := Lib.hid hW1
  have K1 : Hid (Kept [] W W1) := by rw [hW1]; exact (Kept.refl [] W).drew
  have H2 : Hid (Beg w0 W1 g k n m (.slice (some ⟨ca, 0, none⟩) n cc) (.slice (some ⟨da, 0, none⟩) n dd) p q T U st col B z) := H1.out.pure K1.out
  have HBL1 : Hid (bx < W1.heap.size) := by rw [hW1]; exact HBL.out
  have c0' : W1.cell? ⟨g, 0, none⟩ = some (.slice (some ⟨ca, 0, none⟩) n cc) := by rw [hW1]; exact c0
  have c1' : W1.cell? ⟨g, 1, none⟩ = some (.slice (some ⟨da, 0, none⟩) n dd) := by rw [hW1]; exact c1
  have c2' : W1.cell? ⟨g, 2, none⟩ = some (.pointer (some ⟨k, 0, none⟩)) := by rw [hW1]; exact c2
  have hc' : W1.cell? ⟨ca, j, none⟩ = some (.pointer (some ⟨p j, 0, none⟩)) := by rw [hW1]; exact hcell
  have hd' : W1.cell? ⟨da, j, none⟩ = some (.pointer (some ⟨q j, 0, none⟩)) := by rw [hW1]; exact hdell
  have x1' : W1.cell? ⟨bx, 1, none⟩ = some (.int .i64 7) := by rw [hW1]; exact x1
  have x3' : W1.cell? ⟨bx, 3, none⟩ = some (.int .i64 ok) := by rw [hW1]; exact x3
  have HX3 : Hid (∀ w2 S, Kept S W1 w2 → bx ∉ S → w2.cell? ⟨bx, 3, none⟩ = some (.int .i64 ok)) := fun w2 S KK hb => by rw [← x3']; exact World.cell?_of_block (KK.block bx HBL1.out hb)
  have HX1 : Hid (∀ w2 S, Kept S W1 w2 → bx ∉ S → w2.cell? ⟨bx, 1, none⟩ = some (.int .i64 7)) := fun w2 S KK hb => by rw [← x1']; exact World.cell?_of_block (KK.block bx HBL1.out hb)
  have PR := Lib.hid (H2.out.r.two j hjn)
  have FI := Lib.hid (H2.out.r.fine j hjn)
  have SC := Lib.hid (H2.out.r.sc j hjn)
  have hbp : bx ∉ [p j] := by have := SC.out; have := HZ.out; simp; omega
  have hbq : bx ∉ [p j, q j] := by have := SC.out; have := HZ.out; simp; omega
  have HBP := Lib.hid hbp
  have HBQ := Lib.hid hbq
  have TL : Hid (∀ b ∈ T j, b < W1.heap.size) := fun b hb => PR.out.lt b (List.mem_append_left _ hb)
  have PB : (st j).pos + (st j).left.length ≤ 67108864 := FI.out.pos
  clear hW1
  go_upto_region 1 with (fail)
  go_cut [5] from 15 to 22 (fun s5 wx => s5 = .int .i64 j ∧ W1 = wx)
  case first =>
    clear c0' c1' c2' hc' hd' x1' x3'
    go_region_with (go_at_call 9; refine (PICK.out _).mono ?_; rintro e w2 ⟨rfl, rfl⟩)
    all_goals
      go_wp2_with fail
      go_meet
      case rel => exact ⟨rfl, HW1.out⟩
  obtain ⟨rfl, rfl⟩ := hcut
  clear x0 x1 x3 c0 c1 c2 hcell hdell HW HBX H1 PICK HBL HBL1 KW K1 hbp hbq HW1
  obtain ⟨i0, hi0, hz00, hz01, hz02⟩ := info_parts info_rp
  obtain ⟨i1, hi1, hz10, hz11, hz12⟩ := info_parts info_qp
  have R1 := Lib.hid (Rdr.part_any W1 (p j) (T j) (st j) TL FI.out.ok PR.out.a)
  go_wp2_with fail
  refine R1.out.mono ?_
  rintro e w2 ⟨r, rfl, hr, n1, r1, k1⟩
  have K1 := Lib.hid k1
  have R2 := Lib.hid (Vrd.part_any w2 (q j) (U j) (st j) (by omega) (PR.out.left k1))
  clear k1 R1
  go_wp2_with fail
  refine R2.out.mono ?_
  rintro e w3 ⟨s, Us, rfl, hs, n2, r2, k2⟩
  have K2 := Lib.hid k2
  obtain ⟨P3, K3⟩ := PR.out.both r1.out K1.out r2.out K2.out
  obtain ⟨RR, NB⟩ := H2.out.r.step hjn FI.out.past P3 K3
  have BB : Hid (Bkl w3 k B m) := H2.out.b.kept K3 NB
  have hqr : q j ≠ r := by have := (H2.out.r.plt2 hjn).2; omega
  have N1 : Rd w3 r (T j) (st j).part := n1.out.kept K2.out (by simp; omega) (fun b hb hm => by have := TL.out b hb; simp at hm; exact PR.out.qT (hm ▸ hb))
  have hz1 := K1.out.size
  have hrl := n1.out.lt
  have hzl := H2.out.r.zle
  have PN : Pr w3 r s (T j) Us (st j).part := ⟨N1, n2.out, by have := hs s (by simp); omega, fun hm => by have := hs r (List.mem_cons_of_mem _ hm); omega, fun hm => by have := TL.out s hm; have := hs s (by simp); omega, fun b hb => by
    rcases List.mem_append.1 hb with x | x
    · have := TL.out b x; have := K3.size; omega
    · exact (hs b (List.mem_cons_of_mem _ x)).2⟩
  obtain ⟨col2, RG⟩ := RR.reg (Or.inl rfl) (Or.inl rfl) PN FI.out.part (Or.inr (by omega)) (by have := hs s (by simp); omega) (fun b hb => Or.inl (H2.out.r.data j hjn b (List.mem_append_left _ hb))) (fun b hb => by have := hs b (List.mem_cons_of_mem _ hb); omega)
  have RGh := Lib.hid RG
  have PNh := Lib.hid PN
  have K3h := Lib.hid K3
  clear hs k2 R2 P3 K3 RR NB RG PN N1 hqr hz1 hrl hzl hr
  obtain ⟨e0, e1, e2, fz⟩ := three RGh.out.hand
  have f0 := fz 0
  have f1 := fz 1
  clear fz
  have hbase := RGh.out.kept.size
  have hz4 : n ≤ 4000000 := hnn
  refine Lib.hid ?_
  go_wp2_with (at_builtin; refine Zb.wpList_append_src (w3.alloc (.cells #[.pointer (some ⟨r, 0, none⟩)] 55)) rfl (.tmp 80) (.tmp 82) 50 rfl w0.heap.size 55 i0 (.pointer none) 1 8 Try.underlying50 hi0 hz00 hz01 hz02 rfl (by decide) (.slice (some ⟨ca, 0, none⟩) n cc) n (ptrs (put1 p n r) n) rfl (RGh.out.crow.alloc _) (.slice (some ⟨w3.heap.size, 0, none⟩) 1 1) 1 [.pointer (some ⟨r, 0, none⟩)] rfl (Or.inr ⟨_, _, rfl, World.news_of_block (cs := #[.pointer (some ⟨r, 0, none⟩)]) (by exact heap_alloc_new w3 _)⟩) rfl (by intro u hu; simp at hu; subst hu; rfl) (by unfold maxLen; omega) (by omega) (by simp; omega) ?_; intro v4 w4 hown4 hgrow4 hat4; have O4 := Lib.hid hown4; have G4 := Lib.hid hgrow4; have A4 := Lib.hid hat4; clear hown4 hgrow4 hat4; refine Hid.out ?_)
  have hnp : ∀ (f : Nat → Nat) (x : Nat), ∀ i, i < n + 1 → put1 (put1 f n x) n x i = put1 f n x i := fun f x i _ => by rw [put1_put1]
  have KA : Hid (Kept [] w3 (w3.alloc (.cells #[.pointer (some ⟨r, 0, none⟩)] 55))) := (Kept.refl [] w3).alloc _
  have HN4 := RGh.out.handc KA.out G4.out
  obtain ⟨col4, S4, R4, C4, KK4, SS4⟩ := RGh.out.growc (hnp p r) KA.out O4.out G4.out A4.out
  obtain ⟨y0, y1, y2, yz⟩ := three HN4
  have yf := yz 0
  obtain ⟨va, vc, rfl⟩ := Zb.own_slice O4.out
  rw [put1_put1] at R4
  have R4h := Lib.hid R4
  have C4h := Lib.hid C4
  have KK4h := Lib.hid KK4
  have SS4h := Lib.hid SS4
  have HNP := Lib.hid hnp
  clear HN4 yz R4 C4 KK4 SS4 hnp
  refine Lib.hid ?_
  go_upto_region 21 with (fail)
  obtain ⟨w5, hw5⟩ : ∃ w5, w5 = w4.setCell ⟨g, 0, none⟩ (.slice va (n + 1) vc) := ⟨_, rfl⟩
  rw [← hw5] at R4h KK4h ⊢
  clear hw5 y0 y1 y2 yf e0 e1 e2 f0 f1
  obtain ⟨e0, e1, e2, fz⟩ := three R4h.out.hand
  have f1 := fz 1
  have hb5 := R4h.out.kept.size
  clear fz
  go_wp2_with (at_builtin; refine Zb.wpList_append_src (w5.alloc (.cells #[.pointer (some ⟨s, 0, none⟩)] 58)) rfl (.tmp 90) (.tmp 92) 51 rfl w0.heap.size 58 i1 (.pointer none) 1 8 Try.underlying51 hi1 hz10 hz11 hz12 rfl (by decide) (.slice (some ⟨da, 0, none⟩) n dd) n (ptrs (put1 q n s) n) rfl (R4h.out.drow.alloc _) (.slice (some ⟨w5.heap.size, 0, none⟩) 1 1) 1 [.pointer (some ⟨s, 0, none⟩)] rfl (Or.inr ⟨_, _, rfl, World.news_of_block (cs := #[.pointer (some ⟨s, 0, none⟩)]) (by exact heap_alloc_new w5 _)⟩) rfl (by intro u hu; simp at hu; subst hu; rfl) (by unfold maxLen; omega) (by omega) (by simp; omega) ?_; intro v6 w6 hown6 hgrow6 hat6; have O6 := Lib.hid hown6; have G6 := Lib.hid hgrow6; have A6 := Lib.hid hat6; clear hown6 hgrow6 hat6; refine Hid.out ?_)
  have KB : Hid (Kept [] w5 (w5.alloc (.cells #[.pointer (some ⟨s, 0, none⟩)] 58))) := (Kept.refl [] w5).alloc _
  have HN6 := R4h.out.handd KB.out G6.out
  obtain ⟨col6, S6, R6, C6, KK6, SS6⟩ := R4h.out.growd (HNP.out q s) KB.out O6.out G6.out A6.out
  obtain ⟨y0, y1, y2, yz⟩ := three HN6
  have yf := yz 1
  obtain ⟨vb, vd, rfl⟩ := Zb.own_slice O6.out
  rw [put1_put1] at R6
  have R6h := Lib.hid R6
  have KK6h := Lib.hid KK6
  have SS6h := Lib.hid SS6
  clear HN6 yz R6 C6 KK6 SS6
  refine Lib.hid ?_
  go_upto_region 22 with (fail)
  obtain ⟨w7, hw7⟩ : ∃ w7, w7 = w6.setCell ⟨g, 1, none⟩ (.slice vb (n + 1) vd) := ⟨_, rfl⟩
  rw [← hw7] at R6h KK6h ⊢
  clear hw7 y0 y1 y2 yf e0 e1 e2 f1
  have B7 : Hid (Bkl w7 k B m) := (BB.out.kept KK4h.out (fun b hb hm => by have := SS4h.out b hm; have := RGh.out.bc b hb; omega)).kept KK6h.out (fun b hb hm => by have := SS6h.out b hm; have := R4h.out.bc b hb; omega)
  have T7 := Lib.hid (R6h.out.two n (Nat.lt_succ_self n))
  have F7 := Lib.hid (R6h.out.fine n (Nat.lt_succ_self n))
  rw [put1_at, put1_at, put1_at, put1_at, put1_at] at T7
  rw [put1_at] at F7
  have TELL := Lib.hid (Lst.tells_any w7 r s _ _ _ F7 T7)
  go_wp2_with fail
  refine TELL.out.mono ?_
  rintro e w8 ⟨rfl, k8⟩
  have R8 := Lib.hid (R6h.out.pure k8)
  have B8 : Hid (Bkl w8 k B m) := B7.out.kept k8 (fun _ _ hm => by cases hm)
  clear k8 TELL
  go_wp2_with fail
  go_ret
  exact ReadsOut.mk (Nat.le_succ _) (Nat.le_refl _) (Nat.le_succ _) R8.out B8.out

set_option maxHeartbeats 4000000 in
set_option maxRecDepth 100000 in
theorem reads_end (w0 w : World) (g k n m : Nat) (cv dv : Value) (p q : Nat → Nat) (T U : Nat → List Nat) (st : Nat → RS) (col : Nat → Nat) (B : List Nat) (z : Nat) (o : Stp) (hkind : o.kind = 8) (so : Rst o) (h : Hid (Beg w0 w g k n m cv dv p q T U st col B z)) :
    Calls Try.prog 21 #[.pointer (some ⟨g, 0, none⟩), o.val] w (ReadsOut w0 g k n m) := by
  obtain ⟨who, kind, on, ok, ob, os⟩ := o
  have hw1 := so.w1
  have hw2 := so.w2
  have hk1 := so.k1
  have hk2 := so.k2
  have hn0 := h.out.n0
  have hnn := h.out.nn
  dsimp only at hkind hw1 hw2 hk1 hk2
  subst hkind
  show Calls Try.prog 21 #[.pointer (some ⟨g, 0, none⟩), .agg #[.int .i64 who, .int .i64 8, .int .u64 on, .int .i64 ok, ob, .string os]] w _
  obtain ⟨j, hj⟩ : ∃ x, x = Mad.pk who n := ⟨_, rfl⟩
  have PICK := Lib.hid (fun w => Mad.pick_any who n n w rfl (by omega) (by omega) hw1 hw2)
  rw [← hj] at PICK
  have hjn : j < n := by rw [hj]; exact Mad.pk_lt who n hn0
  clear hj so hw1 hw2
  obtain ⟨W, hW⟩ : ∃ W, W = w.alloc (.cells #[.int .i64 who, .int .i64 8, .int .u64 on, .int .i64 ok, ob, .string os] 43 (0, 0)) := ⟨_, rfl⟩
  obtain ⟨bx, hbx⟩ : ∃ b, b = w.heap.size := ⟨_, rfl⟩
  have KW : Hid (Kept [] w W) := by rw [hW]; exact (Kept.refl [] w).alloc _
  have BX : W.heap[bx]? = some (.cells #[.int .i64 who, .int .i64 8, .int .u64 on, .int .i64 ok, ob, .string os] 43 (0, 0)) := by rw [hW, hbx]; exact heap_alloc_new w _
  have x0 : W.cell? ⟨bx, 0, none⟩ = some (.int .i64 who) := by rw [cell_of_row W bx 0 _ _ (0, 0) BX]; rfl
  have x1 : W.cell? ⟨bx, 1, none⟩ = some (.int .i64 8) := by rw [cell_of_row W bx 1 _ _ (0, 0) BX]; rfl
  have x3 : W.cell? ⟨bx, 3, none⟩ = some (.int .i64 ok) := by rw [cell_of_row W bx 3 _ _ (0, 0) BX]; rfl
  have H1 : Hid (Beg w0 W g k n m cv dv p q T U st col B z) := h.out.pure KW.out
  have HZ : Hid (z ≤ bx) := by rw [hbx]; exact h.out.r.zle
  have HBL : Hid (bx < W.heap.size) := block_lt BX
  have HW := Lib.hid hW
  have HBX := Lib.hid hbx
  obtain ⟨ca, cc, rfl, hcc, hcell⟩ := ptrs_at H1.out.r.crow hjn
  obtain ⟨da, dd, rfl, hdd, hdell⟩ := ptrs_at H1.out.r.drow hjn
  obtain ⟨c0, c1, c2, fz⟩ := three H1.out.r.hand
  have j4 : (j : Int) < (n : Int) := by omega
  clear h BX fz hW hbx 
  go_enter Try.func21, Try.ntmps21
  go_wp2_with fail
  rw [← HW.out, ← HBX.out]
  obtain ⟨W1, hW1⟩ : ∃ x, x = W.drew := ⟨_, rfl⟩
  have HW1 := Lib.hid hW1
  have K1 : Hid (Kept [] W W1) := by rw [hW1]; exact (Kept.refl [] W).drew
  have H2 : Hid (Beg w0 W1 g k n m (.slice (some ⟨ca, 0, none⟩) n cc) (.slice (some ⟨da, 0, none⟩) n dd) p q T U st col B z) := H1.out.pure K1.out
  have HBL1 : Hid (bx < W1.heap.size) := by rw [hW1]; exact HBL.out
  have c0' : W1.cell? ⟨g, 0, none⟩ = some (.slice (some ⟨ca, 0, none⟩) n cc) := by rw [hW1]; exact c0
  have c1' : W1.cell? ⟨g, 1, none⟩ = some (.slice (some ⟨da, 0, none⟩) n dd) := by rw [hW1]; exact c1
  have c2' : W1.cell? ⟨g, 2, none⟩ = some (.pointer (some ⟨k, 0, none⟩)) := by rw [hW1]; exact c2
  have hc' : W1.cell? ⟨ca, j, none⟩ = some (.pointer (some ⟨p j, 0, none⟩)) := by rw [hW1]; exact hcell
  have hd' : W1.cell? ⟨da, j, none⟩ = some (.pointer (some ⟨q j, 0, none⟩)) := by rw [hW1]; exact hdell
  have x1' : W1.cell? ⟨bx, 1, none⟩ = some (.int .i64 8) := by rw [hW1]; exact x1
  have x3' : W1.cell? ⟨bx, 3, none⟩ = some (.int .i64 ok) := by rw [hW1]; exact x3
  have HX3 : Hid (∀ w2 S, Kept S W1 w2 → bx ∉ S → w2.cell? ⟨bx, 3, none⟩ = some (.int .i64 ok)) := fun w2 S KK hb => by rw [← x3']; exact World.cell?_of_block (KK.block bx HBL1.out hb)
  have HX1 : Hid (∀ w2 S, Kept S W1 w2 → bx ∉ S → w2.cell? ⟨bx, 1, none⟩ = some (.int .i64 8)) := fun w2 S KK hb => by rw [← x1']; exact World.cell?_of_block (KK.block bx HBL1.out hb)
  have PR := Lib.hid (H2.out.r.two j hjn)
  have FI := Lib.hid (H2.out.r.fine j hjn)
  have SC := Lib.hid (H2.out.r.sc j hjn)
  have hbp : bx ∉ [p j] := by have := SC.out; have := HZ.out; simp; omega
  have hbq : bx ∉ [p j, q j] := by have := SC.out; have := HZ.out; simp; omega
  have HBP := Lib.hid hbp
  have HBQ := Lib.hid hbq
  have TL : Hid (∀ b ∈ T j, b < W1.heap.size) := fun b hb => PR.out.lt b (List.mem_append_left _ hb)
  have PB : (st j).pos + (st j).left.length ≤ 67108864 := FI.out.pos
  clear hW1
  go_upto_region 1 with (fail)
  go_cut [5] from 15 to 22 (fun s5 wx => s5 = .int .i64 j ∧ W1 = wx)
  case first =>
    clear c0' c1' c2' hc' hd' x1' x3'
    go_region_with (go_at_call 9; refine (PICK.out _).mono ?_; rintro e w2 ⟨rfl, rfl⟩)
    all_goals
      go_wp2_with fail
      go_meet
      case rel => exact ⟨rfl, HW1.out⟩
  obtain ⟨rfl, rfl⟩ := hcut
  clear x0 x1 x3 c0 c1 c2 hcell hdell HW HBX H1 PICK HBL HBL1 KW K1 hbp hbq HW1
  have NU : Hid (∀ s : RS, s.Fine → ∀ w3, Pr w3 (p j) (q j) (T j) (U j) s → Calls Try.prog 56 #[.pointer (some ⟨p j, 0, none⟩), .pointer (some ⟨q j, 0, none⟩), .int .i64 8] w3 (Step w3 (p j) (q j) (T j) (U j) s)) := fun s f w3 P => Lst.number_any w3 (p j) (q j) (T j) (U j) s 8 f P
  have R1 := Lib.hid (Rdr.end_any W1 (p j) (T j) (st j) PR.out.a)
  go_wp2_with fail
  refine R1.out.mono ?_
  rintro e w2 ⟨rfl, r1, k1⟩
  have K1 := Lib.hid k1
  have y1 := HX1.out _ _ k1 HBP.out
  have R2 := Lib.hid (Vrd.end_any w2 (q j) (U j) (st j) (by omega) (PR.out.left k1))
  clear k1 R1
  go_wp2_with fail
  refine R2.out.mono ?_
  rintro e w3 ⟨rfl, r2, k2⟩
  have K2 := Lib.hid k2
  obtain ⟨P3, K3⟩ := PR.out.both r1.out K1.out r2.out K2.out
  obtain ⟨RR, NB⟩ := H2.out.r.step hjn (FI.out.end) P3 K3
  have RRh := Lib.hid RR
  have BB : Hid (Bkl w3 k B m) := H2.out.b.kept K3 NB
  have K3h := Lib.hid K3
  have P3h := Lib.hid P3
  clear k2 R2 P3 K3 RR NB
  have y5 := HX1.out _ _ K3h.out HBQ.out
  clear y1
  go_wp2_with fail
  refine (NU.out _ FI.out.end _ P3h.out).mono ?_
  rintro e w5 ⟨s5, rfl, f5, p5, k5⟩
  obtain ⟨R5, NB5⟩ := RRh.out.step hjn f5.out p5.out k5.out
  have B5 : Bkl w5 k B m := BB.out.kept k5.out NB5
  go_wp2_with fail
  go_ret
  exact ReadsOut.mk (Nat.le_refl _) (Nat.le_succ _) (Nat.le_succ _) R5 B5

set_option maxHeartbeats 4000000 in
set_option maxRecDepth 100000 in
theorem reads_fail (w0 w : World) (g k n m : Nat) (cv dv : Value) (p q : Nat → Nat) (T U : Nat → List Nat) (st : Nat → RS) (col : Nat → Nat) (B : List Nat) (z : Nat) (o : Stp) (hkind : o.kind = 9) (so : Rst o) (h : Hid (Beg w0 w g k n m cv dv p q T U st col B z)) :
    Calls Try.prog 21 #[.pointer (some ⟨g, 0, none⟩), o.val] w (ReadsOut w0 g k n m) := by
  obtain ⟨who, kind, on, ok, ob, os⟩ := o
  have hw1 := so.w1
  have hw2 := so.w2
  have hk1 := so.k1
  have hk2 := so.k2
  have hn0 := h.out.n0
  have hnn := h.out.nn
  dsimp only at hkind hw1 hw2 hk1 hk2
  subst hkind
  show Calls Try.prog 21 #[.pointer (some ⟨g, 0, none⟩), .agg #[.int .i64 who, .int .i64 9, .int .u64 on, .int .i64 ok, ob, .string os]] w _
  obtain ⟨j, hj⟩ : ∃ x, x = Mad.pk who n := ⟨_, rfl⟩
  have PICK := Lib.hid (fun w => Mad.pick_any who n n w rfl (by omega) (by omega) hw1 hw2)
  rw [← hj] at PICK
  have hjn : j < n := by rw [hj]; exact Mad.pk_lt who n hn0
  clear hj so hw1 hw2
  obtain ⟨W, hW⟩ : ∃ W, W = w.alloc (.cells #[.int .i64 who, .int .i64 9, .int .u64 on, .int .i64 ok, ob, .string os] 43 (0, 0)) := ⟨_, rfl⟩
  obtain ⟨bx, hbx⟩ : ∃ b, b = w.heap.size := ⟨_, rfl⟩
  have KW : Hid (Kept [] w W) := by rw [hW]; exact (Kept.refl [] w).alloc _
  have BX : W.heap[bx]? = some (.cells #[.int .i64 who, .int .i64 9, .int .u64 on, .int .i64 ok, ob, .string os] 43 (0, 0)) := by rw [hW, hbx]; exact heap_alloc_new w _
  have x0 : W.cell? ⟨bx, 0, none⟩ = some (.int .i64 who) := by rw [cell_of_row W bx 0 _ _ (0, 0) BX]; rfl
  have x1 : W.cell? ⟨bx, 1, none⟩ = some (.int .i64 9) := by rw [cell_of_row W bx 1 _ _ (0, 0) BX]; rfl
  have x3 : W.cell? ⟨bx, 3, none⟩ = some (.int .i64 ok) := by rw [cell_of_row W bx 3 _ _ (0, 0) BX]; rfl
  have H1 : Hid (Beg w0 W g k n m cv dv p q T U st col B z) := h.out.pure KW.out
  have HZ : Hid (z ≤ bx) := by rw [hbx]; exact h.out.r.zle
  have HBL : Hid (bx < W.heap.size) := block_lt BX
  have HW := Lib.hid hW
  have HBX := Lib.hid hbx
  obtain ⟨ca, cc, rfl, hcc, hcell⟩ := ptrs_at H1.out.r.crow hjn
  obtain ⟨da, dd, rfl, hdd, hdell⟩ := ptrs_at H1.out.r.drow hjn
  obtain ⟨c0, c1, c2, fz⟩ := three H1.out.r.hand
  have j4 : (j : Int) < (n : Int) := by omega
  clear h BX fz hW hbx 
  go_enter Try.func21, Try.ntmps21
  go_wp2_with fail
  rw [← HW.out, ← HBX.out]
  obtain ⟨W1, hW1⟩ : ∃ x, x = W.drew := ⟨_, rfl⟩
  have HW1 := Lib.hid hW1
  have K1 : Hid (Kept [] W W1) := by rw [hW1]; exact (Kept.refl [] W).drew
  have H2 : Hid (Beg w0 W1 g k n m (.slice (some ⟨ca, 0, none⟩) n cc) (.slice (some ⟨da, 0, none⟩) n dd) p q T U st col B z) := H1.out.pure K1.out
  have HBL1 : Hid (bx < W1.heap.size) := by rw [hW1]; exact HBL.out
  have c0' : W1.cell? ⟨g, 0, none⟩ = some (.slice (some ⟨ca, 0, none⟩) n cc) := by rw [hW1]; exact c0
  have c1' : W1.cell? ⟨g, 1, none⟩ = some (.slice (some ⟨da, 0, none⟩) n dd) := by rw [hW1]; exact c1
  have c2' : W1.cell? ⟨g, 2, none⟩ = some (.pointer (some ⟨k, 0, none⟩)) := by rw [hW1]; exact c2
  have hc' : W1.cell? ⟨ca, j, none⟩ = some (.pointer (some ⟨p j, 0, none⟩)) := by rw [hW1]; exact hcell
  have hd' : W1.cell? ⟨da, j, none⟩ = some (.pointer (some ⟨q j, 0, none⟩)) := by rw [hW1]; exact hdell
  have x1' : W1.cell? ⟨bx, 1, none⟩ = some (.int .i64 9) := by rw [hW1]; exact x1
  have x3' : W1.cell? ⟨bx, 3, none⟩ = some (.int .i64 ok) := by rw [hW1]; exact x3
  have HX3 : Hid (∀ w2 S, Kept S W1 w2 → bx ∉ S → w2.cell? ⟨bx, 3, none⟩ = some (.int .i64 ok)) := fun w2 S KK hb => by rw [← x3']; exact World.cell?_of_block (KK.block bx HBL1.out hb)
  have HX1 : Hid (∀ w2 S, Kept S W1 w2 → bx ∉ S → w2.cell? ⟨bx, 1, none⟩ = some (.int .i64 9)) := fun w2 S KK hb => by rw [← x1']; exact World.cell?_of_block (KK.block bx HBL1.out hb)
  have PR := Lib.hid (H2.out.r.two j hjn)
  have FI := Lib.hid (H2.out.r.fine j hjn)
  have SC := Lib.hid (H2.out.r.sc j hjn)
  have hbp : bx ∉ [p j] := by have := SC.out; have := HZ.out; simp; omega
  have hbq : bx ∉ [p j, q j] := by have := SC.out; have := HZ.out; simp; omega
  have HBP := Lib.hid hbp
  have HBQ := Lib.hid hbq
  have TL : Hid (∀ b ∈ T j, b < W1.heap.size) := fun b hb => PR.out.lt b (List.mem_append_left _ hb)
  have PB : (st j).pos + (st j).left.length ≤ 67108864 := FI.out.pos
  clear hW1
  go_upto_region 1 with (fail)
  go_cut [5] from 15 to 22 (fun s5 wx => s5 = .int .i64 j ∧ W1 = wx)
  case first =>
    clear c0' c1' c2' hc' hd' x1' x3'
    go_region_with (go_at_call 9; refine (PICK.out _).mono ?_; rintro e w2 ⟨rfl, rfl⟩)
    all_goals
      go_wp2_with fail
      go_meet
      case rel => exact ⟨rfl, HW1.out⟩
  obtain ⟨rfl, rfl⟩ := hcut
  clear x0 x1 x3 c0 c1 c2 hcell hdell HW HBX H1 PICK HBL HBL1 KW K1 hbp hbq HW1
  have NU : Hid (∀ s : RS, s.Fine → ∀ w3, Pr w3 (p j) (q j) (T j) (U j) s → Calls Try.prog 56 #[.pointer (some ⟨p j, 0, none⟩), .pointer (some ⟨q j, 0, none⟩), .int .i64 9] w3 (Step w3 (p j) (q j) (T j) (U j) s)) := fun s f w3 P => Lst.number_any w3 (p j) (q j) (T j) (U j) s 9 f P
  have R1 := Lib.hid (Rdr.fail_any W1 (p j) (T j) (st j) ok PR.out.a)
  go_wp2_with fail
  refine R1.out.mono ?_
  rintro e w2 ⟨rfl, r1, k1⟩
  have K1 := Lib.hid k1
  have y3 := HX3.out _ _ k1 HBP.out
  have R2 := Lib.hid (Vrd.fail_any w2 (q j) (U j) (st j) ok (by omega) (PR.out.left k1))
  clear k1 R1
  go_wp2_with fail
  refine R2.out.mono ?_
  rintro e w3 ⟨rfl, r2, k2⟩
  have K2 := Lib.hid k2
  obtain ⟨P3, K3⟩ := PR.out.both r1.out K1.out r2.out K2.out
  obtain ⟨RR, NB⟩ := H2.out.r.step hjn (FI.out.fail ok hk1 hk2) P3 K3
  have RRh := Lib.hid RR
  have BB : Hid (Bkl w3 k B m) := H2.out.b.kept K3 NB
  have K3h := Lib.hid K3
  have P3h := Lib.hid P3
  clear k2 R2 P3 K3 RR NB
  have y5 := HX1.out _ _ K3h.out HBQ.out
  clear y3
  go_wp2_with fail
  refine (NU.out _ (FI.out.fail ok hk1 hk2) _ P3h.out).mono ?_
  rintro e w5 ⟨s5, rfl, f5, p5, k5⟩
  obtain ⟨R5, NB5⟩ := RRh.out.step hjn f5.out p5.out k5.out
  have B5 : Bkl w5 k B m := BB.out.kept k5.out NB5
  go_wp2_with fail
  go_ret
  exact ReadsOut.mk (Nat.le_refl _) (Nat.le_succ _) (Nat.le_succ _) R5 B5

set_option maxHeartbeats 4000000 in
set_option maxRecDepth 100000 in
theorem reads_len (w0 w : World) (g k n m : Nat) (cv dv : Value) (p q : Nat → Nat) (T U : Nat → List Nat) (st : Nat → RS) (col : Nat → Nat) (B : List Nat) (z : Nat) (o : Stp) (hkind : o.kind = 10) (so : Rst o) (h : Hid (Beg w0 w g k n m cv dv p q T U st col B z)) :
    Calls Try.prog 21 #[.pointer (some ⟨g, 0, none⟩), o.val] w (ReadsOut w0 g k n m) := by
  obtain ⟨who, kind, on, ok, ob, os⟩ := o
  have hw1 := so.w1
  have hw2 := so.w2
  have hk1 := so.k1
  have hk2 := so.k2
  have hn0 := h.out.n0
  have hnn := h.out.nn
  dsimp only at hkind hw1 hw2 hk1 hk2
  subst hkind
  show Calls Try.prog 21 #[.pointer (some ⟨g, 0, none⟩), .agg #[.int .i64 who, .int .i64 10, .int .u64 on, .int .i64 ok, ob, .string os]] w _
  obtain ⟨j, hj⟩ : ∃ x, x = Mad.pk who n := ⟨_, rfl⟩
  have PICK := Lib.hid (fun w => Mad.pick_any who n n w rfl (by omega) (by omega) hw1 hw2)
  rw [← hj] at PICK
  have hjn : j < n := by rw [hj]; exact Mad.pk_lt who n hn0
  clear hj so hw1 hw2
  obtain ⟨W, hW⟩ : ∃ W, W = w.alloc (.cells #[.int .i64 who, .int .i64 10, .int .u64 on, .int .i64 ok, ob, .string os] 43 (0, 0)) := ⟨_, rfl⟩
  obtain ⟨bx, hbx⟩ : ∃ b, b = w.heap.size := ⟨_, rfl⟩
  have KW : Hid (Kept [] w W) := by rw [hW]; exact (Kept.refl [] w).alloc _
  have BX : W.heap[bx]? = some (.cells #[.int .i64 who, .int .i64 10, .int .u64 on, .int .i64 ok, ob, .string os] 43 (0, 0)) := by rw [hW, hbx]; exact heap_alloc_new w _
  have x0 : W.cell? ⟨bx, 0, none⟩ = some (.int .i64 who) := by rw [cell_of_row W bx 0 _ _ (0, 0) BX]; rfl
  have x1 : W.cell? ⟨bx, 1, none⟩ = some (.int .i64 10) := by rw [cell_of_row W bx 1 _ _ (0, 0) BX]; rfl
  have x3 : W.cell? ⟨bx, 3, none⟩ = some (.int .i64 ok) := by rw [cell_of_row W bx 3 _ _ (0, 0) BX]; rfl
  have H1 : Hid (Beg w0 W g k n m cv dv p q T U st col B z) := h.out.pure KW.out
  have HZ : Hid (z ≤ bx) := by rw [hbx]; exact h.out.r.zle
  have HBL : Hid (bx < W.heap.size) := block_lt BX
  have HW := Lib.hid hW
  have HBX := Lib.hid hbx
  obtain ⟨ca, cc, rfl, hcc, hcell⟩ := ptrs_at H1.out.r.crow hjn
  obtain ⟨da, dd, rfl, hdd, hdell⟩ := ptrs_at H1.out.r.drow hjn
  obtain ⟨c0, c1, c2, fz⟩ := three H1.out.r.hand
  have j4 : (j : Int) < (n : Int) := by omega
  clear h BX fz hW hbx 
  go_enter Try.func21, Try.ntmps21
  go_wp2_with fail
  rw [← HW.out, ← HBX.out]
  obtain ⟨W1, hW1⟩ : ∃ x, x = W.drew := ⟨_, rfl⟩
  have HW1 := Lib.hid hW1
  have K1 : Hid (Kept [] W W1) := by rw [hW1]; exact (Kept.refl [] W).drew
  have H2 : Hid (Beg w0 W1 g k n m (.slice (some ⟨ca, 0, none⟩) n cc) (.slice (some ⟨da, 0, none⟩) n dd) p q T U st col B z) := H1.out.pure K1.out
  have HBL1 : Hid (bx < W1.heap.size) := by rw [hW1]; exact HBL.out
  have c0' : W1.cell? ⟨g, 0, none⟩ = some (.slice (some ⟨ca, 0, none⟩) n cc) := by rw [hW1]; exact c0
  have c1' : W1.cell? ⟨g, 1, none⟩ = some (.slice (some ⟨da, 0, none⟩) n dd) := by rw [hW1]; exact c1
  have c2' : W1.cell? ⟨g, 2, none⟩ = some (.pointer (some ⟨k, 0, none⟩)) := by rw [hW1]; exact c2
  have hc' : W1.cell? ⟨ca, j, none⟩ = some (.pointer (some ⟨p j, 0, none⟩)) := by rw [hW1]; exact hcell
  have hd' : W1.cell? ⟨da, j, none⟩ = some (.pointer (some ⟨q j, 0, none⟩)) := by rw [hW1]; exact hdell
  have x1' : W1.cell? ⟨bx, 1, none⟩ = some (.int .i64 10) := by rw [hW1]; exact x1
  have x3' : W1.cell? ⟨bx, 3, none⟩ = some (.int .i64 ok) := by rw [hW1]; exact x3
  have HX3 : Hid (∀ w2 S, Kept S W1 w2 → bx ∉ S → w2.cell? ⟨bx, 3, none⟩ = some (.int .i64 ok)) := fun w2 S KK hb => by rw [← x3']; exact World.cell?_of_block (KK.block bx HBL1.out hb)
  have HX1 : Hid (∀ w2 S, Kept S W1 w2 → bx ∉ S → w2.cell? ⟨bx, 1, none⟩ = some (.int .i64 10)) := fun w2 S KK hb => by rw [← x1']; exact World.cell?_of_block (KK.block bx HBL1.out hb)
  have PR := Lib.hid (H2.out.r.two j hjn)
  have FI := Lib.hid (H2.out.r.fine j hjn)
  have SC := Lib.hid (H2.out.r.sc j hjn)
  have hbp : bx ∉ [p j] := by have := SC.out; have := HZ.out; simp; omega
  have hbq : bx ∉ [p j, q j] := by have := SC.out; have := HZ.out; simp; omega
  have HBP := Lib.hid hbp
  have HBQ := Lib.hid hbq
  have TL : Hid (∀ b ∈ T j, b < W1.heap.size) := fun b hb => PR.out.lt b (List.mem_append_left _ hb)
  have PB : (st j).pos + (st j).left.length ≤ 67108864 := FI.out.pos
  clear hW1
  go_upto_region 1 with (fail)
  go_cut [5] from 15 to 22 (fun s5 wx => s5 = .int .i64 j ∧ W1 = wx)
  case first =>
    clear c0' c1' c2' hc' hd' x1' x3'
    go_region_with (go_at_call 9; refine (PICK.out _).mono ?_; rintro e w2 ⟨rfl, rfl⟩)
    all_goals
      go_wp2_with fail
      go_meet
      case rel => exact ⟨rfl, HW1.out⟩
  obtain ⟨rfl, rfl⟩ := hcut
  clear x0 x1 x3 c0 c1 c2 hcell hdell HW HBX H1 PICK HBL HBL1 KW K1 hbp hbq HW1
  have L1 : Hid (∀ w1, Kept [] W1 w1 → Calls Try.prog 36 #[.pointer (some ⟨p j, 0, none⟩)] w1 fun e w' => e = .returned (.int .i64 (if (st j).err = 0 then (st j).left.length else 0 : Nat)) ∧ w1 = w') := fun w1 K => Rdr.left_any w1 (p j) (T j) (st j) (PR.out.pure K).a
  have L2 : Hid (∀ w1, Kept [] W1 w1 → Calls Try.prog 54 #[.pointer (some ⟨q j, 0, none⟩)] w1 fun e w' => e = .returned (.int .i64 (if (st j).err = 0 then (st j).left.length else 0 : Nat)) ∧ ∃ n, w' = w1.drewN n) := fun w1 K => Vrd.left_any w1 (q j) (U j) (st j) (by omega) (PR.out.pure K).b
  have A1 : Hid (∀ w1, Kept [] W1 w1 → Calls Try.prog 35 #[.pointer (some ⟨p j, 0, none⟩)] w1 fun e w' => e = .returned (.int .i64 (st j).pos) ∧ w1 = w') := fun w1 K => Rdr.at_any w1 (p j) (T j) (st j) (PR.out.pure K).a
  have A2 : Hid (∀ w1, Kept [] W1 w1 → Calls Try.prog 55 #[.pointer (some ⟨q j, 0, none⟩)] w1 fun e w' => e = .returned (.int .i64 (st j).pos) ∧ ∃ n, w' = w1.drewN n) := fun w1 K => Vrd.at_any w1 (q j) (U j) (st j) (by omega) (PR.out.pure K).b
  obtain ⟨ln, hln⟩ : ∃ n, n = (if (st j).err = 0 then (st j).left.length else 0 : Nat) := ⟨_, rfl⟩
  rw [← hln] at L1 L2
  clear hln
  go_wp2_with fail
  refine (L1.out _ (Kept.refl _ _)).mono ?_
  rintro e w3 ⟨rfl, rfl⟩
  go_wp2_with fail
  refine (L2.out _ (Kept.refl _ _)).mono ?_
  rintro e w3 ⟨rfl, n3, rfl⟩
  have K3 : Hid (Kept [] W1 (W1.drewN n3)) := (Kept.refl [] W1).drewN n3
  go_wp2_with fail
  refine (A1.out _ K3.out).mono ?_
  rintro e w4 ⟨rfl, rfl⟩
  go_wp2_with fail
  refine (A2.out _ K3.out).mono ?_
  rintro e w4 ⟨rfl, n4, rfl⟩
  go_wp2_with fail
  go_ret
  have H3 := H2.out.pure ((Kept.refl [] W1).drewN (n3 + n4))
  exact ReadsOut.mk (Nat.le_refl _) (Nat.le_succ _) (Nat.le_succ _) H3.r H3.b

set_option maxHeartbeats 4000000 in
set_option maxRecDepth 100000 in
theorem reads_done (w0 w : World) (g k n m : Nat) (cv dv : Value) (p q : Nat → Nat) (T U : Nat → List Nat) (st : Nat → RS) (col : Nat → Nat) (B : List Nat) (z : Nat) (o : Stp) (hkind : o.kind = 11) (so : Rst o) (h : Hid (Beg w0 w g k n m cv dv p q T U st col B z)) :
    Calls Try.prog 21 #[.pointer (some ⟨g, 0, none⟩), o.val] w (ReadsOut w0 g k n m) := by
  obtain ⟨who, kind, on, ok, ob, os⟩ := o
  have hw1 := so.w1
  have hw2 := so.w2
  have hk1 := so.k1
  have hk2 := so.k2
  have hn0 := h.out.n0
  have hnn := h.out.nn
  dsimp only at hkind hw1 hw2 hk1 hk2
  subst hkind
  show Calls Try.prog 21 #[.pointer (some ⟨g, 0, none⟩), .agg #[.int .i64 who, .int .i64 11, .int .u64 on, .int .i64 ok, ob, .string os]] w _
  obtain ⟨j, hj⟩ : ∃ x, x = Mad.pk who n := ⟨_, rfl⟩
  have PICK := Lib.hid (fun w => Mad.pick_any who n n w rfl (by omega) (by omega) hw1 hw2)
  rw [← hj] at PICK
  have hjn : j < n := by rw [hj]; exact Mad.pk_lt who n hn0
  clear hj so hw1 hw2
  obtain ⟨W, hW⟩ : ∃ W, W = w.alloc (.cells #[.int .i64 who, .int .i64 11, .int .u64 on, .int .i64 ok, ob, .string os] 43 (0, 0)) := ⟨_, rfl⟩
  obtain ⟨bx, hbx⟩ : ∃ b, b = w.heap.size := ⟨_, rfl⟩
  have KW : Hid (Kept [] w W) := by rw [hW]; exact (Kept.refl [] w).alloc _
  have BX : W.heap[bx]? = some (.cells #[.int .i64 who, .int .i64 11, .int .u64 on, .int .i64 ok, ob, .string os] 43 (0, 0)) := by rw [hW, hbx]; exact heap_alloc_new w _
  have x0 : W.cell? ⟨bx, 0, none⟩ = some (.int .i64 who) := by rw [cell_of_row W bx 0 _ _ (0, 0) BX]; rfl
  have x1 : W.cell? ⟨bx, 1, none⟩ = some (.int .i64 11) := by rw [cell_of_row W bx 1 _ _ (0, 0) BX]; rfl
  have x3 : W.cell? ⟨bx, 3, none⟩ = some (.int .i64 ok) := by rw [cell_of_row W bx 3 _ _ (0, 0) BX]; rfl
  have H1 : Hid (Beg w0 W g k n m cv dv p q T U st col B z) := h.out.pure KW.out
  have HZ : Hid (z ≤ bx) := by rw [hbx]; exact h.out.r.zle
  have HBL : Hid (bx < W.heap.size) := block_lt BX
  have HW := Lib.hid hW
  have HBX := Lib.hid hbx
  obtain ⟨ca, cc, rfl, hcc, hcell⟩ := ptrs_at H1.out.r.crow hjn
  obtain ⟨da, dd, rfl, hdd, hdell⟩ := ptrs_at H1.out.r.drow hjn
  obtain ⟨c0, c1, c2, fz⟩ := three H1.out.r.hand
  have j4 : (j : Int) < (n : Int) := by omega
  clear h BX fz hW hbx 
  go_enter Try.func21, Try.ntmps21
  go_wp2_with fail
  rw [← HW.out, ← HBX.out]
  obtain ⟨W1, hW1⟩ : ∃ x, x = W.drew := ⟨_, rfl⟩
  have HW1 := Lib.hid hW1
  have K1 : Hid (Kept [] W W1) := by rw [hW1]; exact (Kept.refl [] W).drew
  have H2 : Hid (Beg w0 W1 g k n m (.slice (some ⟨ca, 0, none⟩) n cc) (.slice (some ⟨da, 0, none⟩) n dd) p q T U st col B z) := H1.out.pure K1.out
  have HBL1 : Hid (bx < W1.heap.size) := by rw [hW1]; exact HBL.out
  have c0' : W1.cell? ⟨g, 0, none⟩ = some (.slice (some ⟨ca, 0, none⟩) n cc) := by rw [hW1]; exact c0
  have c1' : W1.cell? ⟨g, 1, none⟩ = some (.slice (some ⟨da, 0, none⟩) n dd) := by rw [hW1]; exact c1
  have c2' : W1.cell? ⟨g, 2, none⟩ = some (.pointer (some ⟨k, 0, none⟩)) := by rw [hW1]; exact c2
  have hc' : W1.cell? ⟨ca, j, none⟩ = some (.pointer (some ⟨p j, 0, none⟩)) := by rw [hW1]; exact hcell
  have hd' : W1.cell? ⟨da, j, none⟩ = some (.pointer (some ⟨q j, 0, none⟩)) := by rw [hW1]; exact hdell
  have x1' : W1.cell? ⟨bx, 1, none⟩ = some (.int .i64 11) := by rw [hW1]; exact x1
  have x3' : W1.cell? ⟨bx, 3, none⟩ = some (.int .i64 ok) := by rw [hW1]; exact x3
  have HX3 : Hid (∀ w2 S, Kept S W1 w2 → bx ∉ S → w2.cell? ⟨bx, 3, none⟩ = some (.int .i64 ok)) := fun w2 S KK hb => by rw [← x3']; exact World.cell?_of_block (KK.block bx HBL1.out hb)
  have HX1 : Hid (∀ w2 S, Kept S W1 w2 → bx ∉ S → w2.cell? ⟨bx, 1, none⟩ = some (.int .i64 11)) := fun w2 S KK hb => by rw [← x1']; exact World.cell?_of_block (KK.block bx HBL1.out hb)
  have PR := Lib.hid (H2.out.r.two j hjn)
  have FI := Lib.hid (H2.out.r.fine j hjn)
  have SC := Lib.hid (H2.out.r.sc j hjn)
  have hbp : bx ∉ [p j] := by have := SC.out; have := HZ.out; simp; omega
  have hbq : bx ∉ [p j, q j] := by have := SC.out; have := HZ.out; simp; omega
  have HBP := Lib.hid hbp
  have HBQ := Lib.hid hbq
  have TL : Hid (∀ b ∈ T j, b < W1.heap.size) := fun b hb => PR.out.lt b (List.mem_append_left _ hb)
  have PB : (st j).pos + (st j).left.length ≤ 67108864 := FI.out.pos
  clear hW1
  go_upto_region 1 with (fail)
  go_cut [5] from 15 to 22 (fun s5 wx => s5 = .int .i64 j ∧ W1 = wx)
  case first =>
    clear c0' c1' c2' hc' hd' x1' x3'
    go_region_with (go_at_call 9; refine (PICK.out _).mono ?_; rintro e w2 ⟨rfl, rfl⟩)
    all_goals
      go_wp2_with fail
      go_meet
      case rel => exact ⟨rfl, HW1.out⟩
  obtain ⟨rfl, rfl⟩ := hcut
  clear x0 x1 x3 c0 c1 c2 hcell hdell HW HBX H1 PICK HBL HBL1 KW K1 hbp hbq HW1
  go_wp2_with fail
  refine (Lst.tells_any W1 (p j) (q j) (T j) (U j) (st j) FI PR).mono ?_
  rintro e w3 ⟨rfl, k3⟩
  have H3 := Lib.hid (H2.out.pure k3)
  clear k3
  go_wp2_with fail
  go_ret
  exact ReadsOut.mk (Nat.le_refl _) (Nat.le_succ _) (Nat.le_succ _) H3.out.r H3.out.b

set_option maxHeartbeats 4000000 in
set_option maxRecDepth 100000 in
theorem reads_else (w0 w : World) (g k n m : Nat) (cv dv : Value) (p q : Nat → Nat) (T U : Nat → List Nat) (st : Nat → RS) (col : Nat → Nat) (B : List Nat) (z : Nat) (o : Stp) (hkind : o.kind ≠ 5 ∧ o.kind ≠ 6 ∧ o.kind ≠ 7 ∧ o.kind ≠ 8 ∧ o.kind ≠ 9 ∧ o.kind ≠ 10 ∧ o.kind ≠ 11) (so : Rst o) (h : Hid (Beg w0 w g k n m cv dv p q T U st col B z)) :
    Calls Try.prog 21 #[.pointer (some ⟨g, 0, none⟩), o.val] w (ReadsOut w0 g k n m) := by
  obtain ⟨who, kind, on, ok, ob, os⟩ := o
  have hw1 := so.w1
  have hw2 := so.w2
  have hk1 := so.k1
  have hk2 := so.k2
  have hn0 := h.out.n0
  have hnn := h.out.nn
  dsimp only at hkind hw1 hw2 hk1 hk2
  have HKD := Lib.hid hkind; clear hkind
  show Calls Try.prog 21 #[.pointer (some ⟨g, 0, none⟩), .agg #[.int .i64 who, .int .i64 kind, .int .u64 on, .int .i64 ok, ob, .string os]] w _
  obtain ⟨j, hj⟩ : ∃ x, x = Mad.pk who n := ⟨_, rfl⟩
  have PICK := Lib.hid (fun w => Mad.pick_any who n n w rfl (by omega) (by omega) hw1 hw2)
  rw [← hj] at PICK
  have hjn : j < n := by rw [hj]; exact Mad.pk_lt who n hn0
  clear hj so hw1 hw2
  obtain ⟨W, hW⟩ : ∃ W, W = w.alloc (.cells #[.int .i64 who, .int .i64 kind, .int .u64 on, .int .i64 ok, ob, .string os] 43 (0, 0)) := ⟨_, rfl⟩
  obtain ⟨bx, hbx⟩ : ∃ b, b = w.heap.size := ⟨_, rfl⟩
  have KW : Hid (Kept [] w W) := by rw [hW]; exact (Kept.refl [] w).alloc _
  have BX : W.heap[bx]? = some (.cells #[.int .i64 who, .int .i64 kind, .int .u64 on, .int .i64 ok, ob, .string os] 43 (0, 0)) := by rw [hW, hbx]; exact heap_alloc_new w _
  have x0 : W.cell? ⟨bx, 0, none⟩ = some (.int .i64 who) := by rw [cell_of_row W bx 0 _ _ (0, 0) BX]; rfl
  have x1 : W.cell? ⟨bx, 1, none⟩ = some (.int .i64 kind) := by rw [cell_of_row W bx 1 _ _ (0, 0) BX]; rfl
  have x3 : W.cell? ⟨bx, 3, none⟩ = some (.int .i64 ok) := by rw [cell_of_row W bx 3 _ _ (0, 0) BX]; rfl
  have H1 : Hid (Beg w0 W g k n m cv dv p q T U st col B z) := h.out.pure KW.out
  have HZ : Hid (z ≤ bx) := by rw [hbx]; exact h.out.r.zle
  have HBL : Hid (bx < W.heap.size) := block_lt BX
  have HW := Lib.hid hW
  have HBX := Lib.hid hbx
  obtain ⟨ca, cc, rfl, hcc, hcell⟩ := ptrs_at H1.out.r.crow hjn
  obtain ⟨da, dd, rfl, hdd, hdell⟩ := ptrs_at H1.out.r.drow hjn
  obtain ⟨c0, c1, c2, fz⟩ := three H1.out.r.hand
  have j4 : (j : Int) < (n : Int) := by omega
  clear h BX fz hW hbx 
  go_enter Try.func21, Try.ntmps21
  go_wp2_with fail
  rw [← HW.out, ← HBX.out]
  obtain ⟨W1, hW1⟩ : ∃ x, x = W.drew := ⟨_, rfl⟩
  have HW1 := Lib.hid hW1
  have K1 : Hid (Kept [] W W1) := by rw [hW1]; exact (Kept.refl [] W).drew
  have H2 : Hid (Beg w0 W1 g k n m (.slice (some ⟨ca, 0, none⟩) n cc) (.slice (some ⟨da, 0, none⟩) n dd) p q T U st col B z) := H1.out.pure K1.out
  have HBL1 : Hid (bx < W1.heap.size) := by rw [hW1]; exact HBL.out
  have c0' : W1.cell? ⟨g, 0, none⟩ = some (.slice (some ⟨ca, 0, none⟩) n cc) := by rw [hW1]; exact c0
  have c1' : W1.cell? ⟨g, 1, none⟩ = some (.slice (some ⟨da, 0, none⟩) n dd) := by rw [hW1]; exact c1
  have c2' : W1.cell? ⟨g, 2, none⟩ = some (.pointer (some ⟨k, 0, none⟩)) := by rw [hW1]; exact c2
  have hc' : W1.cell? ⟨ca, j, none⟩ = some (.pointer (some ⟨p j, 0, none⟩)) := by rw [hW1]; exact hcell
  have hd' : W1.cell? ⟨da, j, none⟩ = some (.pointer (some ⟨q j, 0, none⟩)) := by rw [hW1]; exact hdell
  have x1' : W1.cell? ⟨bx, 1, none⟩ = some (.int .i64 kind) := by rw [hW1]; exact x1
  have x3' : W1.cell? ⟨bx, 3, none⟩ = some (.int .i64 ok) := by rw [hW1]; exact x3
  have HX3 : Hid (∀ w2 S, Kept S W1 w2 → bx ∉ S → w2.cell? ⟨bx, 3, none⟩ = some (.int .i64 ok)) := fun w2 S KK hb => by rw [← x3']; exact World.cell?_of_block (KK.block bx HBL1.out hb)
  have HX1 : Hid (∀ w2 S, Kept S W1 w2 → bx ∉ S → w2.cell? ⟨bx, 1, none⟩ = some (.int .i64 kind)) := fun w2 S KK hb => by rw [← x1']; exact World.cell?_of_block (KK.block bx HBL1.out hb)
  have PR := Lib.hid (H2.out.r.two j hjn)
  have FI := Lib.hid (H2.out.r.fine j hjn)
  have SC := Lib.hid (H2.out.r.sc j hjn)
  have hbp : bx ∉ [p j] := by have := SC.out; have := HZ.out; simp; omega
  have hbq : bx ∉ [p j, q j] := by have := SC.out; have := HZ.out; simp; omega
  have HBP := Lib.hid hbp
  have HBQ := Lib.hid hbq
  have TL : Hid (∀ b ∈ T j, b < W1.heap.size) := fun b hb => PR.out.lt b (List.mem_append_left _ hb)
  have PB : (st j).pos + (st j).left.length ≤ 67108864 := FI.out.pos
  clear hW1
  go_upto_region 1 with (fail)
  go_cut [5] from 15 to 22 (fun s5 wx => s5 = .int .i64 j ∧ W1 = wx)
  case first =>
    clear c0' c1' c2' hc' hd' x1' x3'
    go_region_with (go_at_call 9; refine (PICK.out _).mono ?_; rintro e w2 ⟨rfl, rfl⟩)
    all_goals
      go_wp2_with fail
      go_meet
      case rel => exact ⟨rfl, HW1.out⟩
  obtain ⟨rfl, rfl⟩ := hcut
  clear x0 x1 x3 c0 c1 c2 hcell hdell HW HBX H1 PICK HBL HBL1 KW K1 hbp hbq HW1
  obtain ⟨a5, a6, a7, a8, a9, a10, a11⟩ := HKD.out
  have t5 : (kind == 5) = false := by simpa using a5
  have t6 : (kind == 6) = false := by simpa using a6
  have t7 : (kind == 7) = false := by simpa using a7
  have t8 : (kind == 8) = false := by simpa using a8
  have t9 : (kind == 9) = false := by simpa using a9
  have t10 : (kind == 10) = false := by simpa using a10
  have t11 : (kind == 11) = false := by simpa using a11
  clear a5 a6 a7 a8 a9 a10 a11
  go_wp2_with fail
  refine (Lst.number_any W1 (p j) (q j) (T j) (U j) (st j) kind FI PR).mono ?_
  rintro e w5 ⟨s5, rfl, f5, p5, k5⟩
  obtain ⟨R5, NB5⟩ := H2.out.r.step hjn f5.out p5.out k5.out
  have B5 : Bkl w5 k B m := H2.out.b.kept k5.out NB5
  go_wp2_with fail
  go_ret
  exact ReadsOut.mk (Nat.le_refl _) (Nat.le_succ _) (Nat.le_succ _) R5 B5

theorem reads_any (w0 w : World) (g k n m : Nat) (cv dv : Value) (p q : Nat → Nat) (T U : Nat → List Nat) (st : Nat → RS) (col : Nat → Nat) (B : List Nat) (z : Nat) (o : Stp) (so : Rst o) (h : Hid (Beg w0 w g k n m cv dv p q T U st col B z)) :
    Calls Try.prog 21 #[.pointer (some ⟨g, 0, none⟩), o.val] w (ReadsOut w0 g k n m) := by
  by_cases h5 : o.kind = 5
  · exact reads_raw w0 w g k n m cv dv p q T U st col B z o h5 so h
  by_cases h6 : o.kind = 6
  · exact reads_text w0 w g k n m cv dv p q T U st col B z o h6 so h
  by_cases h7 : o.kind = 7
  · exact reads_open w0 w g k n m cv dv p q T U st col B z o h7 so h
  by_cases h8 : o.kind = 8
  · exact reads_end w0 w g k n m cv dv p q T U st col B z o h8 so h
  by_cases h9 : o.kind = 9
  · exact reads_fail w0 w g k n m cv dv p q T U st col B z o h9 so h
  by_cases h10 : o.kind = 10
  · exact reads_len w0 w g k n m cv dv p q T U st col B z o h10 so h
  by_cases h11 : o.kind = 11
  · exact reads_done w0 w g k n m cv dv p q T U st col B z o h11 so h
  exact reads_else w0 w g k n m cv dv p q T U st col B z o ⟨h5, h6, h7, h8, h9, h10, h11⟩ so h
end Lst
end Go.Proofs.Ytfdbpbhihccgbaa
