/- A cutter as the chapter tells it: its limit, the bytes in its hand, how many bytes were fed and frames taken, whether it died; where it lies in memory; what its small calls answer. -/
import Derived.Test.YtgdaiajjnfnomaaByt
namespace Go.Proofs.Ytgdaiajjnfnomaa
set_option linter.unusedVariables false
open Go.RowKit

theorem ret_int {k : IntKind} {a b : Int} (h : a = b) : Ending.returned (.int k a) = .returned (.int k b) := by rw [h]
theorem ret_bool {a b : Bool} (h : a = b) : Ending.returned (.bool a) = .returned (.bool b) := by rw [h]
/-- The number that bytes make, the lowest one first. -/
def leval : List UInt8 → Nat
  | [] => 0
  | b :: l => b.toNat + 256 * leval l
theorem or_32 (a b m i : Nat) (hm : m = 2 ^ i) (ha : a < m) (hb : b * m < 4294967296) (hm1 : m < 4294967296) : bits .or .u32 (a : Int) ((b * m : Nat) : Int) = ((a + b * m : Nat) : Int) := by
  have e : a ||| b * m = a + b * m := by
    subst hm
    rw [Nat.or_comm, Nat.mul_comm, ← Nat.two_pow_add_eq_or_of_lt ha, Nat.add_comm]
  have hx : a ||| b * m < 2 ^ 32 := Nat.or_lt_two_pow (by omega) (by omega)
  have h1 : (BitVec.ofInt 32 (a : Int)).toNat = a := by
    rw [BitVec.ofInt_natCast, BitVec.toNat_ofNat]; exact Nat.mod_eq_of_lt (by omega)
  have h2 : (BitVec.ofInt 32 ((b * m : Nat) : Int)).toNat = b * m := by
    rw [BitVec.ofInt_natCast, BitVec.toNat_ofNat]; exact Nat.mod_eq_of_lt (by omega)
  show IntKind.u32.wrap ((BitVec.ofInt 32 (a : Int) ||| BitVec.ofInt 32 ((b * m : Nat) : Int)).toNat : Int) = _
  rw [BitVec.toNat_or, h1, h2, IntKind.wrap_u32, e]
  rw [e] at hx
  omega
theorem le32 (b0 b1 b2 b3 : Nat) (h0 : b0 < 256) (h1 : b1 < 256) (h2 : b2 < 256) (h3 : b3 < 256) : bits BinOp.or IntKind.u32 (bits BinOp.or IntKind.u32 (bits BinOp.or IntKind.u32 (bits BinOp.or IntKind.u32 0 (b0 : Int)) ((b1 : Int) * 256)) ((b2 : Int) * 65536)) ((b3 : Int) * 16777216) = ((b0 + 256 * (b1 + 256 * (b2 + 256 * (b3 + 256 * (0)))) : Nat) : Int) := by
  have w0 : (b0 : Int) = ((b0 * 1 : Nat) : Int) := by omega
  have w1 : (b1 : Int) * 256 = ((b1 * 256 : Nat) : Int) := by omega
  have w2 : (b2 : Int) * 65536 = ((b2 * 65536 : Nat) : Int) := by omega
  have w3 : (b3 : Int) * 16777216 = ((b3 * 16777216 : Nat) : Int) := by omega
  rw [w0, w1, w2, w3]
  rw [show (0 : Int) = ((0 : Nat) : Int) from rfl]
  rw [or_32 (0) b0 1 0 (by decide) (by omega) (by omega) (by decide)]
  rw [or_32 (0 + b0 * 1) b1 256 8 (by decide) (by omega) (by omega) (by decide)]
  rw [or_32 (0 + b0 * 1 + b1 * 256) b2 65536 16 (by decide) (by omega) (by omega) (by decide)]
  rw [or_32 (0 + b0 * 1 + b1 * 256 + b2 * 65536) b3 16777216 24 (by decide) (by omega) (by omega) (by decide)]
  congr 1
  omega

/-- A cutter. -/
structure CS where
  lim : Nat
  hand : List UInt8
  fed : Nat
  taken : Nat
  dead : Bool

/-- A cutter lies at block p; S: its blocks. -/
def Ct (w : World) (p : Nat) (S : List Nat) (st : CS) : Prop :=
  ∃ (b0 b1 b2 b3 : UInt8) (v : Value), w.heap[p]? = some (.cells #[.int .u32 st.lim, .int .u8 b0.toNat, .int .u8 b1.toNat, .int .u8 b2.toNat, .int .u8 b3.toNat, .int .i64 (min 4 st.hand.length : Nat), v, .int .i64 st.fed, .int .i64 st.taken, .bool st.dead] 52 (0, 0)) ∧
    [b0, b1, b2, b3].take st.hand.length = st.hand.take 4 ∧ w.ownsRow 0 5 1 v (st.hand.drop 4).length ((st.hand.drop 4).map bv) ∧ S = p :: v.ownBlock.toList

theorem Ct.lt {w : World} {p : Nat} {S : List Nat} {st : CS} (h : Ct w p S st) : ∀ k ∈ S, k < w.heap.size := by
  obtain ⟨b0, b1, b2, b3, v, h1, -, h2, rfl⟩ := h
  intro k hk
  simp only [List.mem_cons, Option.mem_toList] at hk
  rcases hk with rfl | hk
  · exact block_lt h1
  · exact (h2.lt k hk).2
theorem Ct.kept {w w' : World} {p : Nat} {S T : List Nat} {st : CS} (h : Ct w p S st) (hk : Kept T w w') (hd : ∀ k ∈ S, k ∉ T) : Ct w' p S st := by
  obtain ⟨b0, b1, b2, b3, v, h1, h3, h2, rfl⟩ := h
  refine ⟨b0, b1, b2, b3, v, ?_, h3, ownsRow_kept h2 hk (fun k e => hd k (by simp [e])), rfl⟩
  rw [hk.block p (block_lt h1) (hd p (by simp))]
  exact h1

/-- The cells of a block of ten. -/
theorem ten {w : World} {p : Nat} {x0 x1 x2 x3 x4 x5 x6 x7 x8 x9 : Value} {t : TypeId} (h : w.heap[p]? = some (.cells #[x0, x1, x2, x3, x4, x5, x6, x7, x8, x9] t (0, 0))) :
    w.cell? ⟨p, 0, none⟩ = some x0 ∧ w.cell? ⟨p, 1, none⟩ = some x1 ∧ w.cell? ⟨p, 2, none⟩ = some x2 ∧ w.cell? ⟨p, 3, none⟩ = some x3 ∧ w.cell? ⟨p, 4, none⟩ = some x4 ∧ w.cell? ⟨p, 5, none⟩ = some x5 ∧ w.cell? ⟨p, 6, none⟩ = some x6 ∧ w.cell? ⟨p, 7, none⟩ = some x7 ∧ w.cell? ⟨p, 8, none⟩ = some x8 ∧ w.cell? ⟨p, 9, none⟩ = some x9 ∧ (∀ i, w.frozen? ⟨p, i, none⟩ = false) := by
  refine ⟨?_, ?_, ?_, ?_, ?_, ?_, ?_, ?_, ?_, ?_, fun i => ?_⟩
  case refine_11 => simp [World.frozen?, h]
  all_goals
    rw [cell_of_row w p _ _ t (0, 0) h]
    rfl
theorem Ct.parts {w : World} {p : Nat} {S : List Nat} {st : CS} (h : Ct w p S st) : ∃ (b0 b1 b2 b3 : UInt8) (v : Value),
    w.cell? ⟨p, 0, none⟩ = some (.int .u32 st.lim) ∧ w.cell? ⟨p, 1, none⟩ = some (.int .u8 b0.toNat) ∧ w.cell? ⟨p, 2, none⟩ = some (.int .u8 b1.toNat) ∧ w.cell? ⟨p, 3, none⟩ = some (.int .u8 b2.toNat) ∧ w.cell? ⟨p, 4, none⟩ = some (.int .u8 b3.toNat) ∧
    w.cell? ⟨p, 5, none⟩ = some (.int .i64 (min 4 st.hand.length : Nat)) ∧ w.cell? ⟨p, 6, none⟩ = some v ∧ w.cell? ⟨p, 7, none⟩ = some (.int .i64 st.fed) ∧ w.cell? ⟨p, 8, none⟩ = some (.int .i64 st.taken) ∧ w.cell? ⟨p, 9, none⟩ = some (.bool st.dead) ∧ (∀ i, w.frozen? ⟨p, i, none⟩ = false) ∧
    Hid (w.heap[p]? = some (.cells #[.int .u32 st.lim, .int .u8 b0.toNat, .int .u8 b1.toNat, .int .u8 b2.toNat, .int .u8 b3.toNat, .int .i64 (min 4 st.hand.length : Nat), v, .int .i64 st.fed, .int .i64 st.taken, .bool st.dead] 52 (0, 0))) ∧
    Hid ([b0, b1, b2, b3].take st.hand.length = st.hand.take 4) ∧ Hid (w.ownsRow 0 5 1 v (st.hand.drop 4).length ((st.hand.drop 4).map bv)) ∧ Hid (S = p :: v.ownBlock.toList) := by
  obtain ⟨b0, b1, b2, b3, v, h1, h2, h3, h4⟩ := h
  obtain ⟨c0, c1, c2, c3, c4, c5, c6, c7, c8, c9, fz⟩ := ten h1
  exact ⟨b0, b1, b2, b3, v, c0, c1, c2, c3, c4, c5, c6, c7, c8, c9, fz, h1, h2, h3, h4⟩

/-- What the hand's first four bytes say. -/
def CS.says (st : CS) : Nat := leval (st.hand.take 4)
/-- How many bytes are missing till the next thing is known. -/
def CS.want (st : CS) : Nat := if st.dead = true then 0 else if st.hand.length < 4 then 4 - st.hand.length else st.says - st.hand.length
def CS.whole (st : CS) : Bool := !st.dead && decide (st.want = 0)
structure CS.Ok (st : CS) : Prop where
  l1 : 7 ≤ st.lim
  l2 : st.lim ≤ 65536
  live : st.dead = false → 4 ≤ st.hand.length → 7 ≤ st.says ∧ st.says ≤ 65536 ∧ st.hand.length ≤ st.says
  died : st.dead = true → st.hand.length = 4

def limB (n : Nat) : Bool := decide (7 ≤ n ∧ n ≤ 65536)
def rightB (s l : Nat) : Bool := decide (7 ≤ s ∧ s ≤ l)

namespace Cut

theorem islimit_any (w : World) (x : Int) (n : Nat) (hx : x = n) :
    Calls Try.prog 24 #[.int .u32 x] w fun e w' => e = .returned (.bool (limB n)) ∧ w = w' := by
  subst hx
  by_cases h1 : 7 ≤ n
  · by_cases h2 : n ≤ 65536
    · have e : limB n = true := decide_eq_true ⟨h1, h2⟩
      rw [e]
      have j1 : (7 : Int) ≤ (n : Int) := by omega
      have j2 : (n : Int) ≤ 65536 := by omega
      go_enter Try.func24, Try.ntmps24
      go_wp2_with fail
      go_ret
      exact ⟨rfl, rfl⟩
    · have e : limB n = false := decide_eq_false (fun h => h2 h.2)
      rw [e]
      have j1 : (7 : Int) ≤ (n : Int) := by omega
      have j2 : ¬ (n : Int) ≤ 65536 := by omega
      go_enter Try.func24, Try.ntmps24
      go_wp2_with fail
      go_ret
      exact ⟨rfl, rfl⟩
  · have e : limB n = false := decide_eq_false (fun h => h1 h.1)
    rw [e]
    have j1 : ¬ (7 : Int) ≤ (n : Int) := by omega
    go_enter Try.func24, Try.ntmps24
    go_wp2_with fail
    go_ret
    exact ⟨rfl, rfl⟩

theorem isright_any (w : World) (x y : Int) (n l : Nat) (hx : x = n) (hy : y = l) :
    Calls Try.prog 31 #[.int .u32 x, .int .u32 y] w fun e w' => e = .returned (.bool (rightB n l)) ∧ w = w' := by
  subst hx hy
  by_cases h1 : 7 ≤ n
  · by_cases h2 : n ≤ l
    · have e : rightB n l = true := decide_eq_true ⟨h1, h2⟩
      rw [e]
      have j1 : (7 : Int) ≤ (n : Int) := by omega
      have j2 : (n : Int) ≤ (l : Int) := by omega
      have j3 : decide ((n : Int) ≤ (l : Int)) = true := decide_eq_true j2
      go_enter Try.func31, Try.ntmps31
      go_wp2_with fail
      go_ret
      exact ⟨rfl, rfl⟩
    · have e : rightB n l = false := decide_eq_false (fun h => h2 h.2)
      rw [e]
      have j1 : (7 : Int) ≤ (n : Int) := by omega
      have j2 : ¬ (n : Int) ≤ (l : Int) := by omega
      go_enter Try.func31, Try.ntmps31
      go_wp2_with fail
      go_ret
      exact ⟨rfl, rfl⟩
  · have e : rightB n l = false := decide_eq_false (fun h => h1 h.1)
    rw [e]
    have j1 : ¬ (7 : Int) ≤ (n : Int) := by omega
    go_enter Try.func31, Try.ntmps31
    go_wp2_with fail
    go_ret
    exact ⟨rfl, rfl⟩

theorem new_good (w : World) (x : Int) (n : Nat) (hx : x = n) (h1 : 7 ≤ n) (h2 : n ≤ 65536) :
    Calls Try.prog 11 #[.int .u32 x] w fun e w' => e = .returned (.pointer (some ⟨w.heap.size, 0, none⟩)) ∧ Hid (Ct w' w.heap.size [w.heap.size] ⟨n, [], 0, 0, false⟩) ∧ Kept [] w w' := by
  subst hx
  have e : limB n = true := decide_eq_true ⟨h1, h2⟩
  have LIM := Lib.hid (fun w => islimit_any w n n rfl)
  rw [e] at LIM
  clear e
  go_enter Try.func11, Try.ntmps11
  go_wp2_with fail
  refine (LIM.out _).mono ?_
  rintro e w1 ⟨rfl, rfl⟩
  go_wp2_with fail
  go_ret
  exact ⟨rfl, ⟨0, 0, 0, 0, .slice none 0 0, heap_alloc_new w _, rfl, World.ownsRow_nil _ _ _ _, rfl⟩, (Kept.refl _ _).alloc _⟩
theorem new_bad (w : World) (x : Int) (n : Nat) (hx : x = n) (h : limB n = false) :
    Calls Try.prog 11 #[.int .u32 x] w fun e w' => e = .returned (.pointer none) ∧ w = w' := by
  subst hx
  have LIM := Lib.hid (fun w => islimit_any w n n rfl)
  rw [h] at LIM
  clear h
  go_enter Try.func11, Try.ntmps11
  go_wp2_with fail
  refine (LIM.out _).mono ?_
  rintro e w1 ⟨rfl, rfl⟩
  go_wp2_with fail
  go_ret
  exact ⟨rfl, rfl⟩

theorem says_any (w : World) (p : Nat) (b0 b1 b2 b3 : UInt8) (c1 : w.cell? ⟨p, 1, none⟩ = some (.int .u8 b0.toNat)) (c2 : w.cell? ⟨p, 2, none⟩ = some (.int .u8 b1.toNat)) (c3 : w.cell? ⟨p, 3, none⟩ = some (.int .u8 b2.toNat)) (c4 : w.cell? ⟨p, 4, none⟩ = some (.int .u8 b3.toNat)) :
    Calls Try.prog 28 #[.pointer (some ⟨p, 0, none⟩)] w fun e w' => e = .returned (.int .u32 (leval [b0, b1, b2, b3])) ∧ w = w' := by
  have t0 := b0.toNat_lt
  have t1 := b1.toNat_lt
  have t2 := b2.toNat_lt
  have t3 := b3.toNat_lt
  have i0 : ∀ w, (Instr.index 50 (.agg #[.int .u8 b0.toNat, .int .u8 b1.toNat, .int .u8 b2.toNat, .int .u8 b3.toNat]) (.int .i64 0)).run Try.prog w = .ok (.int .u8 b0.toNat) w := fun _ => by kernel_rfl
  have i1 : ∀ w, (Instr.index 50 (.agg #[.int .u8 b0.toNat, .int .u8 b1.toNat, .int .u8 b2.toNat, .int .u8 b3.toNat]) (.int .i64 1)).run Try.prog w = .ok (.int .u8 b1.toNat) w := fun _ => by kernel_rfl
  have i2 : ∀ w, (Instr.index 50 (.agg #[.int .u8 b0.toNat, .int .u8 b1.toNat, .int .u8 b2.toNat, .int .u8 b3.toNat]) (.int .i64 2)).run Try.prog w = .ok (.int .u8 b2.toNat) w := fun _ => by kernel_rfl
  have i3 : ∀ w, (Instr.index 50 (.agg #[.int .u8 b0.toNat, .int .u8 b1.toNat, .int .u8 b2.toNat, .int .u8 b3.toNat]) (.int .i64 3)).run Try.prog w = .ok (.int .u8 b3.toNat) w := fun _ => by kernel_rfl
  go_enter Try.func28, Try.ntmps28
  go_wp2_with fail
  refine wp_loop_rounds 5 ?_
  rw [rounds_succ]
  go_wp2_with fail
  rw [rounds_succ]
  go_wp2_with fail
  rw [rounds_succ]
  go_wp2_with fail
  rw [rounds_succ]
  go_wp2_with fail
  rw [rounds_succ]
  go_wp2_with fail
  go_ret
  clear i0 i1 i2 i3 c1 c2 c3 c4
  exact ⟨ret_int (le32 b0.toNat b1.toNat b2.toNat b3.toNat (by omega) (by omega) (by omega) (by omega)), rfl⟩

/-- What the bytes in the array are worth. -/
theorem says_eq {b0 b1 b2 b3 : UInt8} {st : CS} (h : [b0, b1, b2, b3].take st.hand.length = st.hand.take 4) (h4 : 4 ≤ st.hand.length) : leval [b0, b1, b2, b3] = st.says := by
  rw [List.take_of_length_le (by simpa using h4)] at h
  unfold CS.says
  rw [h]

theorem want_any (w : World) (p : Nat) (S : List Nat) (st : CS) (ok : Hid st.Ok) (h : Hid (Ct w p S st)) :
    Calls Try.prog 16 #[.pointer (some ⟨p, 0, none⟩)] w fun e w' => e = .returned (.int .i64 st.want) ∧ Kept [] w w' := by
  obtain ⟨b0, b1, b2, b3, v, c0, c1, c2, c3, c4, c5, c6, c7, c8, c9, fz, H1, H2, H3, H4⟩ := h.out.parts
  by_cases hd : st.dead = true
  · have e1 : st.want = 0 := by unfold CS.want; rw [if_pos hd]
    rw [e1]
    rw [hd] at c9
    clear e1 hd
    go_enter Try.func16, Try.ntmps16
    go_wp2_with fail
    go_ret
    exact ⟨rfl, Kept.refl _ _⟩
  have hd' : st.dead = false := by simpa using hd
  rw [hd'] at c9
  by_cases h4 : st.hand.length < 4
  · have e1 : st.want = 4 - st.hand.length := by unfold CS.want; rw [if_neg hd, if_pos h4]
    have e2 : min 4 st.hand.length = st.hand.length := by omega
    rw [e1]
    rw [e2] at c5
    obtain ⟨n, hn⟩ : ∃ n, n = st.hand.length := ⟨_, rfl⟩
    rw [← hn] at c5 h4 ⊢
    clear e1 e2 hd hd' hn H1 H2 H3 H4
    go_enter Try.func16, Try.ntmps16
    go_wp2_with fail
    go_ret
    exact ⟨ret_int (by omega), Kept.refl _ _⟩
  · have e1 : st.want = st.says - st.hand.length := by unfold CS.want; rw [if_neg hd, if_neg h4]
    have e2 : min 4 st.hand.length = 4 := by omega
    have e3 := says_eq H2.out (by omega)
    obtain ⟨a, c, rfl⟩ := own_slice H3.out
    have e4 : (st.hand.drop 4).length = st.hand.length - 4 := by simp
    obtain ⟨k1, k2, k3⟩ := ok.out.live hd' (by omega)
    have SAYS := fun n : Nat => says_any (w.drewN n) p b0 b1 b2 b3 c1 c2 c3 c4
    rw [e1]
    rw [e2] at c5
    rw [e4] at c6
    rw [e3] at SAYS
    obtain ⟨n, hn⟩ : ∃ n, n = st.hand.length := ⟨_, rfl⟩
    obtain ⟨s, hs⟩ : ∃ n, n = st.says := ⟨_, rfl⟩
    rw [← hn] at c6 h4 k3 ⊢
    rw [← hs] at SAYS k1 k2 k3 ⊢
    have SAYSh : Hid (∀ n : Nat, Calls Try.prog 28 #[.pointer (some ⟨p, 0, none⟩)] (w.drewN n) fun e w' => e = .returned (.int .u32 s) ∧ w' = w.drewN n) := fun n => (SAYS n).mono (fun e w' h => ⟨h.1, h.2.symm⟩)
    clear e1 e2 e3 e4 hd hd' hn hs H1 H2 H3 H4 SAYS
    go_enter Try.func16, Try.ntmps16
    go_wp2_with fail
    go_quiet ((go_at_call 28; exact Calls.quiet_of_same (SAYSh.out _)))
    go_wp2_with fail
    go_ret
    exact ⟨ret_int (by omega), (Kept.refl _ _).drewN _⟩

theorem whole_any (w : World) (p : Nat) (S : List Nat) (st : CS) (ok : Hid st.Ok) (h : Hid (Ct w p S st)) :
    Calls Try.prog 13 #[.pointer (some ⟨p, 0, none⟩)] w fun e w' => e = .returned (.bool st.whole) ∧ Kept [] w w' := by
  have WANT := want_any w p S st ok h
  obtain ⟨b0, b1, b2, b3, v, c0, c1, c2, c3, c4, c5, c6, c7, c8, c9, fz, H1, H2, H3, H4⟩ := h.out.parts
  by_cases hd : st.dead = true
  · have e1 : st.whole = false := by unfold CS.whole; rw [hd]; rfl
    rw [e1]
    rw [hd] at c9
    clear e1 hd WANT
    go_enter Try.func13, Try.ntmps13
    go_wp2_with fail
    go_ret
    exact ⟨rfl, Kept.refl _ _⟩
  · have hd' : st.dead = false := by simpa using hd
    have e1 : st.whole = decide (st.want = 0) := by unfold CS.whole; rw [hd']; simp
    rw [e1]
    rw [hd'] at c9
    obtain ⟨n, hn⟩ : ∃ n, n = st.want := ⟨_, rfl⟩
    rw [← hn] at WANT ⊢
    have WANTh := Lib.hid WANT
    clear e1 hd hd' hn WANT H1 H2 H3 H4
    by_cases h0 : n = 0
    · have j1 : ((n : Int) == 0) = true := by rw [h0]; rfl
      have e2 : decide (n = 0) = true := decide_eq_true h0
      rw [e2]
      clear h0 e2
      go_enter Try.func13, Try.ntmps13
      go_wp2_with fail
      refine WANTh.out.mono ?_
      rintro e w1 ⟨rfl, k1⟩
      go_wp2_with fail
      go_ret
      exact ⟨rfl, k1⟩
    · have j1 : ((n : Int) == 0) = false := by rw [beq_eq_false_iff_ne]; omega
      have e2 : decide (n = 0) = false := decide_eq_false h0
      rw [e2]
      clear h0 e2
      go_enter Try.func13, Try.ntmps13
      go_wp2_with fail
      refine WANTh.out.mono ?_
      rintro e w1 ⟨rfl, k1⟩
      go_wp2_with fail
      go_ret
      exact ⟨rfl, k1⟩

theorem taken_any (w : World) (p : Nat) (S : List Nat) (st : CS) (h : Hid (Ct w p S st)) :
    Calls Try.prog 17 #[.pointer (some ⟨p, 0, none⟩)] w fun e w' => e = .returned (.int .i64 st.taken) ∧ w = w' := by
  obtain ⟨b0, b1, b2, b3, v, c0, c1, c2, c3, c4, c5, c6, c7, c8, c9, fz, -⟩ := h.out.parts
  go_enter Try.func17, Try.ntmps17
  go_wp2_with fail
  go_ret
  exact ⟨rfl, rfl⟩

/-- The error of a cutter, and its place. -/
def CS.err (st : CS) : Nat := if st.dead = true then 40 else 0
def CS.place (st : CS) : Nat := if st.dead = true then st.fed - 4 else 0
/-- Limit. -/
def CS.limit (st : CS) (n : Nat) : CS := if limB n = true then { st with lim := n } else st
def CS.limited (n : Nat) : Nat := if limB n = true then 0 else 1
end Cut
end Go.Proofs.Ytgdaiajjnfnomaa
