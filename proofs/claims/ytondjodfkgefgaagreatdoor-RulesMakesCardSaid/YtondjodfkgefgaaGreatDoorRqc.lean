/- rules, the reference's: Create. -/
import Derived.Test.YtondjodfkgefgaaGreatDoorRpo
namespace Go.Proofs.YtondjodfkgefgaaGreatDoor
set_option linter.unusedVariables false
set_option linter.unusedSimpArgs false
open Go.RowKit Go.Shelf
attribute [local go_sem] Oper.semAt_some
namespace Ru
open Go.Proofs.YtondjodfkgefgaaGreatDoor.Utf Go.Proofs.YtondjodfkgefgaaGreatDoor.Txt Go.PlainAid Go.Proofs.YtondjodfkgefgaaGreatDoor.Mpf Go.Proofs.YtondjodfkgefgaaGreatDoor.Us

theorem modeIn_nat (pm mode kept : Nat) (h1 : pm < 4294967296) : pm &&& (4294966784 ||| kept ||| mode) = 512 * (pm / 512) + ((pm &&& (kept ||| mode)) % 512) := by
  refine Nat.eq_of_testBit_eq (fun i => ?_)
  have hB : (pm &&& (kept ||| mode)) % 512 < 2 ^ 9 := Nat.mod_lt _ (by decide)
  have e := Nat.testBit_two_pow_mul_add (pm / 512) hB i
  rw [show (2:Nat)^9 = 512 from rfl] at e
  rw [e, Nat.testBit_and, Nat.testBit_or, Nat.testBit_or]
  by_cases h : i < 9
  · rw [if_pos h, show (512:Nat) = 2^9 from rfl, Nat.testBit_mod_two_pow, Nat.testBit_and, Nat.testBit_or]
    have : ∀ j : Fin 9, Nat.testBit 4294966784 j.val = false := by decide
    have := this ⟨i, h⟩
    simp only at this
    rw [this]
    simp [h]
  · rw [if_neg h, show (512:Nat) = 2^9 from rfl, Nat.testBit_div_two_pow, show i - 9 + 9 = i by omega]
    by_cases h32 : i < 32
    · have : ∀ j : Fin 32, 9 ≤ j.val → Nat.testBit 4294966784 j.val = true := by decide
      have := this ⟨i, h32⟩ (by show 9 ≤ i; omega)
      simp only at this
      rw [this]; simp
    · have : pm.testBit i = false := Nat.testBit_lt_two_pow (Nat.lt_of_lt_of_le h1 (by rw [show (4294967296:Nat) = 2^32 from rfl]; exact Nat.pow_le_pow_right (by decide) (by omega)))
      rw [this]; simp
theorem mod_next (x i : Nat) : x % 2 ^ (i + 1) = x % 2 ^ i + (if x.testBit i = true then 2 ^ i else 0) := by
  rw [Nat.pow_succ, Nat.mod_mul, Nat.testBit_eq_decide_div_mod_eq]
  have h : x / 2 ^ i % 2 = 0 ∨ x / 2 ^ i % 2 = 1 := by omega
  rcases h with h | h <;> simp [h]
theorem and_bit (x i : Nat) : x &&& 2 ^ i = if x.testBit i = true then 2 ^ i else 0 := by
  refine Nat.eq_of_testBit_eq (fun j => ?_)
  rw [Nat.testBit_and, Nat.testBit_two_pow]
  by_cases h : i = j
  · subst h
    cases hx : x.testBit i <;> simp [hx]
  · have hh : ¬ i = j := h
    cases x.testBit i <;> simp [hh]

/-- What of a mode is left, in numbers. -/
def keptN (pm : Nat) : Nat := if pm &&& 2147483648 = 0 then 73 else 0
def xN (pm mode : Nat) : Nat := pm &&& (keptN pm ||| mode)
theorem modeInV_nat (pm mode : Nat) (h1 : pm < 4294967296) (h2 : mode < 4294967296) : modeInV (mode : Int) (pm : Int) = ((512 * (pm / 512) + xN pm mode % 512 : Nat) : Int) := by
  have e0 : bits .and .u32 (pm : Int) 2147483648 = ((pm &&& 2147483648 : Nat) : Int) := and_nat pm 2147483648 h1 (by decide)
  have e1 : (if bits .and .u32 (pm : Int) 2147483648 = 0 then (73 : Int) else 0) = ((keptN pm : Nat) : Int) := by
    rw [e0]
    unfold keptN
    by_cases h : pm &&& 2147483648 = 0
    · rw [if_pos h, if_pos (by omega)]; rfl
    · rw [if_neg h, if_neg (by omega)]; rfl
  have hk : keptN pm < 4294967296 := by unfold keptN; split <;> decide
  unfold modeInV
  rw [e1, show (4294966784 : Int) = ((4294966784 : Nat) : Int) from rfl, or_nat _ _ (by decide) hk]
  have h3 : 4294966784 ||| keptN pm < 4294967296 := Nat.or_lt_two_pow (n := 32) (by decide) hk
  rw [or_nat _ _ h3 h2, and_nat _ _ h1 (Nat.or_lt_two_pow (n := 32) h3 h2), modeIn_nat pm mode (keptN pm) h1]
  rfl
theorem x_bit (pm mode i : Nat) : (xN pm mode).testBit i = (pm.testBit i && ((keptN pm).testBit i || mode.testBit i)) := by
  unfold xN
  rw [Nat.testBit_and, Nat.testBit_or]
/-- How far the making has come. -/
structure Cr (pm mode i b r : Nat) : Prop where
  le : i ≤ 9
  b : b = 2 ^ i
  r : r = xN pm mode % 2 ^ i
theorem Cr.next {pm mode i b r : Nat} (h : Cr pm mode i b r) (hi : i < 9) : Cr pm mode (i + 1) (b * 2) (r + (if (pm.testBit i && ((keptN pm).testBit i || mode.testBit i)) = true then b else 0)) :=
  ⟨by omega, by rw [h.b, Nat.pow_succ], by rw [h.r, mod_next, x_bit, ← h.b]⟩
theorem Cr.few {pm mode i b r : Nat} (h : Cr pm mode i b r) : r < 512 ∧ b ≤ 512 ∧ 1 ≤ b := by
  have h1 : 2 ^ i ≤ 2 ^ 9 := Nat.pow_le_pow_right (by decide) h.le
  have h2 : 0 < 2 ^ i := Nat.pow_pos (by decide)
  have h3 := Nat.mod_lt (xN pm mode) h2
  have h4 := h.b
  have h5 := h.r
  rw [show (2 : Nat) ^ 9 = 512 from rfl] at h1
  omega
theorem nod_cells {w : World} {R : Nat} {x0 x1 x2 x3 x4 x5 x6 x7 x8 x9 x10 x11 x12 : Value} (h : w.heap[R]? = some (.cells #[x0, x1, x2, x3, x4, x5, x6, x7, x8, x9, x10, x11, x12] 25 (0, 0))) : w.cell? ⟨R, 0, none⟩ = some x0 ∧ w.cell? ⟨R, 1, none⟩ = some x1 ∧ w.cell? ⟨R, 2, none⟩ = some x2 ∧ w.cell? ⟨R, 3, none⟩ = some x3 ∧ w.cell? ⟨R, 4, none⟩ = some x4 ∧ w.cell? ⟨R, 5, none⟩ = some x5 ∧ w.cell? ⟨R, 6, none⟩ = some x6 ∧ w.cell? ⟨R, 7, none⟩ = some x7 ∧ w.cell? ⟨R, 8, none⟩ = some x8 ∧ w.cell? ⟨R, 9, none⟩ = some x9 ∧ w.cell? ⟨R, 10, none⟩ = some x10 ∧ w.cell? ⟨R, 11, none⟩ = some x11 ∧ w.cell? ⟨R, 12, none⟩ = some x12 := by
  refine ⟨?_, ?_, ?_, ?_, ?_, ?_, ?_, ?_, ?_, ?_, ?_, ?_, ?_⟩ <;> (rw [cell_of_row w R _ _ _ (0, 0) h]; rfl)
def nd00 : Nd := ⟨0, 0, ⟨#[]⟩, 0, ⟨#[]⟩, ⟨#[]⟩, ⟨#[]⟩, 0, 0, 0, 0, 0, 0⟩
set_option maxHeartbeats 16000000 in
set_option maxRecDepth 100000 in
theorem rCreate_no {w : World} {q : Nat} {T : List Acc} (h : Rt w q T) (gd : Gd T) (u : ByteArray) (n p : Nd) (tk fl : Bool) (name : ByteArray) (pm : Int) (mode : Nat) (hmo : mode < 256) (hn : n.mode < 4294967296) (hnm : name.size ≤ 140737488355328) (z : Int) (hzz : z = makeE T u n tk fl name pm mode) (hz : z ≠ 0) :
    Calls Tryz.prog 25 #[.pointer (some ⟨q, 0, none⟩), .string u, factsV n p tk fl, .string name, .int .u32 pm, .int .u8 mode] w fun e w' => e = .returned (.tuple #[.agg #[.int .u64 0, .int .u64 0, .string ⟨#[]⟩, .int .u32 0, .string ⟨#[]⟩, .string ⟨#[]⟩, .string ⟨#[]⟩, .int .u32 0, .int .u32 0, .int .u32 0, .int .u64 0, .int .i64 0, .int .i64 0], .int .i64 z]) ∧ Kept [] w w' := by
  obtain ⟨V, hV⟩ : ∃ V : Array Value, V = #[.int .u64 n.path, .int .u64 n.parent, .string n.name, .int .u32 n.mode, .string n.uid, .string n.gid, .string n.muid, .int .u32 n.atime, .int .u32 n.mtime, .int .u32 n.vers, .int .u64 n.length, .int .i64 n.opens, .int .i64 n.kids, .int .u64 p.path, .int .u64 p.parent, .string p.name, .int .u32 p.mode, .string p.uid, .string p.gid, .string p.muid, .int .u32 p.atime, .int .u32 p.mtime, .int .u32 p.vers, .int .u64 p.length, .int .i64 p.opens, .int .i64 p.kids, .bool tk, .bool fl] := ⟨_, rfl⟩
  have hF : factsV n p tk fl = .agg V := by rw [hV]; rfl
  have hs : V.size = 28 := by rw [hV]; rfl
  obtain ⟨w1, hw1⟩ : ∃ w1, w1 = (w.alloc (.cells V 28)).alloc (.cells #[.int .u64 0, .int .u64 0, .string ⟨#[]⟩, .int .u32 0, .string ⟨#[]⟩, .string ⟨#[]⟩, .string ⟨#[]⟩, .int .u32 0, .int .u32 0, .int .u32 0, .int .u64 0, .int .i64 0, .int .i64 0] 25) := ⟨_, rfl⟩
  obtain ⟨R12, hR12⟩ : ∃ R, R = w.heap.size + 1 := ⟨_, rfl⟩
  obtain ⟨R, hR⟩ : ∃ R, R = w.heap.size := ⟨_, rfl⟩
  have B12 : Hid (w1.heap[R12]? = some (.cells #[.int .u64 0, .int .u64 0, .string ⟨#[]⟩, .int .u32 0, .string ⟨#[]⟩, .string ⟨#[]⟩, .string ⟨#[]⟩, .int .u32 0, .int .u32 0, .int .u32 0, .int .u64 0, .int .i64 0, .int .i64 0] 25 (0, 0))) := by
    show _ = _
    rw [hw1, hR12]
    have := (MapKept.heap_alloc (w.alloc (.cells V 28)) (.cells #[.int .u64 0, .int .u64 0, .string ⟨#[]⟩, .int .u32 0, .string ⟨#[]⟩, .string ⟨#[]⟩, .string ⟨#[]⟩, .int .u32 0, .int .u32 0, .int .u32 0, .int .u64 0, .int .i64 0, .int .i64 0] 25)).1
    rwa [World.size_alloc] at this
  have b1 : w1.heap[R]? = some (.cells V 28 (0, 0)) := by
    rw [hw1, hR]
    exact (Below.heap_alloc _ _ _ (by simp)).trans (MapKept.heap_alloc w _).1
  have B1 := Lib.hid b1
  have K1 : Hid (Kept [] w w1) := by rw [hw1]; exact ((Kept.refl _ _).alloc _).alloc _
  have NR : Hid (w.heap.size ≤ R12) := by show _ ≤ _; omega
  have CF : Hid (∀ wr, Kept [] w1 wr → Bf wr R n p tk fl) := fun wr k => by
    have b := (k.block _ (block_lt b1) (by simp)).trans b1
    rw [hV] at b
    exact b
  have HS := Lib.hid hs
  have HW1 := Lib.hid hw1
  have HR := Lib.hid hR
  have HR12 := Lib.hid hR12
  have AS := Lib.hid (rasks_any (h.kept K1.out) gd u n p tk fl name pm mode hmo hn hnm)
  rw [hF] at AS ⊢
  rw [← hzz] at AS
  have hzb : (z == 0) = false := by simpa using hz
  clear hw1 hR hR12 h gd hn hnm hz hzz hV hF hs b1 hmo CF
  go_enter Tryz.func25, Tryz.ntmps25
  go_upto_region 1 with fail
  rw [← HW1.out, ← HR12.out, ← HR.out]
  go_wp2_with (first | (refine wpList_lfacts rfl (.tmp 8) rfl R V HS.out B1.out rfl ?_) | (go_at_call 44; refine AS.out.mono ?_; rintro e w2 ⟨rfl, k2⟩; have K2 : Hid (Kept [] w w2) := K1.out.trans k2 (fun i hi => by cases hi); have B122 := Lib.hid ((k2.block _ (block_lt B12.out) (by simp)).trans B12.out); clear k2) | (refine wpList_srow8 rfl (.tmp 12) (.tmp 27) rfl R12 rfl _ _ rfl B122.out rfl rfl (by simp [Value.oneCell']) ?_; intro w4 b4 k4; have K4 : Hid (Kept [] w w4) := K2.out.trans k4 (fun i hi => Or.inr (by have h1 := List.mem_singleton.1 hi; have h2 := NR.out; omega)); obtain ⟨g0, g1, g2, g3, g4, g5, g6, g7, g8, g9, g10, g11, g12⟩ := nd_cells (d := nd00) b4))
  refine bodyPost_ret (v := .tuple #[.agg #[.int .u64 0, .int .u64 0, .string ⟨#[]⟩, .int .u32 0, .string ⟨#[]⟩, .string ⟨#[]⟩, .string ⟨#[]⟩, .int .u32 0, .int .u32 0, .int .u32 0, .int .u64 0, .int .i64 0, .int .i64 0], .int .i64 z]) (by simp [results, Tryz.results25, go_sem, g0, g1, g2, g3, g4, g5, g6, g7, g8, g9, g10, g11, g12, nd00]) rfl ⟨rfl, K4.out⟩
set_option maxHeartbeats 32000000 in
set_option maxRecDepth 100000 in
theorem rCreate_ok {w : World} {q : Nat} {T : List Acc} (h : Rt w q T) (gd : Gd T) (u : ByteArray) (n p : Nd) (tk fl : Bool) (name : ByteArray) (pm mode : Nat) (hmo : mode < 256) (hpm : pm < 4294967296) (hn : n.mode < 4294967296) (hnm : name.size ≤ 140737488355328) (hz : makeE T u n tk fl name pm mode = 0) (md : Int) (hmd : md = modeInV n.mode pm) :
    Calls Tryz.prog 25 #[.pointer (some ⟨q, 0, none⟩), .string u, factsV n p tk fl, .string name, .int .u32 pm, .int .u8 mode] w fun e w' => e = .returned (.tuple #[.agg #[.int .u64 0, .int .u64 n.path, .string name, .int .u32 md, .string u, .string n.gid, .string u, .int .u32 0, .int .u32 0, .int .u32 0, .int .u64 0, .int .i64 0, .int .i64 0], .int .i64 0]) ∧ Kept [] w w' := by
  obtain ⟨V, hV⟩ : ∃ V : Array Value, V = #[.int .u64 n.path, .int .u64 n.parent, .string n.name, .int .u32 n.mode, .string n.uid, .string n.gid, .string n.muid, .int .u32 n.atime, .int .u32 n.mtime, .int .u32 n.vers, .int .u64 n.length, .int .i64 n.opens, .int .i64 n.kids, .int .u64 p.path, .int .u64 p.parent, .string p.name, .int .u32 p.mode, .string p.uid, .string p.gid, .string p.muid, .int .u32 p.atime, .int .u32 p.mtime, .int .u32 p.vers, .int .u64 p.length, .int .i64 p.opens, .int .i64 p.kids, .bool tk, .bool fl] := ⟨_, rfl⟩
  have hF : factsV n p tk fl = .agg V := by rw [hV]; rfl
  have hs : V.size = 28 := by rw [hV]; rfl
  obtain ⟨w1, hw1⟩ : ∃ w1, w1 = (w.alloc (.cells V 28)).alloc (.cells #[.int .u64 0, .int .u64 0, .string ⟨#[]⟩, .int .u32 0, .string ⟨#[]⟩, .string ⟨#[]⟩, .string ⟨#[]⟩, .int .u32 0, .int .u32 0, .int .u32 0, .int .u64 0, .int .i64 0, .int .i64 0] 25) := ⟨_, rfl⟩
  obtain ⟨R12, hR12⟩ : ∃ R, R = w.heap.size + 1 := ⟨_, rfl⟩
  obtain ⟨R, hR⟩ : ∃ R, R = w.heap.size := ⟨_, rfl⟩
  have B12 : Hid (w1.heap[R12]? = some (.cells #[.int .u64 0, .int .u64 0, .string ⟨#[]⟩, .int .u32 0, .string ⟨#[]⟩, .string ⟨#[]⟩, .string ⟨#[]⟩, .int .u32 0, .int .u32 0, .int .u32 0, .int .u64 0, .int .i64 0, .int .i64 0] 25 (0, 0))) := by
    show _ = _
    rw [hw1, hR12]
    have := (MapKept.heap_alloc (w.alloc (.cells V 28)) (.cells #[.int .u64 0, .int .u64 0, .string ⟨#[]⟩, .int .u32 0, .string ⟨#[]⟩, .string ⟨#[]⟩, .string ⟨#[]⟩, .int .u32 0, .int .u32 0, .int .u32 0, .int .u64 0, .int .i64 0, .int .i64 0] 25)).1
    rwa [World.size_alloc] at this
  have b1 : w1.heap[R]? = some (.cells V 28 (0, 0)) := by
    rw [hw1, hR]
    exact (Below.heap_alloc _ _ _ (by simp)).trans (MapKept.heap_alloc w _).1
  have B1 := Lib.hid b1
  have K1 : Hid (Kept [] w w1) := by rw [hw1]; exact ((Kept.refl _ _).alloc _).alloc _
  have NR : Hid (w.heap.size ≤ R12) := by show _ ≤ _; omega
  have CF : Hid (∀ wr, Kept [] w1 wr → Bf wr R n p tk fl) := fun wr k => by
    have b := (k.block _ (block_lt b1) (by simp)).trans b1
    rw [hV] at b
    exact b
  have HS := Lib.hid hs
  have HW1 := Lib.hid hw1
  have HR := Lib.hid hR
  have HR12 := Lib.hid hR12
  have AS := Lib.hid (rasks_any (h.kept K1.out) gd u n p tk fl name pm mode hmo hn hnm)
  rw [hF] at AS ⊢
  rw [hz] at AS
  obtain ⟨d0, hd0⟩ : ∃ d, d = decide (pm &&& 2147483648 = 0) := ⟨_, rfl⟩
  have e0 : bits .and .u32 (pm : Int) 2147483648 = ((pm &&& 2147483648 : Nat) : Int) := and_nat pm 2147483648 hpm (by decide)
  have HD1 : Hid (d0 = true → bits .and .u32 (pm : Int) 2147483648 = 0) := fun hd => by
    rw [hd0] at hd
    rw [e0, of_decide_eq_true hd]; rfl
  have HD0 : Hid (d0 = false → (bits .and .u32 (pm : Int) 2147483648 == 0) = false) := fun hd => by
    rw [hd0] at hd
    have := of_decide_eq_false hd
    rw [e0, beq_eq_false_iff_ne]
    omega
  have TK : Hid (∀ i : Nat, i < 9 → (keptN pm).testBit i = (decide (i = 0 ∨ i = 3 ∨ i = 6) && d0)) := fun i hi => by
    have a : ∀ j : Fin 9, Nat.testBit 73 j.val = decide (j.val = 0 ∨ j.val = 3 ∨ j.val = 6) := by decide
    have a1 := a ⟨i, hi⟩
    simp only at a1
    unfold keptN
    rw [hd0]
    by_cases hx : pm &&& 2147483648 = 0
    · rw [if_pos hx, decide_eq_true hx, Bool.and_true]; exact a1
    · rw [if_neg hx, decide_eq_false hx]; simp
  have TPX : ∀ (x : Nat), x < 4294967296 → ∀ i : Nat, i < 9 → bits .and .u32 (x : Int) ((2 ^ i : Nat) : Int) = if x.testBit i = true then ((2 ^ i : Nat) : Int) else 0 := fun x hx i hi => by
    rw [and_nat x (2 ^ i) hx (Nat.lt_of_le_of_lt (Nat.pow_le_pow_right (by decide) (show i ≤ 9 by omega)) (by decide)), and_bit]
    cases x.testBit i <;> simp
  have TP := Lib.hid (TPX pm hpm)
  have TM := Lib.hid (TPX n.mode hn)
  have MD : Hid (md = ((512 * (pm / 512) + xN pm n.mode % 512 : Nat) : Int)) := by show _ = _; rw [hmd]; exact modeInV_nat pm n.mode hpm hn
  have PM : bits .and .u32 (pm : Int) 511 = ((pm % 512 : Nat) : Int) := by
    rw [show (511 : Int) = ((511 : Nat) : Int) from rfl, and_nat pm 511 hpm (by decide)]
    congr 1
    exact Nat.and_two_pow_sub_one_eq_mod pm 9
  have PMH := Lib.hid PM
  have HPM : Hid (pm < 4294967296) := hpm
  clear hw1 hR hR12 h gd hn hnm hz hV hF hs b1 hmd hmo e0 hd0 TPX PM
  go_enter Tryz.func25, Tryz.ntmps25
  go_upto_region 1 with fail
  rw [← HW1.out, ← HR12.out, ← HR.out]
  go_upto_region 4 with (first | (refine wpList_lfacts rfl (.tmp 8) rfl R V HS.out B1.out rfl ?_) | (go_at_call 44; refine AS.out.mono ?_; rintro e w2 ⟨rfl, k2⟩; have K2 : Hid (Kept [] w w2) := K1.out.trans k2 (fun i hi => by cases hi); have B122 := Lib.hid ((k2.block _ (block_lt B12.out) (by simp)).trans B12.out); have F2 := Lib.hid (CF.out _ k2); clear k2))
  obtain ⟨f0, f1, f2, f3, f4, f5, f6, f7, f8, f9, f10, f11, f12, -⟩ := F2.out.cells
  clear f1 f2 f4 f6 f7 f8 f9 f10 f11 f12
  go_wp2_with fail
  go_loopw [15, 16] (fun rv bv wr => ∃ (i b r : Nat), rv = .int .u32 r ∧ bv = .int .u32 b ∧ r < 512 ∧ b ≤ 512 ∧ wr = w2 ∧ Hid (Cr pm n.mode i b r)) (fun _ bv _ => 1024 - (intOf bv).toNat)
  case atStart => exact ⟨0, 1, 0, rfl, rfl, by decide, by decide, rfl, ⟨by decide, rfl, by rw [Nat.pow_zero, Nat.mod_one]⟩⟩
  case round =>
    obtain ⟨i, b, r, rfl, rfl, hr, hb, rfl, hC⟩ := hrel
    by_cases hi : i < 9
    · clear hb
      rcases (by omega : i = 0 ∨ i = 1 ∨ i = 2 ∨ i = 3 ∨ i = 4 ∨ i = 5 ∨ i = 6 ∨ i = 7 ∨ i = 8) with rfl | rfl | rfl | rfl | rfl | rfl | rfl | rfl | rfl
      · obtain rfl : b = 1 := hC.out.b
        have tp : bits .and .u32 (pm : Int) 1 = if pm.testBit 0 = true then 1 else 0 := TP.out 0 (by decide)
        have tm : bits .and .u32 (n.mode : Int) 1 = if n.mode.testBit 0 = true then 1 else 0 := TM.out 0 (by decide)
        have tk : (keptN pm).testBit 0 = (true && d0) := TK.out 0 (by decide)
        have NX := hC.out.next (by decide)
        rw [tk] at NX
        clear tk
        cases hp : pm.testBit 0 with
        | false =>
          rw [hp] at tp NX
          simp only [Bool.false_eq_true, if_false] at tp
          clear tm hp
          simp only [Bool.true_and, Bool.false_and, Bool.and_true, Bool.and_false, Bool.or_false, Bool.or_true, Bool.false_or, Bool.true_or, if_true, if_false, Bool.false_eq_true, Nat.add_zero] at NX
          have NXH := Lib.hid NX
          clear NX
          go_wp2_with fail
          go_roundw
          case rel => exact ⟨1, 2, r, rfl, rfl, by have := NXH.out.few; omega, by decide, trivial, NXH.out⟩
          case measure => decide
        | true =>
          rw [hp] at tp NX
          simp only [if_true] at tp
          cases hq : n.mode.testBit 0 with
          | true =>
            rw [hq] at tm NX
            simp only [if_true] at tm
            clear hp hq
            simp only [Bool.true_and, Bool.false_and, Bool.and_true, Bool.and_false, Bool.or_false, Bool.or_true, Bool.false_or, Bool.true_or, if_true, if_false, Bool.false_eq_true, Nat.add_zero] at NX
            have NXH := Lib.hid NX
            clear NX
            go_wp2_with fail
            go_roundw
            case rel => exact ⟨1, 2, r + 1, by go_num, rfl, by have := NXH.out.few; omega, by decide, trivial, NXH.out⟩
            case measure => decide
          | false =>
            rw [hq] at tm NX
            simp only [Bool.false_eq_true, if_false] at tm
            clear hp hq
            cases d0 with
            | true =>
              have hd1 := HD1.out rfl
              simp only [Bool.true_and, Bool.false_and, Bool.and_true, Bool.and_false, Bool.or_false, Bool.or_true, Bool.false_or, Bool.true_or, if_true, if_false, Bool.false_eq_true, Nat.add_zero] at NX
              have NXH := Lib.hid NX
              clear NX
              go_wp2_with fail
              go_roundw
              case rel => exact ⟨1, 2, r + 1, by go_num, rfl, by have := NXH.out.few; omega, by decide, trivial, NXH.out⟩
              case measure => decide
            | false =>
              have hd1 := HD0.out rfl
              simp only [Bool.true_and, Bool.false_and, Bool.and_true, Bool.and_false, Bool.or_false, Bool.or_true, Bool.false_or, Bool.true_or, if_true, if_false, Bool.false_eq_true, Nat.add_zero] at NX
              have NXH := Lib.hid NX
              clear NX
              go_wp2_with fail
              go_roundw
              case rel => exact ⟨1, 2, r, rfl, rfl, by have := NXH.out.few; omega, by decide, trivial, NXH.out⟩
              case measure => decide
      · obtain rfl : b = 2 := hC.out.b
        have tp : bits .and .u32 (pm : Int) 2 = if pm.testBit 1 = true then 2 else 0 := TP.out 1 (by decide)
        have tm : bits .and .u32 (n.mode : Int) 2 = if n.mode.testBit 1 = true then 2 else 0 := TM.out 1 (by decide)
        have tk : (keptN pm).testBit 1 = (false && d0) := TK.out 1 (by decide)
        have NX := hC.out.next (by decide)
        rw [tk] at NX
        clear tk
        cases hp : pm.testBit 1 with
        | false =>
          rw [hp] at tp NX
          simp only [Bool.false_eq_true, if_false] at tp
          clear tm hp
          simp only [Bool.true_and, Bool.false_and, Bool.and_true, Bool.and_false, Bool.or_false, Bool.or_true, Bool.false_or, Bool.true_or, if_true, if_false, Bool.false_eq_true, Nat.add_zero] at NX
          have NXH := Lib.hid NX
          clear NX
          go_wp2_with fail
          go_roundw
          case rel => exact ⟨2, 4, r, rfl, rfl, by have := NXH.out.few; omega, by decide, trivial, NXH.out⟩
          case measure => decide
        | true =>
          rw [hp] at tp NX
          simp only [if_true] at tp
          cases hq : n.mode.testBit 1 with
          | true =>
            rw [hq] at tm NX
            simp only [if_true] at tm
            clear hp hq
            simp only [Bool.true_and, Bool.false_and, Bool.and_true, Bool.and_false, Bool.or_false, Bool.or_true, Bool.false_or, Bool.true_or, if_true, if_false, Bool.false_eq_true, Nat.add_zero] at NX
            have NXH := Lib.hid NX
            clear NX
            go_wp2_with fail
            go_roundw
            case rel => exact ⟨2, 4, r + 2, by go_num, rfl, by have := NXH.out.few; omega, by decide, trivial, NXH.out⟩
            case measure => decide
          | false =>
            rw [hq] at tm NX
            simp only [Bool.false_eq_true, if_false] at tm
            clear hp hq
            cases d0 with
            | true =>
              have hd1 := HD1.out rfl
              simp only [Bool.true_and, Bool.false_and, Bool.and_true, Bool.and_false, Bool.or_false, Bool.or_true, Bool.false_or, Bool.true_or, if_true, if_false, Bool.false_eq_true, Nat.add_zero] at NX
              have NXH := Lib.hid NX
              clear NX
              go_wp2_with fail
              go_roundw
              case rel => exact ⟨2, 4, r, rfl, rfl, by have := NXH.out.few; omega, by decide, trivial, NXH.out⟩
              case measure => decide
            | false =>
              have hd1 := HD0.out rfl
              simp only [Bool.true_and, Bool.false_and, Bool.and_true, Bool.and_false, Bool.or_false, Bool.or_true, Bool.false_or, Bool.true_or, if_true, if_false, Bool.false_eq_true, Nat.add_zero] at NX
              have NXH := Lib.hid NX
              clear NX
              go_wp2_with fail
              go_roundw
              case rel => exact ⟨2, 4, r, rfl, rfl, by have := NXH.out.few; omega, by decide, trivial, NXH.out⟩
              case measure => decide
      · obtain rfl : b = 4 := hC.out.b
        have tp : bits .and .u32 (pm : Int) 4 = if pm.testBit 2 = true then 4 else 0 := TP.out 2 (by decide)
        have tm : bits .and .u32 (n.mode : Int) 4 = if n.mode.testBit 2 = true then 4 else 0 := TM.out 2 (by decide)
        have tk : (keptN pm).testBit 2 = (false && d0) := TK.out 2 (by decide)
        have NX := hC.out.next (by decide)
        rw [tk] at NX
        clear tk
        cases hp : pm.testBit 2 with
        | false =>
          rw [hp] at tp NX
          simp only [Bool.false_eq_true, if_false] at tp
          clear tm hp
          simp only [Bool.true_and, Bool.false_and, Bool.and_true, Bool.and_false, Bool.or_false, Bool.or_true, Bool.false_or, Bool.true_or, if_true, if_false, Bool.false_eq_true, Nat.add_zero] at NX
          have NXH := Lib.hid NX
          clear NX
          go_wp2_with fail
          go_roundw
          case rel => exact ⟨3, 8, r, rfl, rfl, by have := NXH.out.few; omega, by decide, trivial, NXH.out⟩
          case measure => decide
        | true =>
          rw [hp] at tp NX
          simp only [if_true] at tp
          cases hq : n.mode.testBit 2 with
          | true =>
            rw [hq] at tm NX
            simp only [if_true] at tm
            clear hp hq
            simp only [Bool.true_and, Bool.false_and, Bool.and_true, Bool.and_false, Bool.or_false, Bool.or_true, Bool.false_or, Bool.true_or, if_true, if_false, Bool.false_eq_true, Nat.add_zero] at NX
            have NXH := Lib.hid NX
            clear NX
            go_wp2_with fail
            go_roundw
            case rel => exact ⟨3, 8, r + 4, by go_num, rfl, by have := NXH.out.few; omega, by decide, trivial, NXH.out⟩
            case measure => decide
          | false =>
            rw [hq] at tm NX
            simp only [Bool.false_eq_true, if_false] at tm
            clear hp hq
            cases d0 with
            | true =>
              have hd1 := HD1.out rfl
              simp only [Bool.true_and, Bool.false_and, Bool.and_true, Bool.and_false, Bool.or_false, Bool.or_true, Bool.false_or, Bool.true_or, if_true, if_false, Bool.false_eq_true, Nat.add_zero] at NX
              have NXH := Lib.hid NX
              clear NX
              go_wp2_with fail
              go_roundw
              case rel => exact ⟨3, 8, r, rfl, rfl, by have := NXH.out.few; omega, by decide, trivial, NXH.out⟩
              case measure => decide
            | false =>
              have hd1 := HD0.out rfl
              simp only [Bool.true_and, Bool.false_and, Bool.and_true, Bool.and_false, Bool.or_false, Bool.or_true, Bool.false_or, Bool.true_or, if_true, if_false, Bool.false_eq_true, Nat.add_zero] at NX
              have NXH := Lib.hid NX
              clear NX
              go_wp2_with fail
              go_roundw
              case rel => exact ⟨3, 8, r, rfl, rfl, by have := NXH.out.few; omega, by decide, trivial, NXH.out⟩
              case measure => decide
      · obtain rfl : b = 8 := hC.out.b
        have tp : bits .and .u32 (pm : Int) 8 = if pm.testBit 3 = true then 8 else 0 := TP.out 3 (by decide)
        have tm : bits .and .u32 (n.mode : Int) 8 = if n.mode.testBit 3 = true then 8 else 0 := TM.out 3 (by decide)
        have tk : (keptN pm).testBit 3 = (true && d0) := TK.out 3 (by decide)
        have NX := hC.out.next (by decide)
        rw [tk] at NX
        clear tk
        cases hp : pm.testBit 3 with
        | false =>
          rw [hp] at tp NX
          simp only [Bool.false_eq_true, if_false] at tp
          clear tm hp
          simp only [Bool.true_and, Bool.false_and, Bool.and_true, Bool.and_false, Bool.or_false, Bool.or_true, Bool.false_or, Bool.true_or, if_true, if_false, Bool.false_eq_true, Nat.add_zero] at NX
          have NXH := Lib.hid NX
          clear NX
          go_wp2_with fail
          go_roundw
          case rel => exact ⟨4, 16, r, rfl, rfl, by have := NXH.out.few; omega, by decide, trivial, NXH.out⟩
          case measure => decide
        | true =>
          rw [hp] at tp NX
          simp only [if_true] at tp
          cases hq : n.mode.testBit 3 with
          | true =>
            rw [hq] at tm NX
            simp only [if_true] at tm
            clear hp hq
            simp only [Bool.true_and, Bool.false_and, Bool.and_true, Bool.and_false, Bool.or_false, Bool.or_true, Bool.false_or, Bool.true_or, if_true, if_false, Bool.false_eq_true, Nat.add_zero] at NX
            have NXH := Lib.hid NX
            clear NX
            go_wp2_with fail
            go_roundw
            case rel => exact ⟨4, 16, r + 8, by go_num, rfl, by have := NXH.out.few; omega, by decide, trivial, NXH.out⟩
            case measure => decide
          | false =>
            rw [hq] at tm NX
            simp only [Bool.false_eq_true, if_false] at tm
            clear hp hq
            cases d0 with
            | true =>
              have hd1 := HD1.out rfl
              simp only [Bool.true_and, Bool.false_and, Bool.and_true, Bool.and_false, Bool.or_false, Bool.or_true, Bool.false_or, Bool.true_or, if_true, if_false, Bool.false_eq_true, Nat.add_zero] at NX
              have NXH := Lib.hid NX
              clear NX
              go_wp2_with fail
              go_roundw
              case rel => exact ⟨4, 16, r + 8, by go_num, rfl, by have := NXH.out.few; omega, by decide, trivial, NXH.out⟩
              case measure => decide
            | false =>
              have hd1 := HD0.out rfl
              simp only [Bool.true_and, Bool.false_and, Bool.and_true, Bool.and_false, Bool.or_false, Bool.or_true, Bool.false_or, Bool.true_or, if_true, if_false, Bool.false_eq_true, Nat.add_zero] at NX
              have NXH := Lib.hid NX
              clear NX
              go_wp2_with fail
              go_roundw
              case rel => exact ⟨4, 16, r, rfl, rfl, by have := NXH.out.few; omega, by decide, trivial, NXH.out⟩
              case measure => decide
      · obtain rfl : b = 16 := hC.out.b
        have tp : bits .and .u32 (pm : Int) 16 = if pm.testBit 4 = true then 16 else 0 := TP.out 4 (by decide)
        have tm : bits .and .u32 (n.mode : Int) 16 = if n.mode.testBit 4 = true then 16 else 0 := TM.out 4 (by decide)
        have tk : (keptN pm).testBit 4 = (false && d0) := TK.out 4 (by decide)
        have NX := hC.out.next (by decide)
        rw [tk] at NX
        clear tk
        cases hp : pm.testBit 4 with
        | false =>
          rw [hp] at tp NX
          simp only [Bool.false_eq_true, if_false] at tp
          clear tm hp
          simp only [Bool.true_and, Bool.false_and, Bool.and_true, Bool.and_false, Bool.or_false, Bool.or_true, Bool.false_or, Bool.true_or, if_true, if_false, Bool.false_eq_true, Nat.add_zero] at NX
          have NXH := Lib.hid NX
          clear NX
          go_wp2_with fail
          go_roundw
          case rel => exact ⟨5, 32, r, rfl, rfl, by have := NXH.out.few; omega, by decide, trivial, NXH.out⟩
          case measure => decide
        | true =>
          rw [hp] at tp NX
          simp only [if_true] at tp
          cases hq : n.mode.testBit 4 with
          | true =>
            rw [hq] at tm NX
            simp only [if_true] at tm
            clear hp hq
            simp only [Bool.true_and, Bool.false_and, Bool.and_true, Bool.and_false, Bool.or_false, Bool.or_true, Bool.false_or, Bool.true_or, if_true, if_false, Bool.false_eq_true, Nat.add_zero] at NX
            have NXH := Lib.hid NX
            clear NX
            go_wp2_with fail
            go_roundw
            case rel => exact ⟨5, 32, r + 16, by go_num, rfl, by have := NXH.out.few; omega, by decide, trivial, NXH.out⟩
            case measure => decide
          | false =>
            rw [hq] at tm NX
            simp only [Bool.false_eq_true, if_false] at tm
            clear hp hq
            cases d0 with
            | true =>
              have hd1 := HD1.out rfl
              simp only [Bool.true_and, Bool.false_and, Bool.and_true, Bool.and_false, Bool.or_false, Bool.or_true, Bool.false_or, Bool.true_or, if_true, if_false, Bool.false_eq_true, Nat.add_zero] at NX
              have NXH := Lib.hid NX
              clear NX
              go_wp2_with fail
              go_roundw
              case rel => exact ⟨5, 32, r, rfl, rfl, by have := NXH.out.few; omega, by decide, trivial, NXH.out⟩
              case measure => decide
            | false =>
              have hd1 := HD0.out rfl
              simp only [Bool.true_and, Bool.false_and, Bool.and_true, Bool.and_false, Bool.or_false, Bool.or_true, Bool.false_or, Bool.true_or, if_true, if_false, Bool.false_eq_true, Nat.add_zero] at NX
              have NXH := Lib.hid NX
              clear NX
              go_wp2_with fail
              go_roundw
              case rel => exact ⟨5, 32, r, rfl, rfl, by have := NXH.out.few; omega, by decide, trivial, NXH.out⟩
              case measure => decide
      · obtain rfl : b = 32 := hC.out.b
        have tp : bits .and .u32 (pm : Int) 32 = if pm.testBit 5 = true then 32 else 0 := TP.out 5 (by decide)
        have tm : bits .and .u32 (n.mode : Int) 32 = if n.mode.testBit 5 = true then 32 else 0 := TM.out 5 (by decide)
        have tk : (keptN pm).testBit 5 = (false && d0) := TK.out 5 (by decide)
        have NX := hC.out.next (by decide)
        rw [tk] at NX
        clear tk
        cases hp : pm.testBit 5 with
        | false =>
          rw [hp] at tp NX
          simp only [Bool.false_eq_true, if_false] at tp
          clear tm hp
          simp only [Bool.true_and, Bool.false_and, Bool.and_true, Bool.and_false, Bool.or_false, Bool.or_true, Bool.false_or, Bool.true_or, if_true, if_false, Bool.false_eq_true, Nat.add_zero] at NX
          have NXH := Lib.hid NX
          clear NX
          go_wp2_with fail
          go_roundw
          case rel => exact ⟨6, 64, r, rfl, rfl, by have := NXH.out.few; omega, by decide, trivial, NXH.out⟩
          case measure => decide
        | true =>
          rw [hp] at tp NX
          simp only [if_true] at tp
          cases hq : n.mode.testBit 5 with
          | true =>
            rw [hq] at tm NX
            simp only [if_true] at tm
            clear hp hq
            simp only [Bool.true_and, Bool.false_and, Bool.and_true, Bool.and_false, Bool.or_false, Bool.or_true, Bool.false_or, Bool.true_or, if_true, if_false, Bool.false_eq_true, Nat.add_zero] at NX
            have NXH := Lib.hid NX
            clear NX
            go_wp2_with fail
            go_roundw
            case rel => exact ⟨6, 64, r + 32, by go_num, rfl, by have := NXH.out.few; omega, by decide, trivial, NXH.out⟩
            case measure => decide
          | false =>
            rw [hq] at tm NX
            simp only [Bool.false_eq_true, if_false] at tm
            clear hp hq
            cases d0 with
            | true =>
              have hd1 := HD1.out rfl
              simp only [Bool.true_and, Bool.false_and, Bool.and_true, Bool.and_false, Bool.or_false, Bool.or_true, Bool.false_or, Bool.true_or, if_true, if_false, Bool.false_eq_true, Nat.add_zero] at NX
              have NXH := Lib.hid NX
              clear NX
              go_wp2_with fail
              go_roundw
              case rel => exact ⟨6, 64, r, rfl, rfl, by have := NXH.out.few; omega, by decide, trivial, NXH.out⟩
              case measure => decide
            | false =>
              have hd1 := HD0.out rfl
              simp only [Bool.true_and, Bool.false_and, Bool.and_true, Bool.and_false, Bool.or_false, Bool.or_true, Bool.false_or, Bool.true_or, if_true, if_false, Bool.false_eq_true, Nat.add_zero] at NX
              have NXH := Lib.hid NX
              clear NX
              go_wp2_with fail
              go_roundw
              case rel => exact ⟨6, 64, r, rfl, rfl, by have := NXH.out.few; omega, by decide, trivial, NXH.out⟩
              case measure => decide
      · obtain rfl : b = 64 := hC.out.b
        have tp : bits .and .u32 (pm : Int) 64 = if pm.testBit 6 = true then 64 else 0 := TP.out 6 (by decide)
        have tm : bits .and .u32 (n.mode : Int) 64 = if n.mode.testBit 6 = true then 64 else 0 := TM.out 6 (by decide)
        have tk : (keptN pm).testBit 6 = (true && d0) := TK.out 6 (by decide)
        have NX := hC.out.next (by decide)
        rw [tk] at NX
        clear tk
        cases hp : pm.testBit 6 with
        | false =>
          rw [hp] at tp NX
          simp only [Bool.false_eq_true, if_false] at tp
          clear tm hp
          simp only [Bool.true_and, Bool.false_and, Bool.and_true, Bool.and_false, Bool.or_false, Bool.or_true, Bool.false_or, Bool.true_or, if_true, if_false, Bool.false_eq_true, Nat.add_zero] at NX
          have NXH := Lib.hid NX
          clear NX
          go_wp2_with fail
          go_roundw
          case rel => exact ⟨7, 128, r, rfl, rfl, by have := NXH.out.few; omega, by decide, trivial, NXH.out⟩
          case measure => decide
        | true =>
          rw [hp] at tp NX
          simp only [if_true] at tp
          cases hq : n.mode.testBit 6 with
          | true =>
            rw [hq] at tm NX
            simp only [if_true] at tm
            clear hp hq
            simp only [Bool.true_and, Bool.false_and, Bool.and_true, Bool.and_false, Bool.or_false, Bool.or_true, Bool.false_or, Bool.true_or, if_true, if_false, Bool.false_eq_true, Nat.add_zero] at NX
            have NXH := Lib.hid NX
            clear NX
            go_wp2_with fail
            go_roundw
            case rel => exact ⟨7, 128, r + 64, by go_num, rfl, by have := NXH.out.few; omega, by decide, trivial, NXH.out⟩
            case measure => decide
          | false =>
            rw [hq] at tm NX
            simp only [Bool.false_eq_true, if_false] at tm
            clear hp hq
            cases d0 with
            | true =>
              have hd1 := HD1.out rfl
              simp only [Bool.true_and, Bool.false_and, Bool.and_true, Bool.and_false, Bool.or_false, Bool.or_true, Bool.false_or, Bool.true_or, if_true, if_false, Bool.false_eq_true, Nat.add_zero] at NX
              have NXH := Lib.hid NX
              clear NX
              go_wp2_with fail
              go_roundw
              case rel => exact ⟨7, 128, r + 64, by go_num, rfl, by have := NXH.out.few; omega, by decide, trivial, NXH.out⟩
              case measure => decide
            | false =>
              have hd1 := HD0.out rfl
              simp only [Bool.true_and, Bool.false_and, Bool.and_true, Bool.and_false, Bool.or_false, Bool.or_true, Bool.false_or, Bool.true_or, if_true, if_false, Bool.false_eq_true, Nat.add_zero] at NX
              have NXH := Lib.hid NX
              clear NX
              go_wp2_with fail
              go_roundw
              case rel => exact ⟨7, 128, r, rfl, rfl, by have := NXH.out.few; omega, by decide, trivial, NXH.out⟩
              case measure => decide
      · obtain rfl : b = 128 := hC.out.b
        have tp : bits .and .u32 (pm : Int) 128 = if pm.testBit 7 = true then 128 else 0 := TP.out 7 (by decide)
        have tm : bits .and .u32 (n.mode : Int) 128 = if n.mode.testBit 7 = true then 128 else 0 := TM.out 7 (by decide)
        have tk : (keptN pm).testBit 7 = (false && d0) := TK.out 7 (by decide)
        have NX := hC.out.next (by decide)
        rw [tk] at NX
        clear tk
        cases hp : pm.testBit 7 with
        | false =>
          rw [hp] at tp NX
          simp only [Bool.false_eq_true, if_false] at tp
          clear tm hp
          simp only [Bool.true_and, Bool.false_and, Bool.and_true, Bool.and_false, Bool.or_false, Bool.or_true, Bool.false_or, Bool.true_or, if_true, if_false, Bool.false_eq_true, Nat.add_zero] at NX
          have NXH := Lib.hid NX
          clear NX
          go_wp2_with fail
          go_roundw
          case rel => exact ⟨8, 256, r, rfl, rfl, by have := NXH.out.few; omega, by decide, trivial, NXH.out⟩
          case measure => decide
        | true =>
          rw [hp] at tp NX
          simp only [if_true] at tp
          cases hq : n.mode.testBit 7 with
          | true =>
            rw [hq] at tm NX
            simp only [if_true] at tm
            clear hp hq
            simp only [Bool.true_and, Bool.false_and, Bool.and_true, Bool.and_false, Bool.or_false, Bool.or_true, Bool.false_or, Bool.true_or, if_true, if_false, Bool.false_eq_true, Nat.add_zero] at NX
            have NXH := Lib.hid NX
            clear NX
            go_wp2_with fail
            go_roundw
            case rel => exact ⟨8, 256, r + 128, by go_num, rfl, by have := NXH.out.few; omega, by decide, trivial, NXH.out⟩
            case measure => decide
          | false =>
            rw [hq] at tm NX
            simp only [Bool.false_eq_true, if_false] at tm
            clear hp hq
            cases d0 with
            | true =>
              have hd1 := HD1.out rfl
              simp only [Bool.true_and, Bool.false_and, Bool.and_true, Bool.and_false, Bool.or_false, Bool.or_true, Bool.false_or, Bool.true_or, if_true, if_false, Bool.false_eq_true, Nat.add_zero] at NX
              have NXH := Lib.hid NX
              clear NX
              go_wp2_with fail
              go_roundw
              case rel => exact ⟨8, 256, r, rfl, rfl, by have := NXH.out.few; omega, by decide, trivial, NXH.out⟩
              case measure => decide
            | false =>
              have hd1 := HD0.out rfl
              simp only [Bool.true_and, Bool.false_and, Bool.and_true, Bool.and_false, Bool.or_false, Bool.or_true, Bool.false_or, Bool.true_or, if_true, if_false, Bool.false_eq_true, Nat.add_zero] at NX
              have NXH := Lib.hid NX
              clear NX
              go_wp2_with fail
              go_roundw
              case rel => exact ⟨8, 256, r, rfl, rfl, by have := NXH.out.few; omega, by decide, trivial, NXH.out⟩
              case measure => decide
      · obtain rfl : b = 256 := hC.out.b
        have tp : bits .and .u32 (pm : Int) 256 = if pm.testBit 8 = true then 256 else 0 := TP.out 8 (by decide)
        have tm : bits .and .u32 (n.mode : Int) 256 = if n.mode.testBit 8 = true then 256 else 0 := TM.out 8 (by decide)
        have tk : (keptN pm).testBit 8 = (false && d0) := TK.out 8 (by decide)
        have NX := hC.out.next (by decide)
        rw [tk] at NX
        clear tk
        cases hp : pm.testBit 8 with
        | false =>
          rw [hp] at tp NX
          simp only [Bool.false_eq_true, if_false] at tp
          clear tm hp
          simp only [Bool.true_and, Bool.false_and, Bool.and_true, Bool.and_false, Bool.or_false, Bool.or_true, Bool.false_or, Bool.true_or, if_true, if_false, Bool.false_eq_true, Nat.add_zero] at NX
          have NXH := Lib.hid NX
          clear NX
          go_wp2_with fail
          go_roundw
          case rel => exact ⟨9, 512, r, rfl, rfl, by have := NXH.out.few; omega, by decide, trivial, NXH.out⟩
          case measure => decide
        | true =>
          rw [hp] at tp NX
          simp only [if_true] at tp
          cases hq : n.mode.testBit 8 with
          | true =>
            rw [hq] at tm NX
            simp only [if_true] at tm
            clear hp hq
            simp only [Bool.true_and, Bool.false_and, Bool.and_true, Bool.and_false, Bool.or_false, Bool.or_true, Bool.false_or, Bool.true_or, if_true, if_false, Bool.false_eq_true, Nat.add_zero] at NX
            have NXH := Lib.hid NX
            clear NX
            go_wp2_with fail
            go_roundw
            case rel => exact ⟨9, 512, r + 256, by go_num, rfl, by have := NXH.out.few; omega, by decide, trivial, NXH.out⟩
            case measure => decide
          | false =>
            rw [hq] at tm NX
            simp only [Bool.false_eq_true, if_false] at tm
            clear hp hq
            cases d0 with
            | true =>
              have hd1 := HD1.out rfl
              simp only [Bool.true_and, Bool.false_and, Bool.and_true, Bool.and_false, Bool.or_false, Bool.or_true, Bool.false_or, Bool.true_or, if_true, if_false, Bool.false_eq_true, Nat.add_zero] at NX
              have NXH := Lib.hid NX
              clear NX
              go_wp2_with fail
              go_roundw
              case rel => exact ⟨9, 512, r, rfl, rfl, by have := NXH.out.few; omega, by decide, trivial, NXH.out⟩
              case measure => decide
            | false =>
              have hd1 := HD0.out rfl
              simp only [Bool.true_and, Bool.false_and, Bool.and_true, Bool.and_false, Bool.or_false, Bool.or_true, Bool.false_or, Bool.true_or, if_true, if_false, Bool.false_eq_true, Nat.add_zero] at NX
              have NXH := Lib.hid NX
              clear NX
              go_wp2_with fail
              go_roundw
              case rel => exact ⟨9, 512, r, rfl, rfl, by have := NXH.out.few; omega, by decide, trivial, NXH.out⟩
              case measure => decide
    · obtain rfl : i = 9 := by have := hC.out.le; omega
      obtain rfl : b = 512 := hC.out.b
      have HR9 : Hid (r = xN pm n.mode % 512) := hC.out.r
      have hpm := HPM.out
      have PM := PMH.out
      have hq : (pm % 512 : Nat) ≤ pm := Nat.mod_le _ _
      clear TP TM TK HD1 HD0 hC hi
      go_wp2_with (refine wpList_srow8 rfl (.tmp 12) (.tmp 81) rfl R12 rfl _ _ rfl B122.out rfl rfl (by simp [Value.oneCell']) ?_; intro w4 b4 k4)
      have EQ : (pm : Int) - (pm : Int) % 512 + (r : Int) = md := by rw [MD.out, ← HR9.out]; omega
      have K4 : Hid (Kept [] w w4) := K2.out.trans k4 (fun i hi => Or.inr (by have h1 := List.mem_singleton.1 hi; have h2 := NR.out; omega))
      rw [EQ] at b4
      obtain ⟨g0, g1, g2, g3, g4, g5, g6, g7, g8, g9, g10, g11, g12⟩ := nod_cells b4
      clear EQ PM hq hr hb
      refine bodyPost_ret (v := .tuple #[.agg #[.int .u64 0, .int .u64 n.path, .string name, .int .u32 md, .string u, .string n.gid, .string u, .int .u32 0, .int .u32 0, .int .u32 0, .int .u64 0, .int .i64 0, .int .i64 0], .int .i64 0]) (by simp [results, Tryz.results25, go_sem, g0, g1, g2, g3, g4, g5, g6, g7, g8, g9, g10, g11, g12]) rfl ⟨rfl, K4.out⟩
theorem rCreate_any {w : World} {q : Nat} {T : List Acc} (h : Rt w q T) (gd : Gd T) (u : ByteArray) (n p : Nd) (tk fl : Bool) (name : ByteArray) (pm mode : Nat) (hmo : mode < 256) (hpm : pm < 4294967296) (hn : n.mode < 4294967296) (hnm : name.size ≤ 140737488355328) :
    Calls Tryz.prog 25 #[.pointer (some ⟨q, 0, none⟩), .string u, factsV n p tk fl, .string name, .int .u32 pm, .int .u8 mode] w fun e w' => e = .returned (.tuple #[.agg (createA T u n tk fl name pm mode), .int .i64 (makeE T u n tk fl name pm mode)]) ∧ Kept [] w w' := by
  by_cases hz : makeE T u n tk fl name pm mode = 0
  · have := rCreate_ok h gd u n p tk fl name pm mode hmo hpm hn hnm hz (modeInV n.mode pm) rfl
    unfold createA
    rw [if_pos hz, hz]
    exact this
  · have := rCreate_no h gd u n p tk fl name pm mode hmo hn hnm _ rfl hz
    unfold createA
    rw [if_neg hz]
    exact this
end Ru
end Go.Proofs.YtondjodfkgefgaaGreatDoor
