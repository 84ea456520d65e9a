/- rules: the reference's Wstat. -/
import Derived.Test.YtahjmpfjidijaaaGreatDoorHRwk
import Derived.Test.YtahjmpfjidijaaaGreatDoorHRwl
import Derived.Test.YtahjmpfjidijaaaGreatDoorHRwu
import Derived.Test.YtahjmpfjidijaaaGreatDoorHRwz
namespace Go.Proofs.YtahjmpfjidijaaaGreatDoor
set_option linter.unusedVariables false
open Go.RowKit Go.Shelf
attribute [local go_sem] Oper.semAt_some
namespace Ru
open Go.Proofs.YtahjmpfjidijaaaGreatDoor.Utf Go.Proofs.YtahjmpfjidijaaaGreatDoor.Txt Go.PlainAid Go.Proofs.YtahjmpfjidijaaaGreatDoor.Mpf Go.Proofs.YtahjmpfjidijaaaGreatDoor.Us
structure RInv (w : World) (RF RS RX RZ : Nat) (FV SV : Array Value) (y : Nd) (wr : World) : Prop where
  fc : wr.heap[RF]? = some (.cells FV 53 (0, 0))
  st : wr.heap[RS]? = some (.cells SV 60 (0, 0))
  nz : Nz wr RX y
  res : wr.heap[RZ]? = some (.cells #[.int .u64 0, .int .u64 0, .string ⟨#[]⟩, .int .u32 0, .string ⟨#[]⟩, .string ⟨#[]⟩, .string ⟨#[]⟩, .int .u32 0, .int .u32 0, .int .u32 0, .int .u64 0, .int .i64 0, .int .i64 0] 51 (0, 0))
  kept : Kept [] w wr
  far : w.heap.size ≤ RX ∧ w.heap.size ≤ RZ ∧ RX ≠ RF ∧ RX ≠ RS ∧ RX ≠ RZ
theorem RInv.pure {w : World} {RF RS RX RZ : Nat} {FV SV : Array Value} {y : Nd} {wr w' : World} (I : RInv w RF RS RX RZ FV SV y wr) (k : Kept [] wr w') : RInv w RF RS RX RZ FV SV y w' :=
  ⟨(k.block _ (block_lt I.fc) (by simp)).trans I.fc, (k.block _ (block_lt I.st) (by simp)).trans I.st, (k.block _ (block_lt I.nz) (by simp)).trans I.nz, (k.block _ (block_lt I.res) (by simp)).trans I.res, I.kept.trans k (fun i hi => by cases hi), I.far⟩
theorem RInv.moved {w : World} {RF RS RX RZ : Nat} {FV SV : Array Value} {y z : Nd} {wr w' : World} (I : RInv w RF RS RX RZ FV SV y wr) (k : Kept [RX] wr w') (h : Nz w' RX z) : RInv w RF RS RX RZ FV SV z w' := by
  obtain ⟨f1, f2, f3, f4, f5⟩ := I.far
  refine ⟨(k.block _ (block_lt I.fc) (by simp; omega)).trans I.fc, (k.block _ (block_lt I.st) (by simp; omega)).trans I.st, h, (k.block _ (block_lt I.res) (by simp; omega)).trans I.res, I.kept.trans k (fun i hi => ?_), I.far⟩
  rw [List.mem_singleton] at hi
  subst hi
  exact Or.inr f1
theorem Nz.slot {w : World} {B : Nat} {y : Nd} (h : Nz w B y) (i : Nat) : w.cell? ⟨B, i, none⟩ = (wstA y)[i]? ∧ w.frozen? ⟨B, i, none⟩ = false := ⟨cell_of_row w B i _ _ (0, 0) h, frozen_of_row w B i _ _ h⟩
set_option maxRecDepth 100000 in
theorem fc_cells {w : World} {R : Nat} {n p : Nd} {tk fl : Bool} (h : w.heap[R]? = some (.cells #[.int .u64 n.path, .int .u64 n.parent, .string n.name, .int .u32 n.mode, .string n.uid, .string n.gid, .string n.muid, .int .u32 n.atime, .int .u32 n.mtime, .int .u32 n.vers, .int .u64 n.length, .int .i64 n.opens, .int .i64 n.kids, .int .u64 p.path, .int .u64 p.parent, .string p.name, .int .u32 p.mode, .string p.uid, .string p.gid, .string p.muid, .int .u32 p.atime, .int .u32 p.mtime, .int .u32 p.vers, .int .u64 p.length, .int .i64 p.opens, .int .i64 p.kids, .bool tk, .bool fl] 53 (0, 0))) : w.cell? ⟨R, 4, none⟩ = some (.string n.uid) ∧ w.cell? ⟨R, 5, none⟩ = some (.string n.gid) := by
  refine ⟨?_, ?_⟩ <;> (rw [cell_of_row w R _ _ _ (0, 0) h]; rfl)
theorem first_five {r : Nat → Int} {f : Nat → Bool} (h0 : r 0 = 97) (h1 : r 1 = 97) (h2 : r 2 = 97) (h3 : r 3 = 97) (h4 : r 4 = 97) : firstE r f 5 = if f 0 = false ∧ f 1 = false ∧ f 2 = false ∧ f 3 = false ∧ f 4 = false then 0 else 97 := by
  simp only [firstE, h0, h1, h2, h3, h4]
  cases f 0 <;> cases f 1 <;> cases f 2 <;> cases f 3 <;> cases f 4 <;> simp
theorem setN_five (s : Wn) (f : Nat → Bool) (x : Nd) : setN (setK s) f x 5 = x := by
  simp only [setN]
  have g0 : ∀ y, setK s 0 y = y := fun _ => rfl
  have g1 : ∀ y, setK s 1 y = y := fun _ => rfl
  have g2 : ∀ y, setK s 2 y = y := fun _ => rfl
  have g3 : ∀ y, setK s 3 y = y := fun _ => rfl
  have g4 : ∀ y, setK s 4 y = y := fun _ => rfl
  simp only [g0, g1, g2, g3, g4, ite_self]
theorem step_no {r : Nat → Int} {f : Nat → Bool} {k : Nat} {e : Int} {y n : Nd} {s : Wn} (HE : e = firstE r f k) (Y : e = 0 → y = setN (setK s) f n k) (h : ((e == 0) && f k) = false) : e = firstE r f (k + 1) ∧ (e = 0 → y = setN (setK s) f n (k + 1)) := by
  by_cases he : e = 0
  · subst he
    have hf : f k = false := by simpa using h
    exact ⟨(firstE_off HE.symm hf).symm, fun _ => by rw [setN_off hf]; exact Y rfl⟩
  · have := firstE_bad (r := r) (t := f) (k := k) (by rw [← HE]; exact he) 1
    rw [← HE] at this
    exact ⟨this.symm, fun h => absurd h he⟩
theorem step_yes {r : Nat → Int} {f : Nat → Bool} {k : Nat} {e : Int} {y n : Nd} {s : Wn} (HE : e = firstE r f k) (Y : e = 0 → y = setN (setK s) f n k) (h : ((e == 0) && f k) = true) : e = 0 ∧ firstE r f (k + 1) = r k ∧ setK s k y = setN (setK s) f n (k + 1) := by
  have h1 : e = 0 ∧ f k = true := by simpa using h
  obtain ⟨rfl, hf⟩ := h1
  exact ⟨rfl, firstE_on HE.symm hf, by rw [setN_on hf, ← Y rfl]⟩
set_option maxHeartbeats 32000000 in
set_option maxRecDepth 100000 in
theorem rWstat_any {w : World} {q : Nat} {T : List Acc} (h : Rt w q T) (gd : Gd T) (u : ByteArray) (n p : Nd) (tk fl : Bool) (s : Wn) (hnm : s.nm.size ≤ 140737488355328) (hm : n.mode < 4294967296) (hpm : p.mode < 4294967296)
    (s0 : s.ty ≤ 65535) (s1 : s.dev ≤ 4294967295) (s2 : s.kd ≤ 255) (s3 : s.vr ≤ 4294967295) (s4 : s.pa ≤ 18446744073709551615) (s5 : s.mo ≤ 4294967295) (s6 : s.atm ≤ 4294967295) (s7 : s.mt ≤ 4294967295) (s8 : s.ln ≤ 18446744073709551615)
    (n3 : n.vers ≤ 4294967295) (n4 : n.path ≤ 18446744073709551615) (n6 : n.atime ≤ 4294967295) (n7 : n.mtime ≤ 4294967295) (n8 : n.length ≤ 18446744073709551615) :
    Calls Tryz.prog 24 #[.pointer (some ⟨q, 0, none⟩), .string u, .agg #[.int .u64 n.path, .int .u64 n.parent, .string n.name, .int .u32 n.mode, .string n.uid, .string n.gid, .string n.muid, .int .u32 n.atime, .int .u32 n.mtime, .int .u32 n.vers, .int .u64 n.length, .int .i64 n.opens, .int .i64 n.kids, .int .u64 p.path, .int .u64 p.parent, .string p.name, .int .u32 p.mode, .string p.uid, .string p.gid, .string p.muid, .int .u32 p.atime, .int .u32 p.mtime, .int .u32 p.vers, .int .u64 p.length, .int .i64 p.opens, .int .i64 p.kids, .bool tk, .bool fl], .agg #[.int .u16 s.ty, .int .u32 s.dev, .int .u8 s.kd, .int .u32 s.vr, .int .u64 s.pa, .int .u32 s.mo, .int .u32 s.atm, .int .u32 s.mt, .int .u64 s.ln, .string s.nm, .string s.ud, .string s.gd, .string s.mu]] w fun e w' => e = .returned (.tuple #[.agg (wstA (wstN T u n p tk s)), .int .i64 (wstE T u n p tk s)]) ∧ Kept [] w w' := by
  have RE : Hid (∀ w', Calls Tryz.prog 71 #[.agg #[.int .u64 n.path, .int .u64 n.parent, .string n.name, .int .u32 n.mode, .string n.uid, .string n.gid, .string n.muid, .int .u32 n.atime, .int .u32 n.mtime, .int .u32 n.vers, .int .u64 n.length, .int .i64 n.opens, .int .i64 n.kids]] w' fun e w'' => e = .returned (.agg (recR n).cells) ∧ Kept [] w' w'') := fun w' => by rw [← recR_cells]; exact rRecord_any w' n hm
  have TO : Hid (∀ w', Calls Tryz.prog 70 #[.agg #[.int .u16 s.ty, .int .u32 s.dev, .int .u8 s.kd, .int .u32 s.vr, .int .u64 s.pa, .int .u32 s.mo, .int .u32 s.atm, .int .u32 s.mt, .int .u64 s.ln, .string s.nm, .string s.ud, .string s.gd, .string s.mu], .agg (recR n).cells] w' fun e w'' => e = .returned (.int .u16 (tb (tkn s n) 13 : Nat)) ∧ Kept [] w' w'') := fun w' => rtouched_any w' s.rc (recR n) s0 (Nat.zero_le _) s1 (Nat.zero_le _) s2 (by show n.mode / 16777216 ≤ 255; omega) s3 n3 s4 n4 s5 (by show n.mode ≤ _; omega) s6 n6 s7 n7 s8 (by show (if dirV n = true then 0 else n.length) ≤ _; split <;> omega)
  have LD : Hid (∀ w', Kept [] w w' → Calls Tryz.prog 73 #[.pointer (some ⟨q, 0, none⟩), .string u, .string n.gid] w' fun e w'' => e = .returned (.bool (leads T u n.gid)) ∧ Kept [] w' w'') := fun w' k => (rLeads_any (h.kept k) gd u n.gid).mono fun e w'' ⟨a, b⟩ => ⟨a, by rw [b]; exact Kept.refl _ _⟩
  obtain ⟨F28, hF28⟩ : ∃ F : List Value, F = [.int .u64 n.path, .int .u64 n.parent, .string n.name, .int .u32 n.mode, .string n.uid, .string n.gid, .string n.muid, .int .u32 n.atime, .int .u32 n.mtime, .int .u32 n.vers, .int .u64 n.length, .int .i64 n.opens, .int .i64 n.kids, .int .u64 p.path, .int .u64 p.parent, .string p.name, .int .u32 p.mode, .string p.uid, .string p.gid, .string p.muid, .int .u32 p.atime, .int .u32 p.mtime, .int .u32 p.vers, .int .u64 p.length, .int .i64 p.opens, .int .i64 p.kids, .bool tk, .bool fl] := ⟨_, rfl⟩
  have hFA : (#[.int .u64 n.path, .int .u64 n.parent, .string n.name, .int .u32 n.mode, .string n.uid, .string n.gid, .string n.muid, .int .u32 n.atime, .int .u32 n.mtime, .int .u32 n.vers, .int .u64 n.length, .int .i64 n.opens, .int .i64 n.kids, .int .u64 p.path, .int .u64 p.parent, .string p.name, .int .u32 p.mode, .string p.uid, .string p.gid, .string p.muid, .int .u32 p.atime, .int .u32 p.mtime, .int .u32 p.vers, .int .u64 p.length, .int .i64 p.opens, .int .i64 p.kids, .bool tk, .bool fl] : Array Value) = F28.toArray := by rw [hF28]
  have C5 : Hid (∀ w', Kept [] w w' → Calls Tryz.prog 72 #[.pointer (some ⟨q, 0, none⟩), .string u, .agg #[.int .u64 n.path, .int .u64 n.parent, .string n.name, .int .u32 n.mode, .string n.uid, .string n.gid, .string n.muid, .int .u32 n.atime, .int .u32 n.mtime, .int .u32 n.vers, .int .u64 n.length, .int .i64 n.opens, .int .i64 n.kids], .int .u32 (s.mo : Int)] w' fun e w'' => e = .returned (.int .i64 (rMode T u n s.mo)) ∧ Kept [] w' w'') := fun w' k => rMod_any (h.kept k) gd u n s.mo
  have C8 : Hid (∀ w', Kept [] w w' → Calls Tryz.prog 74 #[.pointer (some ⟨q, 0, none⟩), .string u, .agg #[.int .u64 n.path, .int .u64 n.parent, .string n.name, .int .u32 n.mode, .string n.uid, .string n.gid, .string n.muid, .int .u32 n.atime, .int .u32 n.mtime, .int .u32 n.vers, .int .u64 n.length, .int .i64 n.opens, .int .i64 n.kids], .int .u64 (s.ln : Int)] w' fun e w'' => e = .returned (.int .i64 (rLength T u n s.ln)) ∧ Kept [] w' w'') := fun w' k => rLen_any (h.kept k) gd u n hm s.ln
  have C9 : Hid (∀ w', Kept [] w w' → Calls Tryz.prog 75 #[.pointer (some ⟨q, 0, none⟩), .string u, .agg F28.toArray, .string s.nm] w' fun e w'' => e = .returned (.int .i64 (rName T u n p tk s.nm)) ∧ Kept [] w' w'') := fun w' k => by rw [← hFA]; exact rCall_any (h.kept k) gd u n p tk fl hpm s.nm hnm
  have C11 : Hid (∀ w', Kept [] w w' → Calls Tryz.prog 76 #[.pointer (some ⟨q, 0, none⟩), .string u, .agg #[.int .u64 n.path, .int .u64 n.parent, .string n.name, .int .u32 n.mode, .string n.uid, .string n.gid, .string n.muid, .int .u32 n.atime, .int .u32 n.mtime, .int .u32 n.vers, .int .u64 n.length, .int .i64 n.opens, .int .i64 n.kids], .string s.gd] w' fun e w'' => e = .returned (.int .i64 (rGid T u n s.gd)) ∧ Kept [] w' w'') := fun w' k => rGrp_any (h.kept k) gd u n s.gd
  obtain ⟨HR0, hHR0⟩ : ∃ A, A = (recR n).cells := ⟨_, rfl⟩
  rw [← hHR0] at RE TO
  obtain ⟨f, hf⟩ : ∃ f, f = tkn s n := ⟨_, rfl⟩
  obtain ⟨r, hr⟩ : ∃ r, r = whyNot T u n p tk s := ⟨_, rfl⟩
  have BQ := beq_str u n.uid
  have W5 : Hid (r 5 = rMode T u n s.mo) := by rw [hr]; rfl
  have W7 : Hid (r 7 = (if (decide (u = n.uid) || leads T u n.gid) = false then 90 else 0)) := by rw [hr]; rfl
  have W8 : Hid (r 8 = rLength T u n s.ln) := by rw [hr]; rfl
  have W9 : Hid (r 9 = rName T u n p tk s.nm) := by rw [hr]; rfl
  have W11 : Hid (r 11 = rGid T u n s.gd) := by rw [hr]; rfl
  have W0 : Hid (r 0 = 97) := by rw [hr]; rfl
  have W1 : Hid (r 1 = 97) := by rw [hr]; rfl
  have W2 : Hid (r 2 = 97) := by rw [hr]; rfl
  have W3 : Hid (r 3 = 97) := by rw [hr]; rfl
  have W4 : Hid (r 4 = 97) := by rw [hr]; rfl
  have W6 : Hid (r 6 = 97) := by rw [hr]; rfl
  have W10 : Hid (r 10 = 97) := by rw [hr]; rfl
  have W12 : Hid (r 12 = 97) := by rw [hr]; rfl
  rw [← W5.out] at C5
  rw [← W8.out] at C8
  rw [← W9.out] at C9
  rw [← W11.out] at C11
  clear W5 W8 W9 W11
  obtain ⟨ob, hob⟩ : ∃ b, b = decide (u = n.uid) := ⟨_, rfl⟩
  obtain ⟨lb, hlb⟩ : ∃ b, b = leads T u n.gid := ⟨_, rfl⟩
  rw [← hob] at BQ W7
  rw [← hlb] at LD W7
  have BN : (u.toList != n.uid.toList) = !ob := by simp [bne, BQ]
  obtain ⟨E, hE⟩ : ∃ E, E = wstE T u n p tk s := ⟨_, rfl⟩
  obtain ⟨A, hA⟩ : ∃ A, A = wstA (wstN T u n p tk s) := ⟨_, rfl⟩
  have FE : Hid (E = firstE r f 13 ∧ (E = 0 → A = wstA (setN (setK s) f n 13)) ∧ (E ≠ 0 → A = #[.int .u64 0, .int .u64 0, .string ⟨#[]⟩, .int .u32 0, .string ⟨#[]⟩, .string ⟨#[]⟩, .string ⟨#[]⟩, .int .u32 0, .int .u32 0, .int .u32 0, .int .u64 0, .int .i64 0, .int .i64 0])) := by
    have e1 : E = firstE r f 13 := by rw [hE, hr, hf]; rfl
    refine ⟨e1, fun h0 => ?_, fun h0 => ?_⟩
    · rw [hA]
      unfold wstN
      rw [← hE, if_pos h0, hf]
    · rw [hA]
      unfold wstN
      rw [← hE, if_neg h0]
      rfl
  rw [← hE, ← hA]
  rw [← hf] at TO
  obtain ⟨t, ht⟩ : ∃ t, t = tb f 13 := ⟨_, rfl⟩
  have AND : Hid (∀ k, k < 13 → bits .and .u16 (t : Int) ((2 ^ k : Nat) : Int) = ((if f k then 2 ^ k else 0 : Nat) : Int)) := fun k hk => by rw [ht]; exact and_bit f k hk
  have A31 : Hid ((bits .and .u16 (t : Int) 31 = 0) = (f 0 = false ∧ f 1 = false ∧ f 2 = false ∧ f 3 = false ∧ f 4 = false)) := by show _ = _; rw [ht]; exact and_five f
  rw [← ht] at TO
  have HFA := Lib.hid hFA
  have HF28 := Lib.hid hF28
  have HL : Hid (F28.length = 28) := by rw [hF28]; rfl
  clear ht hf hr hE hA h gd hnm hm hpm hHR0 hob hlb s0 s1 s2 s3 s4 s5 s6 s7 s8 n3 n4 n6 n7 n8
  obtain ⟨w1, hw1⟩ : ∃ w1, w1 = ((w.alloc (.cells #[.int .u64 n.path, .int .u64 n.parent, .string n.name, .int .u32 n.mode, .string n.uid, .string n.gid, .string n.muid, .int .u32 n.atime, .int .u32 n.mtime, .int .u32 n.vers, .int .u64 n.length, .int .i64 n.opens, .int .i64 n.kids, .int .u64 p.path, .int .u64 p.parent, .string p.name, .int .u32 p.mode, .string p.uid, .string p.gid, .string p.muid, .int .u32 p.atime, .int .u32 p.mtime, .int .u32 p.vers, .int .u64 p.length, .int .i64 p.opens, .int .i64 p.kids, .bool tk, .bool fl] 53)).alloc (.cells #[.int .u16 s.ty, .int .u32 s.dev, .int .u8 s.kd, .int .u32 s.vr, .int .u64 s.pa, .int .u32 s.mo, .int .u32 s.atm, .int .u32 s.mt, .int .u64 s.ln, .string s.nm, .string s.ud, .string s.gd, .string s.mu] 60)).alloc (.cells #[.int .u64 0, .int .u64 0, .string ⟨#[]⟩, .int .u32 0, .string ⟨#[]⟩, .string ⟨#[]⟩, .string ⟨#[]⟩, .int .u32 0, .int .u32 0, .int .u32 0, .int .u64 0, .int .i64 0, .int .i64 0] 51) := ⟨_, rfl⟩
  obtain ⟨RF, hRF⟩ : ∃ R, R = w.heap.size := ⟨_, rfl⟩
  obtain ⟨RS, hRS⟩ : ∃ R, R = w.heap.size + 1 := ⟨_, rfl⟩
  obtain ⟨RZ, hRZ⟩ : ∃ R, R = w.heap.size + 1 + 1 := ⟨_, rfl⟩
  have S1 : Hid (w1.heap.size = w.heap.size + 3) := by show _ = _; rw [hw1]; simp
  obtain ⟨RX, hRX⟩ : ∃ R, R = w1.heap.size := ⟨_, rfl⟩
  have I0 : Hid (RInv w RF RS RX RZ F28.toArray #[.int .u16 s.ty, .int .u32 s.dev, .int .u8 s.kd, .int .u32 s.vr, .int .u64 s.pa, .int .u32 s.mo, .int .u32 s.atm, .int .u32 s.mt, .int .u64 s.ln, .string s.nm, .string s.ud, .string s.gd, .string s.mu] n (w1.alloc (.cells #[.int .u64 n.path, .int .u64 n.parent, .string n.name, .int .u32 n.mode, .string n.uid, .string n.gid, .string n.muid, .int .u32 n.atime, .int .u32 n.mtime, .int .u32 n.vers, .int .u64 n.length, .int .i64 n.opens, .int .i64 n.kids] 51))) := by
    have bF : w1.heap[RF]? = some (.cells F28.toArray 53 (0, 0)) := by
      rw [hw1, hRF, ← hFA]
      exact (Below.heap_alloc _ _ _ (by simp; omega)).trans ((Below.heap_alloc _ _ _ (by simp)).trans (MapKept.heap_alloc w _).1)
    have bS : w1.heap[RS]? = some (.cells #[.int .u16 s.ty, .int .u32 s.dev, .int .u8 s.kd, .int .u32 s.vr, .int .u64 s.pa, .int .u32 s.mo, .int .u32 s.atm, .int .u32 s.mt, .int .u64 s.ln, .string s.nm, .string s.ud, .string s.gd, .string s.mu] 60 (0, 0)) := by
      rw [hw1, hRS]
      exact al_1 w _ _ _ _
    have bZ : w1.heap[RZ]? = some (.cells #[.int .u64 0, .int .u64 0, .string ⟨#[]⟩, .int .u32 0, .string ⟨#[]⟩, .string ⟨#[]⟩, .string ⟨#[]⟩, .int .u32 0, .int .u32 0, .int .u32 0, .int .u64 0, .int .i64 0, .int .i64 0] 51 (0, 0)) := by
      rw [hw1, hRZ]
      exact al_2 w _ _ _ _
    have K1 : Kept [] w w1 := by rw [hw1]; exact (((Kept.refl _ _).alloc _).alloc _).alloc _
    have k2 : Kept [] w1 (w1.alloc (.cells #[.int .u64 n.path, .int .u64 n.parent, .string n.name, .int .u32 n.mode, .string n.uid, .string n.gid, .string n.muid, .int .u32 n.atime, .int .u32 n.mtime, .int .u32 n.vers, .int .u64 n.length, .int .i64 n.opens, .int .i64 n.kids] 51)) := (Kept.refl _ _).alloc _
    have z := S1.out
    exact ⟨(k2.block _ (block_lt bF) (by simp)).trans bF, (k2.block _ (block_lt bS) (by simp)).trans bS, by rw [hRX]; exact (MapKept.heap_alloc w1 _).1, (k2.block _ (block_lt bZ) (by simp)).trans bZ, K1.trans k2 (fun i hi => by cases hi), by omega⟩
  have FN : Hid (∀ wr : World, wr.heap[RF]? = some (.cells F28.toArray 53 (0, 0)) → wr.rangeAt RF 0 [.int .u64 n.path, .int .u64 n.parent, .string n.name, .int .u32 n.mode, .string n.uid, .string n.gid, .string n.muid, .int .u32 n.atime, .int .u32 n.mtime, .int .u32 n.vers, .int .u64 n.length, .int .i64 n.opens, .int .i64 n.kids]) := fun wr b => by
    rw [hF28] at b
    intro j v hv
    rw [Nat.zero_add, cell_of_row wr RF j _ _ (0, 0) b]
    have hj : j < 13 := by
      have := (List.getElem?_eq_some_iff.1 hv).1
      simpa using this
    rcases (by omega : j = 0 ∨ j = 1 ∨ j = 2 ∨ j = 3 ∨ j = 4 ∨ j = 5 ∨ j = 6 ∨ j = 7 ∨ j = 8 ∨ j = 9 ∨ j = 10 ∨ j = 11 ∨ j = 12) with rfl | rfl | rfl | rfl | rfl | rfl | rfl | rfl | rfl | rfl | rfl | rfl | rfl <;> exact hv
  have bF1 : Hid (w1.heap[RF]? = some (.cells F28.toArray 53 (0, 0))) := by
    have := I0.out.fc
    show _ = _
    rw [← this]
    exact (Below.heap_alloc _ _ _ (by have := S1.out; omega)).symm
  have HW1 := Lib.hid hw1
  have HRF := Lib.hid hRF
  have HRS := Lib.hid hRS
  have HRZ := Lib.hid hRZ
  have HRX := Lib.hid hRX
  clear hw1 hRF hRS hRZ hRX hF28 hFA S1
  go_enter Tryz.func24, Tryz.ntmps24
  go_upto_region 1 with fail
  rw [← HW1.out, ← HRZ.out, ← HRS.out, ← HRF.out]
  go_upto_region 2 with (first | (refine wpList_nmid (by rfl) (.tmp 13) rfl RF 0 rfl [.int .u64 n.path, .int .u64 n.parent, .string n.name, .int .u32 n.mode, .string n.uid, .string n.gid, .string n.muid, .int .u32 n.atime, .int .u32 n.mtime, .int .u32 n.vers, .int .u64 n.length, .int .i64 n.opens, .int .i64 n.kids] (FN.out _ bF1.out) rfl ?_))
  try rw [← HRX.out]
  obtain ⟨w2, hw2⟩ : ∃ w2, w2 = w1.alloc (.cells #[.int .u64 n.path, .int .u64 n.parent, .string n.name, .int .u32 n.mode, .string n.uid, .string n.gid, .string n.muid, .int .u32 n.atime, .int .u32 n.mtime, .int .u32 n.vers, .int .u64 n.length, .int .i64 n.opens, .int .i64 n.kids] 51) := ⟨_, rfl⟩
  rw [← hw2] at I0 ⊢
  clear hw2 HRX HRF HRS HRZ HW1 bF1
  go_cut [11] from 15 to 18 (fun s11 wx => s11 = .int .u16 t ∧ Hid (RInv w RF RS RX RZ F28.toArray #[.int .u16 s.ty, .int .u32 s.dev, .int .u8 s.kd, .int .u32 s.vr, .int .u64 s.pa, .int .u32 s.mo, .int .u32 s.atm, .int .u32 s.mt, .int .u64 s.ln, .string s.nm, .string s.ud, .string s.gd, .string s.mu] n wx))
  case first =>
    have ID := Lib.hid (I0.out.pure ((Kept.refl [] w2).drew))
    have hb : (w2.drew).heap[RS]? = some (.cells #[.int .u16 s.ty, .int .u32 s.dev, .int .u8 s.kd, .int .u32 s.vr, .int .u64 s.pa, .int .u32 s.mo, .int .u32 s.atm, .int .u32 s.mt, .int .u64 s.ln, .string s.nm, .string s.ud, .string s.gd, .string s.mu] 60 (0, 0)) ∧ (w2.drew).heap[RX]? = some (.cells #[.int .u64 n.path, .int .u64 n.parent, .string n.name, .int .u32 n.mode, .string n.uid, .string n.gid, .string n.muid, .int .u32 n.atime, .int .u32 n.mtime, .int .u32 n.vers, .int .u64 n.length, .int .i64 n.opens, .int .i64 n.kids] 51 (0, 0)) := ⟨ID.out.st, ID.out.nz⟩
    refine wp_region_held (S := fun w' => w'.heap[RS]? = some (.cells #[.int .u16 s.ty, .int .u32 s.dev, .int .u8 s.kd, .int .u32 s.vr, .int .u64 s.pa, .int .u32 s.mo, .int .u32 s.atm, .int .u32 s.mt, .int .u64 s.ln, .string s.nm, .string s.ud, .string s.gd, .string s.mu] 60 (0, 0)) ∧ w'.heap[RX]? = some (.cells #[.int .u64 n.path, .int .u64 n.parent, .string n.name, .int .u32 n.mode, .string n.uid, .string n.gid, .string n.muid, .int .u32 n.atime, .int .u32 n.mtime, .int .u32 n.vers, .int .u64 n.length, .int .i64 n.opens, .int .i64 n.kids] 51 (0, 0))) (by kernel_rfl) ?_
    try (change wpAnyH _ _ _ _ _ _ _ _ (World.drew _))
    refine wpAnyH_take (i := 0) (v := .agg #[.int .u16 s.ty, .int .u32 s.dev, .int .u8 s.kd, .int .u32 s.vr, .int .u64 s.pa, .int .u32 s.mo, .int .u32 s.atm, .int .u32 s.mt, .int .u64 s.ln, .string s.nm, .string s.ud, .string s.gd, .string s.mu]) rfl (by kernel_rfl) (by kernel_rfl) (by kernel_rfl) (fun _ _ _ h => h) (yieldsIf_load_mid (by rfl) 60 (.tmp 7) rfl RS 0 (by simp [go_sem]) [.int .u16 s.ty, .int .u32 s.dev, .int .u8 s.kd, .int .u32 s.vr, .int .u64 s.pa, .int .u32 s.mo, .int .u32 s.atm, .int .u32 s.mt, .int .u64 s.ln, .string s.nm, .string s.ud, .string s.gd, .string s.mu] _ (fun w b => whole_of b.1) Tryz.underlying60 rfl size_stat9) hb ?_
    refine wpAnyH_take (i := 1) (v := .agg #[.int .u64 n.path, .int .u64 n.parent, .string n.name, .int .u32 n.mode, .string n.uid, .string n.gid, .string n.muid, .int .u32 n.atime, .int .u32 n.mtime, .int .u32 n.vers, .int .u64 n.length, .int .i64 n.opens, .int .i64 n.kids]) rfl (by kernel_rfl) (by kernel_rfl) (by kernel_rfl) (fun _ _ _ h => h) (yieldsIf_load_mid (by rfl) 51 (.tmp 10) rfl RX 0 (by simp [go_sem]) [.int .u64 n.path, .int .u64 n.parent, .string n.name, .int .u32 n.mode, .string n.uid, .string n.gid, .string n.muid, .int .u32 n.atime, .int .u32 n.mtime, .int .u32 n.vers, .int .u64 n.length, .int .i64 n.opens, .int .i64 n.kids] _ (fun w b => whole_of b.2) Tryz.underlying51 rfl size_node9) hb ?_
    refine wpAnyH_one (i := 2) (by kernel_rfl) ?_
    refine any_callR rfl rfl 71 #[.agg #[.int .u64 n.path, .int .u64 n.parent, .string n.name, .int .u32 n.mode, .string n.uid, .string n.gid, .string n.muid, .int .u32 n.atime, .int .u32 n.mtime, .int .u32 n.vers, .int .u64 n.length, .int .i64 n.opens, .int .i64 n.kids]] (by simp [go_sem]) (RE.out _) ?_
    rintro e w3 ⟨rfl, k3⟩
    have I3 := Lib.hid (ID.out.pure k3)
    refine ⟨_, rfl, ⟨I3.out.st, I3.out.nz⟩, ?_⟩
    refine wpAnyH_one (i := 3) (by kernel_rfl) ?_
    refine any_callR rfl rfl 70 #[.agg #[.int .u16 s.ty, .int .u32 s.dev, .int .u8 s.kd, .int .u32 s.vr, .int .u64 s.pa, .int .u32 s.mo, .int .u32 s.atm, .int .u32 s.mt, .int .u64 s.ln, .string s.nm, .string s.ud, .string s.gd, .string s.mu], .agg HR0] (by simp [go_sem]) (TO.out _) ?_
    rintro e w4 ⟨rfl, k4⟩
    have I4 := Lib.hid (I3.out.pure k4)
    refine ⟨_, rfl, ⟨I4.out.st, I4.out.nz⟩, ?_⟩
    refine wpAnyH_one (i := 4) (by kernel_rfl) ?_
    refine any_value8 rfl rfl (.int .u16 t) (by simp [execOp, go_sem]) ⟨⟨I4.out.st, I4.out.nz⟩, ?_⟩
    refine wpAnyH_done (by kernel_rfl) ?_ _
    simp [go_sem]
    go_wp2_with fail
    go_meet
    exact ⟨rfl, I4⟩
  case rest =>
    obtain ⟨rfl, I⟩ := hcut
    clear I0 RE TO
    go_upto_if 21 with (fail)
    go_cut [12] from 19 to 21 (fun s12 wx => ∃ e y, s12 = .int .i64 e ∧ Hid (e = firstE r f 5) ∧ Hid (RInv w RF RS RX RZ F28.toArray #[.int .u16 s.ty, .int .u32 s.dev, .int .u8 s.kd, .int .u32 s.vr, .int .u64 s.pa, .int .u32 s.mo, .int .u32 s.atm, .int .u32 s.mt, .int .u64 s.ln, .string s.nm, .string s.ud, .string s.gd, .string s.mu] y wx) ∧ Hid (e = 0 → y = setN (setK s) f n 5))
    case first =>
      have FF := first_five (f := f) W0.out W1.out W2.out W3.out W4.out
      have YN : Hid (n = setN (setK s) f n 5) := (setN_five s f n).symm
      by_cases h0 : bits .and .u16 (t : Int) 31 = 0
      · have g := h0
        rw [A31.out] at g
        rw [if_pos g] at FF
        have ZN : Hid ((0 : Int) = firstE r f 5) := FF.symm
        clear g FF AND A31 FE
        go_wp2_with fail
        go_meet
        exact ⟨0, n, rfl, ZN, I, fun _ => YN.out⟩
      · have g := h0
        rw [A31.out] at g
        rw [if_neg g] at FF
        have ZN : Hid ((97 : Int) = firstE r f 5) := FF.symm
        obtain ⟨x31, hx31⟩ : ∃ x, bits .and .u16 (t : Int) 31 = x := ⟨_, rfl⟩
        have hb : (x31 != 0) = true := by simp [← hx31, h0]
        clear g FF h0 AND A31 FE
        go_wp2_with fail
        go_meet
        exact ⟨97, n, rfl, ZN, I, fun h => absurd h (by decide)⟩
    case rest =>
      obtain ⟨ek, y, rfl, HE, I, Y⟩ := hcut
      clear A31 W0 W1 W2 W3 W4
      obtain ⟨wy, hwy⟩ : ∃ x, x = wc := ⟨_, rfl⟩
      subst hwy
      go_upto_region 6 with (fail)
      go_cut [28] from 22 to 27 (fun sc wx => ∃ cb, sc = .bool cb ∧ Hid (cb = ((ek == 0) && f 5)) ∧ wy = wx)
      case first =>
        have hand := AND.out 5 (by decide)
        by_cases he : ek = 0
        · subst he
          cases hfk : f 5 with
          | true =>
            have hand' : bits .and .u16 (t : Int) 32 = 32 := by rw [hfk] at hand; exact hand
            have HK := Lib.hid hfk
            clear hand hfk AND FE HE Y
            go_wp2_with fail
            go_meet
            exact ⟨true, rfl, by show _ = _; rw [HK.out]; rfl, rfl⟩
          | false =>
            have hand' : bits .and .u16 (t : Int) 32 = 0 := by rw [hfk] at hand; exact hand
            have HK := Lib.hid hfk
            clear hand hfk AND FE HE Y
            go_wp2_with fail
            go_meet
            exact ⟨false, rfl, by show _ = _; rw [HK.out]; rfl, rfl⟩
        · have heb : (ek == 0) = false := by simpa using he
          have HB := Lib.hid heb
          clear hand AND FE HE Y he
          go_wp2_with fail
          go_meet
          exact ⟨false, rfl, by show _ = _; rw [HB.out]; rfl, rfl⟩
      case rest =>
        obtain ⟨cb, rfl, HCB, hw⟩ := hcut
        subst hw
        go_upto_if 28 with (fail)
        go_cut [12] from 29 to 38 (fun s12 wx => ∃ e y, s12 = .int .i64 e ∧ Hid (e = firstE r f 6) ∧ Hid (RInv w RF RS RX RZ F28.toArray #[.int .u16 s.ty, .int .u32 s.dev, .int .u8 s.kd, .int .u32 s.vr, .int .u64 s.pa, .int .u32 s.mo, .int .u32 s.atm, .int .u32 s.mt, .int .u64 s.ln, .string s.nm, .string s.ud, .string s.gd, .string s.mu] y wx) ∧ Hid (e = 0 → y = setN (setK s) f n 6))
        case first =>
          cases cb with
          | false =>
            obtain ⟨zn, yn⟩ := step_no HE.out Y.out HCB.out.symm
            have ZN := Lib.hid zn
            have YN := Lib.hid yn
            clear zn yn AND FE HE Y HCB
            go_wp2_with fail
            go_meet
            exact ⟨ek, y, rfl, ZN, I, YN⟩
          | true =>
            obtain ⟨e0, ek1, en1⟩ := step_yes HE.out Y.out HCB.out.symm
            have EK := Lib.hid ek1
            have EN := Lib.hid en1
            subst e0
            clear ek1 en1 AND FE HE Y HCB
            have cs := (stat_cells I.out.st).2.2.2.2.2.1
            have CC := Lib.hid (C5.out _ I.out.kept)
            obtain ⟨z, hz⟩ : ∃ z, r 5 = z := ⟨_, rfl⟩
            rw [hz] at CC EK
            clear hz
            go_wp2_with (first | (refine wpList_nmid (by rfl) (.tmp 31) rfl RF 0 rfl [.int .u64 n.path, .int .u64 n.parent, .string n.name, .int .u32 n.mode, .string n.uid, .string n.gid, .string n.muid, .int .u32 n.atime, .int .u32 n.mtime, .int .u32 n.vers, .int .u64 n.length, .int .i64 n.opens, .int .i64 n.kids] (FN.out _ I.out.fc) rfl ?_) | (go_at_call 72; refine CC.out.mono ?_; rintro e w5 ⟨rfl, k5⟩; have I5 := Lib.hid (I.out.pure k5); have NZ5 := Lib.hid I5.out.nz; have ds := (stat_cells I5.out.st).2.2.2.2.2.1; have da := (NZ5.out.slot 3).2; have dc : _ = some (Value.int .u32 (y.mode : Int)) := (NZ5.out.slot 3).1; clear k5 CC))
            go_meet
            exact ⟨z, setK s 5 y, rfl, EK.out.symm, I5.out.moved ((Kept.refl [RX] _).setCell (Or.inl (by simp)) _) (heap_set _ NZ5.out), fun _ => EN.out⟩
        case rest =>
          obtain ⟨ek, y, rfl, HE, I, Y⟩ := hcut
          obtain ⟨wy, hwy⟩ : ∃ x, x = wc := ⟨_, rfl⟩
          subst hwy
          go_upto_region 9 with (fail)
          go_cut [45] from 39 to 44 (fun sc wx => ∃ cb, sc = .bool cb ∧ Hid (cb = ((ek == 0) && f 6)) ∧ wy = wx)
          case first =>
            have hand := AND.out 6 (by decide)
            by_cases he : ek = 0
            · subst he
              cases hfk : f 6 with
              | true =>
                have hand' : bits .and .u16 (t : Int) 64 = 64 := by rw [hfk] at hand; exact hand
                have HK := Lib.hid hfk
                clear hand hfk AND FE HE Y
                go_wp2_with fail
                go_meet
                exact ⟨true, rfl, by show _ = _; rw [HK.out]; rfl, rfl⟩
              | false =>
                have hand' : bits .and .u16 (t : Int) 64 = 0 := by rw [hfk] at hand; exact hand
                have HK := Lib.hid hfk
                clear hand hfk AND FE HE Y
                go_wp2_with fail
                go_meet
                exact ⟨false, rfl, by show _ = _; rw [HK.out]; rfl, rfl⟩
            · have heb : (ek == 0) = false := by simpa using he
              have HB := Lib.hid heb
              clear hand AND FE HE Y he
              go_wp2_with fail
              go_meet
              exact ⟨false, rfl, by show _ = _; rw [HB.out]; rfl, rfl⟩
          case rest =>
            obtain ⟨cb, rfl, HCB, hw⟩ := hcut
            subst hw
            go_upto_if 45 with (fail)
            go_cut [12] from 45 to 45 (fun s12 wx => ∃ e y, s12 = .int .i64 e ∧ Hid (e = firstE r f 7) ∧ Hid (RInv w RF RS RX RZ F28.toArray #[.int .u16 s.ty, .int .u32 s.dev, .int .u8 s.kd, .int .u32 s.vr, .int .u64 s.pa, .int .u32 s.mo, .int .u32 s.atm, .int .u32 s.mt, .int .u64 s.ln, .string s.nm, .string s.ud, .string s.gd, .string s.mu] y wx) ∧ Hid (e = 0 → y = setN (setK s) f n 7))
            case first =>
              cases cb with
              | false =>
                obtain ⟨zn, yn⟩ := step_no HE.out Y.out HCB.out.symm
                have ZN := Lib.hid zn
                have YN := Lib.hid yn
                clear zn yn AND FE HE Y HCB
                go_wp2_with fail
                go_meet
                exact ⟨ek, y, rfl, ZN, I, YN⟩
              | true =>
                obtain ⟨e0, ek1, en1⟩ := step_yes HE.out Y.out HCB.out.symm
                have EK := Lib.hid ek1
                have EN := Lib.hid en1
                subst e0
                clear ek1 en1 AND FE HE Y HCB
                go_wp2_with fail
                go_meet
                exact ⟨97, y, rfl, by show _ = _; rw [EK.out, W6.out], I, fun h => absurd h (by decide)⟩
            case rest =>
              obtain ⟨ek, y, rfl, HE, I, Y⟩ := hcut
              obtain ⟨wy, hwy⟩ : ∃ x, x = wc := ⟨_, rfl⟩
              subst hwy
              go_upto_region 11 with (fail)
              go_cut [52] from 46 to 51 (fun sc wx => ∃ cb, sc = .bool cb ∧ Hid (cb = ((ek == 0) && f 7)) ∧ wy = wx)
              case first =>
                have hand := AND.out 7 (by decide)
                by_cases he : ek = 0
                · subst he
                  cases hfk : f 7 with
                  | true =>
                    have hand' : bits .and .u16 (t : Int) 128 = 128 := by rw [hfk] at hand; exact hand
                    have HK := Lib.hid hfk
                    clear hand hfk AND FE HE Y
                    go_wp2_with fail
                    go_meet
                    exact ⟨true, rfl, by show _ = _; rw [HK.out]; rfl, rfl⟩
                  | false =>
                    have hand' : bits .and .u16 (t : Int) 128 = 0 := by rw [hfk] at hand; exact hand
                    have HK := Lib.hid hfk
                    clear hand hfk AND FE HE Y
                    go_wp2_with fail
                    go_meet
                    exact ⟨false, rfl, by show _ = _; rw [HK.out]; rfl, rfl⟩
                · have heb : (ek == 0) = false := by simpa using he
                  have HB := Lib.hid heb
                  clear hand AND FE HE Y he
                  go_wp2_with fail
                  go_meet
                  exact ⟨false, rfl, by show _ = _; rw [HB.out]; rfl, rfl⟩
              case rest =>
                obtain ⟨cb, rfl, HCB, hw⟩ := hcut
                subst hw
                go_upto_if 52 with (fail)
                go_cut [12] from 53 to 69 (fun s12 wx => ∃ e y, s12 = .int .i64 e ∧ Hid (e = firstE r f 8) ∧ Hid (RInv w RF RS RX RZ F28.toArray #[.int .u16 s.ty, .int .u32 s.dev, .int .u8 s.kd, .int .u32 s.vr, .int .u64 s.pa, .int .u32 s.mo, .int .u32 s.atm, .int .u32 s.mt, .int .u64 s.ln, .string s.nm, .string s.ud, .string s.gd, .string s.mu] y wx) ∧ Hid (e = 0 → y = setN (setK s) f n 8))
                case first =>
                  cases cb with
                  | false =>
                    obtain ⟨zn, yn⟩ := step_no HE.out Y.out HCB.out.symm
                    have ZN := Lib.hid zn
                    have YN := Lib.hid yn
                    clear zn yn AND FE HE Y HCB
                    go_wp2_with fail
                    go_meet
                    exact ⟨ek, y, rfl, ZN, I, YN⟩
                  | true =>
                    obtain ⟨e0, ek1, en1⟩ := step_yes HE.out Y.out HCB.out.symm
                    have EK := Lib.hid ek1
                    have EN := Lib.hid en1
                    subst e0
                    clear ek1 en1 AND FE HE Y HCB
                    have NZ := Lib.hid I.out.nz
                    have c7 := (stat_cells I.out.st).2.2.2.2.2.2.2.1
                    have ff := fc_cells (by rw [HFA.out]; exact I.out.fc : _ = some (Obj.cells #[.int .u64 n.path, .int .u64 n.parent, .string n.name, .int .u32 n.mode, .string n.uid, .string n.gid, .string n.muid, .int .u32 n.atime, .int .u32 n.mtime, .int .u32 n.vers, .int .u64 n.length, .int .i64 n.opens, .int .i64 n.kids, .int .u64 p.path, .int .u64 p.parent, .string p.name, .int .u32 p.mode, .string p.uid, .string p.gid, .string p.muid, .int .u32 p.atime, .int .u32 p.mtime, .int .u32 p.vers, .int .u64 p.length, .int .i64 p.opens, .int .i64 p.kids, .bool tk, .bool fl] 53 (0, 0)))
                    obtain ⟨fu, fg⟩ := ff
                    have s8a := (NZ.out.slot 8).2
                    have s8c : _ = some (Value.int .u32 (y.mtime : Int)) := (NZ.out.slot 8).1
                    cases ob with
                    | true =>
                      go_wp2_with fail
                      go_meet
                      exact ⟨0, setK s 7 y, rfl, by show _ = _; rw [EK.out, W7.out]; simp, I.out.moved ((Kept.refl [RX] _).setCell (Or.inl (by simp)) _) (heap_set _ NZ.out), fun _ => EN.out⟩
                    | false =>
                      have CC := Lib.hid (LD.out _ I.out.kept)
                      cases lb with
                      | true =>
                        go_upto_region 14 with (first | (go_at_call 73; refine CC.out.mono ?_; rintro e w5 ⟨rfl, k5⟩; have I5 := Lib.hid (I.out.pure k5); have NZ5 := Lib.hid I5.out.nz; have d7 := (stat_cells I5.out.st).2.2.2.2.2.2.2.1; have d8a := (NZ5.out.slot 8).2; have d8c : _ = some (Value.int .u32 (y.mtime : Int)) := (NZ5.out.slot 8).1; clear k5 CC))
                        go_wp2_with fail
                        go_meet
                        exact ⟨0, setK s 7 y, rfl, by show _ = _; rw [EK.out, W7.out]; simp, I5.out.moved ((Kept.refl [RX] _).setCell (Or.inl (by simp)) _) (heap_set _ NZ5.out), fun _ => EN.out⟩
                      | false =>
                        go_upto_region 14 with (first | (go_at_call 73; refine CC.out.mono ?_; rintro e w5 ⟨rfl, k5⟩; have I5 := Lib.hid (I.out.pure k5); have NZ5 := Lib.hid I5.out.nz; have d7 := (stat_cells I5.out.st).2.2.2.2.2.2.2.1; have d8a := (NZ5.out.slot 8).2; have d8c : _ = some (Value.int .u32 (y.mtime : Int)) := (NZ5.out.slot 8).1; clear k5 CC))
                        go_wp2_with fail
                        go_meet
                        exact ⟨90, setK s 7 y, rfl, by show _ = _; rw [EK.out, W7.out]; simp, I5.out.moved ((Kept.refl [RX] _).setCell (Or.inl (by simp)) _) (heap_set _ NZ5.out), fun _ => EN.out⟩
                case rest =>
                  obtain ⟨ek, y, rfl, HE, I, Y⟩ := hcut
                  obtain ⟨wy, hwy⟩ : ∃ x, x = wc := ⟨_, rfl⟩
                  subst hwy
                  go_upto_region 15 with (fail)
                  go_cut [76] from 70 to 75 (fun sc wx => ∃ cb, sc = .bool cb ∧ Hid (cb = ((ek == 0) && f 8)) ∧ wy = wx)
                  case first =>
                    have hand := AND.out 8 (by decide)
                    by_cases he : ek = 0
                    · subst he
                      cases hfk : f 8 with
                      | true =>
                        have hand' : bits .and .u16 (t : Int) 256 = 256 := by rw [hfk] at hand; exact hand
                        have HK := Lib.hid hfk
                        clear hand hfk AND FE HE Y
                        go_wp2_with fail
                        go_meet
                        exact ⟨true, rfl, by show _ = _; rw [HK.out]; rfl, rfl⟩
                      | false =>
                        have hand' : bits .and .u16 (t : Int) 256 = 0 := by rw [hfk] at hand; exact hand
                        have HK := Lib.hid hfk
                        clear hand hfk AND FE HE Y
                        go_wp2_with fail
                        go_meet
                        exact ⟨false, rfl, by show _ = _; rw [HK.out]; rfl, rfl⟩
                    · have heb : (ek == 0) = false := by simpa using he
                      have HB := Lib.hid heb
                      clear hand AND FE HE Y he
                      go_wp2_with fail
                      go_meet
                      exact ⟨false, rfl, by show _ = _; rw [HB.out]; rfl, rfl⟩
                  case rest =>
                    obtain ⟨cb, rfl, HCB, hw⟩ := hcut
                    subst hw
                    go_upto_if 76 with (fail)
                    go_cut [12] from 77 to 86 (fun s12 wx => ∃ e y, s12 = .int .i64 e ∧ Hid (e = firstE r f 9) ∧ Hid (RInv w RF RS RX RZ F28.toArray #[.int .u16 s.ty, .int .u32 s.dev, .int .u8 s.kd, .int .u32 s.vr, .int .u64 s.pa, .int .u32 s.mo, .int .u32 s.atm, .int .u32 s.mt, .int .u64 s.ln, .string s.nm, .string s.ud, .string s.gd, .string s.mu] y wx) ∧ Hid (e = 0 → y = setN (setK s) f n 9))
                    case first =>
                      cases cb with
                      | false =>
                        obtain ⟨zn, yn⟩ := step_no HE.out Y.out HCB.out.symm
                        have ZN := Lib.hid zn
                        have YN := Lib.hid yn
                        clear zn yn AND FE HE Y HCB
                        go_wp2_with fail
                        go_meet
                        exact ⟨ek, y, rfl, ZN, I, YN⟩
                      | true =>
                        obtain ⟨e0, ek1, en1⟩ := step_yes HE.out Y.out HCB.out.symm
                        have EK := Lib.hid ek1
                        have EN := Lib.hid en1
                        subst e0
                        clear ek1 en1 AND FE HE Y HCB
                        have cs := (stat_cells I.out.st).2.2.2.2.2.2.2.2.1
                        have CC := Lib.hid (C8.out _ I.out.kept)
                        obtain ⟨z, hz⟩ : ∃ z, r 8 = z := ⟨_, rfl⟩
                        rw [hz] at CC EK
                        clear hz
                        go_wp2_with (first | (refine wpList_nmid (by rfl) (.tmp 79) rfl RF 0 rfl [.int .u64 n.path, .int .u64 n.parent, .string n.name, .int .u32 n.mode, .string n.uid, .string n.gid, .string n.muid, .int .u32 n.atime, .int .u32 n.mtime, .int .u32 n.vers, .int .u64 n.length, .int .i64 n.opens, .int .i64 n.kids] (FN.out _ I.out.fc) rfl ?_) | (go_at_call 74; refine CC.out.mono ?_; rintro e w5 ⟨rfl, k5⟩; have I5 := Lib.hid (I.out.pure k5); have NZ5 := Lib.hid I5.out.nz; have ds := (stat_cells I5.out.st).2.2.2.2.2.2.2.2.1; have da := (NZ5.out.slot 10).2; have dc : _ = some (Value.int .u64 (y.length : Int)) := (NZ5.out.slot 10).1; clear k5 CC))
                        go_meet
                        exact ⟨z, setK s 8 y, rfl, EK.out.symm, I5.out.moved ((Kept.refl [RX] _).setCell (Or.inl (by simp)) _) (heap_set _ NZ5.out), fun _ => EN.out⟩
                    case rest =>
                      obtain ⟨ek, y, rfl, HE, I, Y⟩ := hcut
                      obtain ⟨wy, hwy⟩ : ∃ x, x = wc := ⟨_, rfl⟩
                      subst hwy
                      go_upto_region 18 with (fail)
                      go_cut [93] from 87 to 92 (fun sc wx => ∃ cb, sc = .bool cb ∧ Hid (cb = ((ek == 0) && f 9)) ∧ wy = wx)
                      case first =>
                        have hand := AND.out 9 (by decide)
                        by_cases he : ek = 0
                        · subst he
                          cases hfk : f 9 with
                          | true =>
                            have hand' : bits .and .u16 (t : Int) 512 = 512 := by rw [hfk] at hand; exact hand
                            have HK := Lib.hid hfk
                            clear hand hfk AND FE HE Y
                            go_wp2_with fail
                            go_meet
                            exact ⟨true, rfl, by show _ = _; rw [HK.out]; rfl, rfl⟩
                          | false =>
                            have hand' : bits .and .u16 (t : Int) 512 = 0 := by rw [hfk] at hand; exact hand
                            have HK := Lib.hid hfk
                            clear hand hfk AND FE HE Y
                            go_wp2_with fail
                            go_meet
                            exact ⟨false, rfl, by show _ = _; rw [HK.out]; rfl, rfl⟩
                        · have heb : (ek == 0) = false := by simpa using he
                          have HB := Lib.hid heb
                          clear hand AND FE HE Y he
                          go_wp2_with fail
                          go_meet
                          exact ⟨false, rfl, by show _ = _; rw [HB.out]; rfl, rfl⟩
                      case rest =>
                        obtain ⟨cb, rfl, HCB, hw⟩ := hcut
                        subst hw
                        go_upto_if 93 with (fail)
                        go_cut [12] from 94 to 102 (fun s12 wx => ∃ e y, s12 = .int .i64 e ∧ Hid (e = firstE r f 10) ∧ Hid (RInv w RF RS RX RZ F28.toArray #[.int .u16 s.ty, .int .u32 s.dev, .int .u8 s.kd, .int .u32 s.vr, .int .u64 s.pa, .int .u32 s.mo, .int .u32 s.atm, .int .u32 s.mt, .int .u64 s.ln, .string s.nm, .string s.ud, .string s.gd, .string s.mu] y wx) ∧ Hid (e = 0 → y = setN (setK s) f n 10))
                        case first =>
                          cases cb with
                          | false =>
                            obtain ⟨zn, yn⟩ := step_no HE.out Y.out HCB.out.symm
                            have ZN := Lib.hid zn
                            have YN := Lib.hid yn
                            clear zn yn AND FE HE Y HCB
                            go_wp2_with fail
                            go_meet
                            exact ⟨ek, y, rfl, ZN, I, YN⟩
                          | true =>
                            obtain ⟨e0, ek1, en1⟩ := step_yes HE.out Y.out HCB.out.symm
                            have EK := Lib.hid ek1
                            have EN := Lib.hid en1
                            subst e0
                            clear ek1 en1 AND FE HE Y HCB
                            have cs := (stat_cells I.out.st).2.2.2.2.2.2.2.2.2.1
                            have CC := Lib.hid (C9.out _ I.out.kept)
                            obtain ⟨z, hz⟩ : ∃ z, r 9 = z := ⟨_, rfl⟩
                            rw [hz] at CC EK
                            clear hz
                            go_wp2_with (first | (refine wpList_lfacts rfl (.tmp 6) rfl RF F28.toArray (by rw [List.size_toArray]; exact HL.out) I.out.fc rfl ?_) | (go_at_call 75; refine CC.out.mono ?_; rintro e w5 ⟨rfl, k5⟩; have I5 := Lib.hid (I.out.pure k5); have NZ5 := Lib.hid I5.out.nz; have ds := (stat_cells I5.out.st).2.2.2.2.2.2.2.2.2.1; have da := (NZ5.out.slot 2).2; have dc : _ = some (Value.string y.name) := (NZ5.out.slot 2).1; clear k5 CC))
                            go_meet
                            exact ⟨z, setK s 9 y, rfl, EK.out.symm, I5.out.moved ((Kept.refl [RX] _).setCell (Or.inl (by simp)) _) (heap_set _ NZ5.out), fun _ => EN.out⟩
                        case rest =>
                          obtain ⟨ek, y, rfl, HE, I, Y⟩ := hcut
                          obtain ⟨wy, hwy⟩ : ∃ x, x = wc := ⟨_, rfl⟩
                          subst hwy
                          go_upto_region 21 with (fail)
                          go_cut [109] from 103 to 108 (fun sc wx => ∃ cb, sc = .bool cb ∧ Hid (cb = ((ek == 0) && f 10)) ∧ wy = wx)
                          case first =>
                            have hand := AND.out 10 (by decide)
                            by_cases he : ek = 0
                            · subst he
                              cases hfk : f 10 with
                              | true =>
                                have hand' : bits .and .u16 (t : Int) 1024 = 1024 := by rw [hfk] at hand; exact hand
                                have HK := Lib.hid hfk
                                clear hand hfk AND FE HE Y
                                go_wp2_with fail
                                go_meet
                                exact ⟨true, rfl, by show _ = _; rw [HK.out]; rfl, rfl⟩
                              | false =>
                                have hand' : bits .and .u16 (t : Int) 1024 = 0 := by rw [hfk] at hand; exact hand
                                have HK := Lib.hid hfk
                                clear hand hfk AND FE HE Y
                                go_wp2_with fail
                                go_meet
                                exact ⟨false, rfl, by show _ = _; rw [HK.out]; rfl, rfl⟩
                            · have heb : (ek == 0) = false := by simpa using he
                              have HB := Lib.hid heb
                              clear hand AND FE HE Y he
                              go_wp2_with fail
                              go_meet
                              exact ⟨false, rfl, by show _ = _; rw [HB.out]; rfl, rfl⟩
                          case rest =>
                            obtain ⟨cb, rfl, HCB, hw⟩ := hcut
                            subst hw
                            go_upto_if 109 with (fail)
                            go_cut [12] from 109 to 109 (fun s12 wx => ∃ e y, s12 = .int .i64 e ∧ Hid (e = firstE r f 11) ∧ Hid (RInv w RF RS RX RZ F28.toArray #[.int .u16 s.ty, .int .u32 s.dev, .int .u8 s.kd, .int .u32 s.vr, .int .u64 s.pa, .int .u32 s.mo, .int .u32 s.atm, .int .u32 s.mt, .int .u64 s.ln, .string s.nm, .string s.ud, .string s.gd, .string s.mu] y wx) ∧ Hid (e = 0 → y = setN (setK s) f n 11))
                            case first =>
                              cases cb with
                              | false =>
                                obtain ⟨zn, yn⟩ := step_no HE.out Y.out HCB.out.symm
                                have ZN := Lib.hid zn
                                have YN := Lib.hid yn
                                clear zn yn AND FE HE Y HCB
                                go_wp2_with fail
                                go_meet
                                exact ⟨ek, y, rfl, ZN, I, YN⟩
                              | true =>
                                obtain ⟨e0, ek1, en1⟩ := step_yes HE.out Y.out HCB.out.symm
                                have EK := Lib.hid ek1
                                have EN := Lib.hid en1
                                subst e0
                                clear ek1 en1 AND FE HE Y HCB
                                go_wp2_with fail
                                go_meet
                                exact ⟨97, y, rfl, by show _ = _; rw [EK.out, W10.out], I, fun h => absurd h (by decide)⟩
                            case rest =>
                              obtain ⟨ek, y, rfl, HE, I, Y⟩ := hcut
                              obtain ⟨wy, hwy⟩ : ∃ x, x = wc := ⟨_, rfl⟩
                              subst hwy
                              go_upto_region 23 with (fail)
                              go_cut [116] from 110 to 115 (fun sc wx => ∃ cb, sc = .bool cb ∧ Hid (cb = ((ek == 0) && f 11)) ∧ wy = wx)
                              case first =>
                                have hand := AND.out 11 (by decide)
                                by_cases he : ek = 0
                                · subst he
                                  cases hfk : f 11 with
                                  | true =>
                                    have hand' : bits .and .u16 (t : Int) 2048 = 2048 := by rw [hfk] at hand; exact hand
                                    have HK := Lib.hid hfk
                                    clear hand hfk AND FE HE Y
                                    go_wp2_with fail
                                    go_meet
                                    exact ⟨true, rfl, by show _ = _; rw [HK.out]; rfl, rfl⟩
                                  | false =>
                                    have hand' : bits .and .u16 (t : Int) 2048 = 0 := by rw [hfk] at hand; exact hand
                                    have HK := Lib.hid hfk
                                    clear hand hfk AND FE HE Y
                                    go_wp2_with fail
                                    go_meet
                                    exact ⟨false, rfl, by show _ = _; rw [HK.out]; rfl, rfl⟩
                                · have heb : (ek == 0) = false := by simpa using he
                                  have HB := Lib.hid heb
                                  clear hand AND FE HE Y he
                                  go_wp2_with fail
                                  go_meet
                                  exact ⟨false, rfl, by show _ = _; rw [HB.out]; rfl, rfl⟩
                              case rest =>
                                obtain ⟨cb, rfl, HCB, hw⟩ := hcut
                                subst hw
                                go_upto_if 116 with (fail)
                                go_cut [12] from 117 to 126 (fun s12 wx => ∃ e y, s12 = .int .i64 e ∧ Hid (e = firstE r f 12) ∧ Hid (RInv w RF RS RX RZ F28.toArray #[.int .u16 s.ty, .int .u32 s.dev, .int .u8 s.kd, .int .u32 s.vr, .int .u64 s.pa, .int .u32 s.mo, .int .u32 s.atm, .int .u32 s.mt, .int .u64 s.ln, .string s.nm, .string s.ud, .string s.gd, .string s.mu] y wx) ∧ Hid (e = 0 → y = setN (setK s) f n 12))
                                case first =>
                                  cases cb with
                                  | false =>
                                    obtain ⟨zn, yn⟩ := step_no HE.out Y.out HCB.out.symm
                                    have ZN := Lib.hid zn
                                    have YN := Lib.hid yn
                                    clear zn yn AND FE HE Y HCB
                                    go_wp2_with fail
                                    go_meet
                                    exact ⟨ek, y, rfl, ZN, I, YN⟩
                                  | true =>
                                    obtain ⟨e0, ek1, en1⟩ := step_yes HE.out Y.out HCB.out.symm
                                    have EK := Lib.hid ek1
                                    have EN := Lib.hid en1
                                    subst e0
                                    clear ek1 en1 AND FE HE Y HCB
                                    have cs := (stat_cells I.out.st).2.2.2.2.2.2.2.2.2.2.2.1
                                    have CC := Lib.hid (C11.out _ I.out.kept)
                                    obtain ⟨z, hz⟩ : ∃ z, r 11 = z := ⟨_, rfl⟩
                                    rw [hz] at CC EK
                                    clear hz
                                    go_wp2_with (first | (refine wpList_nmid (by rfl) (.tmp 119) rfl RF 0 rfl [.int .u64 n.path, .int .u64 n.parent, .string n.name, .int .u32 n.mode, .string n.uid, .string n.gid, .string n.muid, .int .u32 n.atime, .int .u32 n.mtime, .int .u32 n.vers, .int .u64 n.length, .int .i64 n.opens, .int .i64 n.kids] (FN.out _ I.out.fc) rfl ?_) | (go_at_call 76; refine CC.out.mono ?_; rintro e w5 ⟨rfl, k5⟩; have I5 := Lib.hid (I.out.pure k5); have NZ5 := Lib.hid I5.out.nz; have ds := (stat_cells I5.out.st).2.2.2.2.2.2.2.2.2.2.2.1; have da := (NZ5.out.slot 5).2; have dc : _ = some (Value.string y.gid) := (NZ5.out.slot 5).1; clear k5 CC))
                                    go_meet
                                    exact ⟨z, setK s 11 y, rfl, EK.out.symm, I5.out.moved ((Kept.refl [RX] _).setCell (Or.inl (by simp)) _) (heap_set _ NZ5.out), fun _ => EN.out⟩
                                case rest =>
                                  obtain ⟨ek, y, rfl, HE, I, Y⟩ := hcut
                                  obtain ⟨wy, hwy⟩ : ∃ x, x = wc := ⟨_, rfl⟩
                                  subst hwy
                                  go_upto_region 26 with (fail)
                                  go_cut [133] from 127 to 132 (fun sc wx => ∃ cb, sc = .bool cb ∧ Hid (cb = ((ek == 0) && f 12)) ∧ wy = wx)
                                  case first =>
                                    have hand := AND.out 12 (by decide)
                                    by_cases he : ek = 0
                                    · subst he
                                      cases hfk : f 12 with
                                      | true =>
                                        have hand' : bits .and .u16 (t : Int) 4096 = 4096 := by rw [hfk] at hand; exact hand
                                        have HK := Lib.hid hfk
                                        clear hand hfk AND FE HE Y
                                        go_wp2_with fail
                                        go_meet
                                        exact ⟨true, rfl, by show _ = _; rw [HK.out]; rfl, rfl⟩
                                      | false =>
                                        have hand' : bits .and .u16 (t : Int) 4096 = 0 := by rw [hfk] at hand; exact hand
                                        have HK := Lib.hid hfk
                                        clear hand hfk AND FE HE Y
                                        go_wp2_with fail
                                        go_meet
                                        exact ⟨false, rfl, by show _ = _; rw [HK.out]; rfl, rfl⟩
                                    · have heb : (ek == 0) = false := by simpa using he
                                      have HB := Lib.hid heb
                                      clear hand AND FE HE Y he
                                      go_wp2_with fail
                                      go_meet
                                      exact ⟨false, rfl, by show _ = _; rw [HB.out]; rfl, rfl⟩
                                  case rest =>
                                    obtain ⟨cb, rfl, HCB, hw⟩ := hcut
                                    subst hw
                                    go_upto_if 133 with (fail)
                                    go_cut [12] from 133 to 133 (fun s12 wx => ∃ e y, s12 = .int .i64 e ∧ Hid (e = firstE r f 13) ∧ Hid (RInv w RF RS RX RZ F28.toArray #[.int .u16 s.ty, .int .u32 s.dev, .int .u8 s.kd, .int .u32 s.vr, .int .u64 s.pa, .int .u32 s.mo, .int .u32 s.atm, .int .u32 s.mt, .int .u64 s.ln, .string s.nm, .string s.ud, .string s.gd, .string s.mu] y wx) ∧ Hid (e = 0 → y = setN (setK s) f n 13))
                                    case first =>
                                      cases cb with
                                      | false =>
                                        obtain ⟨zn, yn⟩ := step_no HE.out Y.out HCB.out.symm
                                        have ZN := Lib.hid zn
                                        have YN := Lib.hid yn
                                        clear zn yn AND FE HE Y HCB
                                        go_wp2_with fail
                                        go_meet
                                        exact ⟨ek, y, rfl, ZN, I, YN⟩
                                      | true =>
                                        obtain ⟨e0, ek1, en1⟩ := step_yes HE.out Y.out HCB.out.symm
                                        have EK := Lib.hid ek1
                                        have EN := Lib.hid en1
                                        subst e0
                                        clear ek1 en1 AND FE HE Y HCB
                                        go_wp2_with fail
                                        go_meet
                                        exact ⟨97, y, rfl, by show _ = _; rw [EK.out, W12.out], I, fun h => absurd h (by decide)⟩
                                    case rest =>
                                      obtain ⟨ek, y, rfl, HE, I, Y⟩ := hcut
                                      have e1 : E = ek := FE.out.1.trans HE.out.symm
                                      subst e1
                                      have NZ := Lib.hid I.out.nz
                                      have RZB := Lib.hid I.out.res
                                      by_cases he : E = 0
                                      · have eA := FE.out.2.1 he
                                        rw [← Y.out he] at eA
                                        have heb : (E != 0) = false := by simp [he]
                                        clear FE HE Y AND
                                        subst he
                                        subst eA
                                        go_wp2_with (first | (refine wpList_lnode rfl (.tmp 10) rfl RX (wstA y) rfl NZ.out rfl ?_) | (refine wpList_srow8 rfl (.tmp 8) (.tmp 138) rfl RZ rfl _ (wstA y) rfl RZB.out rfl rfl (by simp [wstA, Value.oneCell']) ?_; intro w4 b4 k4))
                                        have hl := run_loadVar_row (P := Tryz.prog) w4 RZ 51 51 _ (0, 0) _ b4 Tryz.underlying51 rfl size_node9
                                        refine bodyPost_ret (v := .tuple #[.agg (wstA y), .int .i64 0]) (by simp [results, Tryz.results24, asAddr, hl]) rfl ⟨rfl, ?_⟩
                                        exact I.out.kept.trans k4 (fun i hi => Or.inr (by rw [List.mem_singleton] at hi; subst hi; exact I.out.far.2.1))
                                      · have eA := FE.out.2.2 he
                                        have heb : (E != 0) = true := by simp [he]
                                        clear FE HE Y AND
                                        subst eA
                                        go_wp2_with (first | (refine wpList_srow8 rfl (.tmp 8) (.tmp 136) rfl RZ rfl _ #[.int .u64 0, .int .u64 0, .string ⟨#[]⟩, .int .u32 0, .string ⟨#[]⟩, .string ⟨#[]⟩, .string ⟨#[]⟩, .int .u32 0, .int .u32 0, .int .u32 0, .int .u64 0, .int .i64 0, .int .i64 0] rfl RZB.out rfl rfl (by simp [Value.oneCell']) ?_; intro w4 b4 k4))
                                        have hl := run_loadVar_row (P := Tryz.prog) w4 RZ 51 51 _ (0, 0) _ b4 Tryz.underlying51 rfl size_node9
                                        refine bodyPost_ret (v := .tuple #[.agg #[.int .u64 0, .int .u64 0, .string ⟨#[]⟩, .int .u32 0, .string ⟨#[]⟩, .string ⟨#[]⟩, .string ⟨#[]⟩, .int .u32 0, .int .u32 0, .int .u32 0, .int .u64 0, .int .i64 0, .int .i64 0], .int .i64 E]) (by simp [results, Tryz.results24, asAddr, hl]) rfl ⟨rfl, ?_⟩
                                        exact I.out.kept.trans k4 (fun i hi => Or.inr (by rw [List.mem_singleton] at hi; subst hi; exact I.out.far.2.1))
end Ru
end Go.Proofs.YtahjmpfjidijaaaGreatDoor
