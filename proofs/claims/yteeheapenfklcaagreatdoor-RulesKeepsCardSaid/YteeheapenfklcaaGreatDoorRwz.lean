/- rules: Wstat walked. -/
import Derived.Test.YteeheapenfklcaaGreatDoorRwv
import Derived.Test.YteeheapenfklcaaGreatDoorRcn
namespace Go.Proofs.YteeheapenfklcaaGreatDoor
set_option linter.unusedVariables false
open Go.RowKit Go.Shelf
attribute [local go_sem] Oper.semAt_some
namespace Ru
open Go.Proofs.YteeheapenfklcaaGreatDoor.Utf Go.Proofs.YteeheapenfklcaaGreatDoor.Txt Go.PlainAid Go.Proofs.YteeheapenfklcaaGreatDoor.Mpf Go.Proofs.YteeheapenfklcaaGreatDoor.Us
theorem size_stat9 : (Tryz.prog.info? 55).map (·.size) = some 13 := by kernel_rfl
theorem size_change9 : (Tryz.prog.info? 100).map (·.size) = some 43 := by kernel_rfl
theorem wpList_lstat {w : World} {ops : Array Oper} {rest : List Oper} {o : Oper} {a : Act} {Q : Exit → Act → World → Prop} (hgd : o.guard = none) (x : Operand) (ho : o.op = .load 55 x) (B : Nat) (V : Array Value) (hs : V.size = 13) (h : w.heap[B]? = some (.cells V 55 (0, 0))) (hx : a.eval x = .pointer (some ⟨B, 0, none⟩))
    (hK : wpList Tryz.prog ops Q rest (a.put o.dst (.agg V)) w) : wpList Tryz.prog ops Q (o :: rest) a w :=
  wpList_plain hgd fun K hK' => wp_load_row 55 x ho B hx 55 _ (0, 0) _ h Tryz.underlying55 rfl (by rw [hs]; exact size_stat9) (hK' _ _ hK)
theorem wpList_lch {w : World} {ops : Array Oper} {rest : List Oper} {o : Oper} {a : Act} {Q : Exit → Act → World → Prop} (hgd : o.guard = none) (x : Operand) (ho : o.op = .load 100 x) (B : Nat) (V : Array Value) (hs : V.size = 43) (h : w.heap[B]? = some (.cells V 100 (0, 0))) (hx : a.eval x = .pointer (some ⟨B, 0, none⟩))
    (hK : wpList Tryz.prog ops Q rest (a.put o.dst (.agg V)) w) : wpList Tryz.prog ops Q (o :: rest) a w :=
  wpList_plain hgd fun K hK' => wp_load_row 100 x ho B hx 100 _ (0, 0) _ h Tryz.underlying100 rfl (by rw [hs]; exact size_change9) (hK' _ _ hK)
theorem any_alloc8 {P : Program} {ops : Array Oper} {Q : Exit → Act → World → Prop} {K : Act → World → Prop} {a : Act} {w w' : World} {o : Oper} {i : Nat} (hi : ops[i]? = some o) (hg : o.guard = none) (v : Value) (hrun : (execOp a.eval o).run P w = .ok (.value v) w') (h : K (a.put o.dst v) w') : wpOp P ops Q i K a w := by
  unfold wpOp
  rw [hi]
  simp only [show Region.wanted o (yielded ops a.tmps) = true by simp [Region.wanted, hg], if_true]
  refine Or.inl ?_
  unfold Oper.wp
  rw [hrun, Oper.upon_value]
  exact h
theorem whole_of {w : World} {B : Nat} {A : Array Value} {t : TypeId} (h : w.heap[B]? = some (.cells A t (0, 0))) : w.rangeAt B 0 A.toList := by
  intro j v hv
  rw [Nat.zero_add, cell_of_row w B j _ _ (0, 0) h]
  simpa using hv
/-- What stands while Wstat goes through the fields. -/
structure WInv (w : World) (RS RZ RC RX TB : Nat) (V SV : Array Value) (x : Nd) (wr : World) : Prop where
  st : wr.heap[RS]? = some (.cells SV 55 (0, 0))
  ch : wr.heap[RC]? = some (.cells V 100 (0, 0))
  nz : Nz wr RX x
  tab : wr.heap[TB]? = some (.cells tabA 108 (0, 0))
  res : wr.heap[RZ]? = some (.cells #[.int .u64 0, .int .u64 0, .string ⟨#[]⟩, .int .u32 0, .string ⟨#[]⟩, .string ⟨#[]⟩, .string ⟨#[]⟩, .int .u32 0, .int .u32 0, .int .u32 0, .int .u64 0, .int .i64 0, .int .i64 0] 46 (0, 0))
  kept : Kept [] w wr
  far : w.heap.size ≤ RX ∧ w.heap.size ≤ RZ ∧ RX ≠ RS ∧ RX ≠ RC ∧ RX ≠ TB ∧ RX ≠ RZ
theorem WInv.pure {w : World} {RS RZ RC RX TB : Nat} {V SV : Array Value} {x : Nd} {wr w' : World} (I : WInv w RS RZ RC RX TB V SV x wr) (k : Kept [] wr w') : WInv w RS RZ RC RX TB V SV x w' :=
  ⟨(k.block _ (block_lt I.st) (by simp)).trans I.st, (k.block _ (block_lt I.ch) (by simp)).trans I.ch, (k.block _ (block_lt I.nz) (by simp)).trans I.nz, (k.block _ (block_lt I.tab) (by simp)).trans I.tab, (k.block _ (block_lt I.res) (by simp)).trans I.res, I.kept.trans k (fun i hi => by cases hi), I.far⟩
theorem WInv.moved {w : World} {RS RZ RC RX TB : Nat} {V SV : Array Value} {x y : Nd} {wr w' : World} (I : WInv w RS RZ RC RX TB V SV x wr) (k : Kept [RX] wr w') (h : Nz w' RX y) : WInv w RS RZ RC RX TB V SV y w' := by
  obtain ⟨f1, f2, f3, f4, f5, f6⟩ := I.far
  refine ⟨(k.block _ (block_lt I.st) (by simp; omega)).trans I.st, (k.block _ (block_lt I.ch) (by simp; omega)).trans I.ch, h, (k.block _ (block_lt I.tab) (by simp; omega)).trans I.tab, (k.block _ (block_lt I.res) (by simp; omega)).trans I.res, I.kept.trans k (fun i hi => ?_), I.far⟩
  rw [List.mem_singleton] at hi
  subst hi
  exact Or.inr f1
set_option maxRecDepth 100000 in
theorem tab_rows {w : World} {TB : Nat} (h : w.heap[TB]? = some (.cells tabA 108 (0, 0))) : (w.cell? ⟨TB, 0, none⟩ = some (.int .u16 1) ∧ w.cell? ⟨TB, 1, none⟩ = some (.func (.func 71) #[] #[]) ∧ w.cell? ⟨TB, 2, none⟩ = some (.func (.func 72) #[] #[])) ∧ (w.cell? ⟨TB, 3, none⟩ = some (.int .u16 2) ∧ w.cell? ⟨TB, 4, none⟩ = some (.func (.func 71) #[] #[]) ∧ w.cell? ⟨TB, 5, none⟩ = some (.func (.func 72) #[] #[])) ∧ (w.cell? ⟨TB, 6, none⟩ = some (.int .u16 4) ∧ w.cell? ⟨TB, 7, none⟩ = some (.func (.func 71) #[] #[]) ∧ w.cell? ⟨TB, 8, none⟩ = some (.func (.func 72) #[] #[])) ∧ (w.cell? ⟨TB, 9, none⟩ = some (.int .u16 8) ∧ w.cell? ⟨TB, 10, none⟩ = some (.func (.func 71) #[] #[]) ∧ w.cell? ⟨TB, 11, none⟩ = some (.func (.func 72) #[] #[])) ∧ (w.cell? ⟨TB, 12, none⟩ = some (.int .u16 16) ∧ w.cell? ⟨TB, 13, none⟩ = some (.func (.func 71) #[] #[]) ∧ w.cell? ⟨TB, 14, none⟩ = some (.func (.func 72) #[] #[])) ∧ (w.cell? ⟨TB, 15, none⟩ = some (.int .u16 32) ∧ w.cell? ⟨TB, 16, none⟩ = some (.func (.func 73) #[] #[]) ∧ w.cell? ⟨TB, 17, none⟩ = some (.func (.func 74) #[] #[])) ∧ (w.cell? ⟨TB, 18, none⟩ = some (.int .u16 64) ∧ w.cell? ⟨TB, 19, none⟩ = some (.func (.func 71) #[] #[]) ∧ w.cell? ⟨TB, 20, none⟩ = some (.func (.func 72) #[] #[])) ∧ (w.cell? ⟨TB, 21, none⟩ = some (.int .u16 128) ∧ w.cell? ⟨TB, 22, none⟩ = some (.func (.func 75) #[] #[]) ∧ w.cell? ⟨TB, 23, none⟩ = some (.func (.func 76) #[] #[])) ∧ (w.cell? ⟨TB, 24, none⟩ = some (.int .u16 256) ∧ w.cell? ⟨TB, 25, none⟩ = some (.func (.func 77) #[] #[]) ∧ w.cell? ⟨TB, 26, none⟩ = some (.func (.func 78) #[] #[])) ∧ (w.cell? ⟨TB, 27, none⟩ = some (.int .u16 512) ∧ w.cell? ⟨TB, 28, none⟩ = some (.func (.func 79) #[] #[]) ∧ w.cell? ⟨TB, 29, none⟩ = some (.func (.func 80) #[] #[])) ∧ (w.cell? ⟨TB, 30, none⟩ = some (.int .u16 1024) ∧ w.cell? ⟨TB, 31, none⟩ = some (.func (.func 71) #[] #[]) ∧ w.cell? ⟨TB, 32, none⟩ = some (.func (.func 72) #[] #[])) ∧ (w.cell? ⟨TB, 33, none⟩ = some (.int .u16 2048) ∧ w.cell? ⟨TB, 34, none⟩ = some (.func (.func 81) #[] #[]) ∧ w.cell? ⟨TB, 35, none⟩ = some (.func (.func 82) #[] #[])) ∧ (w.cell? ⟨TB, 36, none⟩ = some (.int .u16 4096) ∧ w.cell? ⟨TB, 37, none⟩ = some (.func (.func 71) #[] #[]) ∧ w.cell? ⟨TB, 38, none⟩ = some (.func (.func 72) #[] #[])) := by
  refine ⟨⟨?_, ?_, ?_⟩, ⟨?_, ?_, ?_⟩, ⟨?_, ?_, ?_⟩, ⟨?_, ?_, ?_⟩, ⟨?_, ?_, ?_⟩, ⟨?_, ?_, ?_⟩, ⟨?_, ?_, ?_⟩, ⟨?_, ?_, ?_⟩, ⟨?_, ?_, ?_⟩, ⟨?_, ?_, ?_⟩, ⟨?_, ?_, ?_⟩, ⟨?_, ?_, ?_⟩, ⟨?_, ?_, ?_⟩⟩ <;> (rw [cell_of_row w TB _ _ _ (0, 0) h]; rfl)
set_option maxHeartbeats 32000000 in
set_option maxRecDepth 100000 in
theorem Wstat_any {w : World} {B q : Nat} {T : List Acc} (h : Tb w B q T) (hT : T.length ≤ 1048576) (u : ByteArray) (n p : Nd) (tk fl : Bool) (s : Wn) (hu : u.size ≤ maxLen) (hg : n.gid.size ≤ maxLen) (hg2 : p.gid.size ≤ maxLen) (hnm : s.nm.size ≤ 140737488355328) (hgd : s.gd.size ≤ maxLen) (hm : n.mode < 4294967296) :
    Calls Tryz.prog 17 #[.pointer (some ⟨q, 0, none⟩), .string u, .agg #[.int .u64 n.path, .int .u64 n.parent, .string n.name, .int .u32 n.mode, .string n.uid, .string n.gid, .string n.muid, .int .u32 n.atime, .int .u32 n.mtime, .int .u32 n.vers, .int .u64 n.length, .int .i64 n.opens, .int .i64 n.kids, .int .u64 p.path, .int .u64 p.parent, .string p.name, .int .u32 p.mode, .string p.uid, .string p.gid, .string p.muid, .int .u32 p.atime, .int .u32 p.mtime, .int .u32 p.vers, .int .u64 p.length, .int .i64 p.opens, .int .i64 p.kids, .bool tk, .bool fl], .agg #[.int .u16 s.ty, .int .u32 s.dev, .int .u8 s.kd, .int .u32 s.vr, .int .u64 s.pa, .int .u32 s.mo, .int .u32 s.atm, .int .u32 s.mt, .int .u64 s.ln, .string s.nm, .string s.ud, .string s.gd, .string s.mu]] w fun e w' => e = .returned (.tuple #[.agg (wstA (wstN T u n p tk s)), .int .i64 (wstE T u n p tk s)]) ∧ Kept [] w w' := by
  have AS : Hid (∀ w, Calls Tryz.prog 39 #[.pointer (some ⟨q, 0, none⟩), .string u] w fun e w' => e = .returned (.agg #[.pointer (some ⟨q, 0, none⟩), .string u]) ∧ Kept [] w w') := fun w => asks_any w q u
  have RE : Hid (∀ w', Calls Tryz.prog 18 #[.agg #[.int .u64 n.path, .int .u64 n.parent, .string n.name, .int .u32 n.mode, .string n.uid, .string n.gid, .string n.muid, .int .u32 n.atime, .int .u32 n.mtime, .int .u32 n.vers, .int .u64 n.length, .int .i64 n.opens, .int .i64 n.kids]] w' fun e w'' => e = .returned (.agg (recR n).cells) ∧ Kept [] w' w'') := fun w' => by rw [← recR_cells]; exact Record_any w' n hm
  have TO : Hid (∀ w', Calls Tryz.prog 40 #[.agg #[.int .u16 s.ty, .int .u32 s.dev, .int .u8 s.kd, .int .u32 s.vr, .int .u64 s.pa, .int .u32 s.mo, .int .u32 s.atm, .int .u32 s.mt, .int .u64 s.ln, .string s.nm, .string s.ud, .string s.gd, .string s.mu], .agg (recR n).cells] w' fun e w'' => e = .returned (.int .u16 (tb (tkn s n) 13 : Nat)) ∧ Kept [] w' w'') := fun w' => Stt.touched_any w' s.rc (recR n)
  have C5 : Hid (∀ w', Kept [] w w' → Calls Tryz.prog 73 #[.agg (chA q u n p tk fl s)] w' fun e w'' => e = .returned (.int .i64 (rMode T u n s.mo)) ∧ Kept [] w' w'') := fun w' k => refMode_any (h.kept k) hT u n p tk fl s hu hg hg2 hnm hgd
  have C7 : Hid (∀ w', Kept [] w w' → Calls Tryz.prog 75 #[.agg (chA q u n p tk fl s)] w' fun e w'' => e = .returned (.int .i64 (rMtime T u n)) ∧ Kept [] w' w'') := fun w' k => refMtime_any (h.kept k) hT u n p tk fl s hu hg hg2 hnm hgd
  have C8 : Hid (∀ w', Kept [] w w' → Calls Tryz.prog 77 #[.agg (chA q u n p tk fl s)] w' fun e w'' => e = .returned (.int .i64 (rLength T u n s.ln)) ∧ Kept [] w' w'') := fun w' k => refLength_any (h.kept k) hT u n p tk fl s hu hg hg2 hnm hgd
  have C9 : Hid (∀ w', Kept [] w w' → Calls Tryz.prog 79 #[.agg (chA q u n p tk fl s)] w' fun e w'' => e = .returned (.int .i64 (rName T u n p tk s.nm)) ∧ Kept [] w' w'') := fun w' k => refName_any (h.kept k) hT u n p tk fl s hu hg hg2 hnm hgd
  have C11 : Hid (∀ w', Kept [] w w' → Calls Tryz.prog 81 #[.agg (chA q u n p tk fl s)] w' fun e w'' => e = .returned (.int .i64 (rGid T u n s.gd)) ∧ Kept [] w' w'') := fun w' k => refGid_any (h.kept k) hT u n p tk fl s hu hg hg2 hnm hgd
  obtain ⟨V, hV⟩ : ∃ V, V = chA q u n p tk fl s := ⟨_, rfl⟩
  have HV := Lib.hid hV
  have HVS : Hid (V.size = 43) := by rw [hV]; rfl
  rw [← hV] at C5 C7 C8 C9 C11
  obtain ⟨HR0, hHR0⟩ : ∃ A, A = (recR n).cells := ⟨_, rfl⟩
  rw [← hHR0] at RE TO
  obtain ⟨f, hf⟩ : ∃ f, f = tkn s n := ⟨_, rfl⟩
  obtain ⟨r, hr⟩ : ∃ r, r = whyNot T u n p tk s := ⟨_, rfl⟩
  have W5 : Hid (r 5 = rMode T u n s.mo) := by rw [hr]; rfl
  have W7 : Hid (r 7 = rMtime T u n) := by rw [hr]; rfl
  have W8 : Hid (r 8 = rLength T u n s.ln) := by rw [hr]; rfl
  have W9 : Hid (r 9 = rName T u n p tk s.nm) := by rw [hr]; rfl
  have W11 : Hid (r 11 = rGid T u n s.gd) := by rw [hr]; rfl
  have W0 : Hid (r 0 = 97) := by rw [hr]; rfl
  have W1 : Hid (r 1 = 97) := by rw [hr]; rfl
  have W2 : Hid (r 2 = 97) := by rw [hr]; rfl
  have W3 : Hid (r 3 = 97) := by rw [hr]; rfl
  have W4 : Hid (r 4 = 97) := by rw [hr]; rfl
  have W6 : Hid (r 6 = 97) := by rw [hr]; rfl
  have W10 : Hid (r 10 = 97) := by rw [hr]; rfl
  have W12 : Hid (r 12 = 97) := by rw [hr]; rfl
  rw [← W5.out] at C5
  rw [← W7.out] at C7
  rw [← W8.out] at C8
  rw [← W9.out] at C9
  rw [← W11.out] at C11
  clear W5 W7 W8 W9 W11
  obtain ⟨E, hE⟩ : ∃ E, E = wstE T u n p tk s := ⟨_, rfl⟩
  obtain ⟨A, hA⟩ : ∃ A, A = wstA (wstN T u n p tk s) := ⟨_, rfl⟩
  have FB : Hid (∀ k z, k < 13 → firstE r f k = 0 → f k = true → r k = z → z ≠ 0 → E = z ∧ A = #[.int .u64 0, .int .u64 0, .string ⟨#[]⟩, .int .u32 0, .string ⟨#[]⟩, .string ⟨#[]⟩, .string ⟨#[]⟩, .int .u32 0, .int .u32 0, .int .u32 0, .int .u64 0, .int .i64 0, .int .i64 0]) := fun k z hk h0 hf' hz hz0 => by
    have e1 : E = z := by
      rw [hE, ← hz]
      unfold wstE
      rw [← hr, ← hf]
      exact firstE_at h0 hf' (by rw [hz]; exact hz0) hk
    refine ⟨e1, ?_⟩
    rw [hA]
    unfold wstN
    rw [← hE, if_neg (by rw [e1]; exact hz0)]
    rfl
  have FE : Hid (firstE r f 13 = 0 → E = 0 ∧ A = wstA (setN (setK s) f n 13)) := fun h0 => by
    have e1 : E = 0 := by
      rw [hE]
      unfold wstE
      rw [← hr, ← hf]
      exact h0
    refine ⟨e1, ?_⟩
    rw [hA]
    unfold wstN
    rw [← hE, if_pos e1, hf]
  rw [← hE, ← hA]
  rw [← hf] at TO
  obtain ⟨t, ht⟩ : ∃ t, t = tb f 13 := ⟨_, rfl⟩
  have AND : Hid (∀ k, k < 13 → bits .and .u16 (t : Int) ((2 ^ k : Nat) : Int) = ((if f k then 2 ^ k else 0 : Nat) : Int)) := fun k hk => by rw [ht]; exact and_bit f k hk
  rw [← ht] at TO
  clear ht hf hr hE hA h hT hu hg hg2 hnm hgd hm hHR0
  obtain ⟨w1, hw1⟩ : ∃ w1, w1 = ((w.alloc (.cells #[.int .u64 n.path, .int .u64 n.parent, .string n.name, .int .u32 n.mode, .string n.uid, .string n.gid, .string n.muid, .int .u32 n.atime, .int .u32 n.mtime, .int .u32 n.vers, .int .u64 n.length, .int .i64 n.opens, .int .i64 n.kids, .int .u64 p.path, .int .u64 p.parent, .string p.name, .int .u32 p.mode, .string p.uid, .string p.gid, .string p.muid, .int .u32 p.atime, .int .u32 p.mtime, .int .u32 p.vers, .int .u64 p.length, .int .i64 p.opens, .int .i64 p.kids, .bool tk, .bool fl] 48)).alloc (.cells #[.int .u16 s.ty, .int .u32 s.dev, .int .u8 s.kd, .int .u32 s.vr, .int .u64 s.pa, .int .u32 s.mo, .int .u32 s.atm, .int .u32 s.mt, .int .u64 s.ln, .string s.nm, .string s.ud, .string s.gd, .string s.mu] 55)).alloc (.cells #[.int .u64 0, .int .u64 0, .string ⟨#[]⟩, .int .u32 0, .string ⟨#[]⟩, .string ⟨#[]⟩, .string ⟨#[]⟩, .int .u32 0, .int .u32 0, .int .u32 0, .int .u64 0, .int .i64 0, .int .i64 0] 46) := ⟨_, rfl⟩
  obtain ⟨RF, hRF⟩ : ∃ R, R = w.heap.size := ⟨_, rfl⟩
  obtain ⟨RS, hRS⟩ : ∃ R, R = w.heap.size + 1 := ⟨_, rfl⟩
  obtain ⟨RZ, hRZ⟩ : ∃ R, R = w.heap.size + 1 + 1 := ⟨_, rfl⟩
  have bF : w1.heap[RF]? = some (.cells #[.int .u64 n.path, .int .u64 n.parent, .string n.name, .int .u32 n.mode, .string n.uid, .string n.gid, .string n.muid, .int .u32 n.atime, .int .u32 n.mtime, .int .u32 n.vers, .int .u64 n.length, .int .i64 n.opens, .int .i64 n.kids, .int .u64 p.path, .int .u64 p.parent, .string p.name, .int .u32 p.mode, .string p.uid, .string p.gid, .string p.muid, .int .u32 p.atime, .int .u32 p.mtime, .int .u32 p.vers, .int .u64 p.length, .int .i64 p.opens, .int .i64 p.kids, .bool tk, .bool fl] 48 (0, 0)) := by
    rw [hw1, hRF]
    exact (Below.heap_alloc _ _ _ (by simp; omega)).trans ((Below.heap_alloc _ _ _ (by simp)).trans (MapKept.heap_alloc w _).1)
  have bS : w1.heap[RS]? = some (.cells #[.int .u16 s.ty, .int .u32 s.dev, .int .u8 s.kd, .int .u32 s.vr, .int .u64 s.pa, .int .u32 s.mo, .int .u32 s.atm, .int .u32 s.mt, .int .u64 s.ln, .string s.nm, .string s.ud, .string s.gd, .string s.mu] 55 (0, 0)) := by
    rw [hw1, hRS]
    exact al_1 w _ _ _ _
  have bZ : w1.heap[RZ]? = some (.cells #[.int .u64 0, .int .u64 0, .string ⟨#[]⟩, .int .u32 0, .string ⟨#[]⟩, .string ⟨#[]⟩, .string ⟨#[]⟩, .int .u32 0, .int .u32 0, .int .u32 0, .int .u64 0, .int .i64 0, .int .i64 0] 46 (0, 0)) := by
    rw [hw1, hRZ]
    exact al_2 w _ _ _ _
  have K1 : Hid (Kept [] w w1) := by rw [hw1]; exact (((Kept.refl _ _).alloc _).alloc _).alloc _
  have S1 : Hid (w1.heap.size = w.heap.size + 3) := by show _ = _; rw [hw1]; simp
  have ORD : Hid (w.heap.size ≤ RF ∧ RF < w1.heap.size ∧ w.heap.size ≤ RS ∧ RS < w1.heap.size ∧ w.heap.size ≤ RZ ∧ RZ < w1.heap.size) := by have := S1.out; show _ ∧ _; omega
  have HW1 := Lib.hid hw1
  have HRF := Lib.hid hRF
  have HRS := Lib.hid hRS
  have HRZ := Lib.hid hRZ
  obtain ⟨F28, hF28⟩ : ∃ F : List Value, F = [.int .u64 n.path, .int .u64 n.parent, .string n.name, .int .u32 n.mode, .string n.uid, .string n.gid, .string n.muid, .int .u32 n.atime, .int .u32 n.mtime, .int .u32 n.vers, .int .u64 n.length, .int .i64 n.opens, .int .i64 n.kids, .int .u64 p.path, .int .u64 p.parent, .string p.name, .int .u32 p.mode, .string p.uid, .string p.gid, .string p.muid, .int .u32 p.atime, .int .u32 p.mtime, .int .u32 p.vers, .int .u64 p.length, .int .i64 p.opens, .int .i64 p.kids, .bool tk, .bool fl] := ⟨_, rfl⟩
  have HL : Hid (F28.length = 28) := by rw [hF28]; rfl
  have HF28 := Lib.hid hF28
  have BF : Hid (∀ wr : World, Kept [] w1 wr → wr.heap[RF]? = some (.cells F28.toArray 48 (0, 0)) ∧ wr.heap[RS]? = some (.cells #[.int .u16 s.ty, .int .u32 s.dev, .int .u8 s.kd, .int .u32 s.vr, .int .u64 s.pa, .int .u32 s.mo, .int .u32 s.atm, .int .u32 s.mt, .int .u64 s.ln, .string s.nm, .string s.ud, .string s.gd, .string s.mu] 55 (0, 0)) ∧ wr.heap[RZ]? = some (.cells #[.int .u64 0, .int .u64 0, .string ⟨#[]⟩, .int .u32 0, .string ⟨#[]⟩, .string ⟨#[]⟩, .string ⟨#[]⟩, .int .u32 0, .int .u32 0, .int .u32 0, .int .u64 0, .int .i64 0, .int .i64 0] 46 (0, 0))) := fun wr k => by
    rw [hF28]
    exact ⟨(k.block _ (block_lt bF) (by simp)).trans bF, (k.block _ (block_lt bS) (by simp)).trans bS, (k.block _ (block_lt bZ) (by simp)).trans bZ⟩
  have FN : Hid (∀ wr : World, wr.heap[RF]? = some (.cells F28.toArray 48 (0, 0)) → wr.rangeAt RF 0 [.int .u64 n.path, .int .u64 n.parent, .string n.name, .int .u32 n.mode, .string n.uid, .string n.gid, .string n.muid, .int .u32 n.atime, .int .u32 n.mtime, .int .u32 n.vers, .int .u64 n.length, .int .i64 n.opens, .int .i64 n.kids]) := fun wr b => by
    rw [hF28] at b
    intro j v hv
    rw [Nat.zero_add, cell_of_row wr RF j _ _ (0, 0) b]
    have hj : j < 13 := by
      have := (List.getElem?_eq_some_iff.1 hv).1
      simpa using this
    rcases (by omega : j = 0 ∨ j = 1 ∨ j = 2 ∨ j = 3 ∨ j = 4 ∨ j = 5 ∨ j = 6 ∨ j = 7 ∨ j = 8 ∨ j = 9 ∨ j = 10 ∨ j = 11 ∨ j = 12) with rfl | rfl | rfl | rfl | rfl | rfl | rfl | rfl | rfl | rfl | rfl | rfl | rfl <;> exact hv
  clear hw1 hRF hRS hRZ bF bS bZ hF28 hV
  go_enter Tryz.func17, Tryz.ntmps17
  go_wp2_with fail
  rw [← HW1.out, ← HRZ.out, ← HRS.out, ← HRF.out]
  go_upto_region 1 with (fail)
  go_cut [10] from 16 to 21 (fun s10 wx => ∃ RC, s10 = .pointer (some ⟨RC, 0, none⟩) ∧ Hid (wx.heap[RC]? = some (.cells V 100 (0, 0)) ∧ Kept [] w1 wx ∧ w1.heap.size ≤ RC))
  case first =>
    have KD : Hid (Kept [] w1 w1.drew) := (Kept.refl [] w1).drew
    have hb : (w1.drew).heap[RF]? = some (.cells F28.toArray 48 (0, 0)) ∧ (w1.drew).heap[RS]? = some (.cells #[.int .u16 s.ty, .int .u32 s.dev, .int .u8 s.kd, .int .u32 s.vr, .int .u64 s.pa, .int .u32 s.mo, .int .u32 s.atm, .int .u32 s.mt, .int .u64 s.ln, .string s.nm, .string s.ud, .string s.gd, .string s.mu] 55 (0, 0)) := ⟨(BF.out _ KD.out).1, (BF.out _ KD.out).2.1⟩
    refine wp_region_held (S := fun w' => w'.heap[RF]? = some (.cells F28.toArray 48 (0, 0)) ∧ w'.heap[RS]? = some (.cells #[.int .u16 s.ty, .int .u32 s.dev, .int .u8 s.kd, .int .u32 s.vr, .int .u64 s.pa, .int .u32 s.mo, .int .u32 s.atm, .int .u32 s.mt, .int .u64 s.ln, .string s.nm, .string s.ud, .string s.gd, .string s.mu] 55 (0, 0))) (by kernel_rfl) ?_
    try (change wpAnyH _ _ _ _ _ _ _ _ (World.drew _))
    refine wpAnyH_take (i := 0) (v := .pointer (some ⟨q, 0, none⟩)) rfl (by kernel_rfl) (by kernel_rfl) (by kernel_rfl) (fun _ _ _ h => h) (Or.inl ⟨by rfl, fun w _ => by simp [execOp, go_sem]⟩) hb ?_
    refine wpAnyH_take (i := 1) (v := .string u) rfl (by kernel_rfl) (by kernel_rfl) (by kernel_rfl) (fun _ _ _ h => h) (Or.inl ⟨by rfl, fun w _ => by simp [execOp, go_sem]⟩) hb ?_
    refine wpAnyH_take (i := 3) (v := .agg F28.toArray) rfl (by kernel_rfl) (by kernel_rfl) (by kernel_rfl) (fun _ _ _ h => h) (yieldsIf_load_mid (by rfl) 48 (.tmp 6) rfl RF 0 (by simp [go_sem]) F28 _ (fun w b => by have := whole_of b.1; simpa using this) Tryz.underlying48 rfl (by rw [HL.out]; exact size_facts8)) hb ?_
    refine wpAnyH_take (i := 4) (v := .agg #[.int .u16 s.ty, .int .u32 s.dev, .int .u8 s.kd, .int .u32 s.vr, .int .u64 s.pa, .int .u32 s.mo, .int .u32 s.atm, .int .u32 s.mt, .int .u64 s.ln, .string s.nm, .string s.ud, .string s.gd, .string s.mu]) rfl (by kernel_rfl) (by kernel_rfl) (by kernel_rfl) (fun _ _ _ h => h) (yieldsIf_load_mid (by rfl) 55 (.tmp 7) rfl RS 0 (by simp [go_sem]) [.int .u16 s.ty, .int .u32 s.dev, .int .u8 s.kd, .int .u32 s.vr, .int .u64 s.pa, .int .u32 s.mo, .int .u32 s.atm, .int .u32 s.mt, .int .u64 s.ln, .string s.nm, .string s.ud, .string s.gd, .string s.mu] _ (fun w b => whole_of b.2) Tryz.underlying55 rfl size_stat9) hb ?_
    refine wpAnyH_all (rs := [2, 6]) (by kernel_rfl) (by simp) ?_
    intro j hj
    simp only [List.mem_cons, List.not_mem_nil, or_false] at hj
    rcases hj with rfl | rfl
    · refine any_callR rfl rfl 39 #[.pointer (some ⟨q, 0, none⟩), .string u] (by simp [go_sem]) (AS.out _) ?_
      rintro e w2 ⟨rfl, k2⟩
      have K2 : Kept [] w1 w2 := KD.out.trans k2 (fun i hi => by cases hi)
      have K3 : Kept [] w1 (w2.alloc (.cells #[.pointer none, .string ⟨#[]⟩, .int .u64 0, .int .u64 0, .string ⟨#[]⟩, .int .u32 0, .string ⟨#[]⟩, .string ⟨#[]⟩, .string ⟨#[]⟩, .int .u32 0, .int .u32 0, .int .u32 0, .int .u64 0, .int .i64 0, .int .i64 0, .int .u64 0, .int .u64 0, .string ⟨#[]⟩, .int .u32 0, .string ⟨#[]⟩, .string ⟨#[]⟩, .string ⟨#[]⟩, .int .u32 0, .int .u32 0, .int .u32 0, .int .u64 0, .int .i64 0, .int .i64 0, .bool false, .bool false, .int .u16 0, .int .u32 0, .int .u8 0, .int .u32 0, .int .u64 0, .int .u32 0, .int .u32 0, .int .u32 0, .int .u64 0, .string ⟨#[]⟩, .string ⟨#[]⟩, .string ⟨#[]⟩, .string ⟨#[]⟩] 100)) := K2.alloc _
      have hb2 : w2.heap[RF]? = some (.cells F28.toArray 48 (0, 0)) ∧ w2.heap[RS]? = some (.cells #[.int .u16 s.ty, .int .u32 s.dev, .int .u8 s.kd, .int .u32 s.vr, .int .u64 s.pa, .int .u32 s.mo, .int .u32 s.atm, .int .u32 s.mt, .int .u64 s.ln, .string s.nm, .string s.ud, .string s.gd, .string s.mu] 55 (0, 0)) := ⟨(BF.out _ K2).1, (BF.out _ K2).2.1⟩
      have hb3 : (w2.alloc (.cells #[.pointer none, .string ⟨#[]⟩, .int .u64 0, .int .u64 0, .string ⟨#[]⟩, .int .u32 0, .string ⟨#[]⟩, .string ⟨#[]⟩, .string ⟨#[]⟩, .int .u32 0, .int .u32 0, .int .u32 0, .int .u64 0, .int .i64 0, .int .i64 0, .int .u64 0, .int .u64 0, .string ⟨#[]⟩, .int .u32 0, .string ⟨#[]⟩, .string ⟨#[]⟩, .string ⟨#[]⟩, .int .u32 0, .int .u32 0, .int .u32 0, .int .u64 0, .int .i64 0, .int .i64 0, .bool false, .bool false, .int .u16 0, .int .u32 0, .int .u8 0, .int .u32 0, .int .u64 0, .int .u32 0, .int .u32 0, .int .u32 0, .int .u64 0, .string ⟨#[]⟩, .string ⟨#[]⟩, .string ⟨#[]⟩, .string ⟨#[]⟩] 100)).heap[RF]? = some (.cells F28.toArray 48 (0, 0)) ∧ (w2.alloc (.cells #[.pointer none, .string ⟨#[]⟩, .int .u64 0, .int .u64 0, .string ⟨#[]⟩, .int .u32 0, .string ⟨#[]⟩, .string ⟨#[]⟩, .string ⟨#[]⟩, .int .u32 0, .int .u32 0, .int .u32 0, .int .u64 0, .int .i64 0, .int .i64 0, .int .u64 0, .int .u64 0, .string ⟨#[]⟩, .int .u32 0, .string ⟨#[]⟩, .string ⟨#[]⟩, .string ⟨#[]⟩, .int .u32 0, .int .u32 0, .int .u32 0, .int .u64 0, .int .i64 0, .int .i64 0, .bool false, .bool false, .int .u16 0, .int .u32 0, .int .u8 0, .int .u32 0, .int .u64 0, .int .u32 0, .int .u32 0, .int .u32 0, .int .u64 0, .string ⟨#[]⟩, .string ⟨#[]⟩, .string ⟨#[]⟩, .string ⟨#[]⟩] 100)).heap[RS]? = some (.cells #[.int .u16 s.ty, .int .u32 s.dev, .int .u8 s.kd, .int .u32 s.vr, .int .u64 s.pa, .int .u32 s.mo, .int .u32 s.atm, .int .u32 s.mt, .int .u64 s.ln, .string s.nm, .string s.ud, .string s.gd, .string s.mu] 55 (0, 0)) := ⟨(BF.out _ K3).1, (BF.out _ K3).2.1⟩
      refine ⟨_, rfl, hb2, ?_⟩
      refine wpAnyH_take (i := 5) (v := .agg V) rfl (by kernel_rfl) (by kernel_rfl) (by kernel_rfl) (fun _ _ _ h => h) (Or.inl ⟨by rfl, fun w _ => by rw [HV.out, HF28.out]; simp [execOp, go_sem, chA]⟩) hb2 ?_
      refine wpAnyH_one (i := 6) (by kernel_rfl) ?_
      refine any_alloc8 (w' := w2.alloc (.cells #[.pointer none, .string ⟨#[]⟩, .int .u64 0, .int .u64 0, .string ⟨#[]⟩, .int .u32 0, .string ⟨#[]⟩, .string ⟨#[]⟩, .string ⟨#[]⟩, .int .u32 0, .int .u32 0, .int .u32 0, .int .u64 0, .int .i64 0, .int .i64 0, .int .u64 0, .int .u64 0, .string ⟨#[]⟩, .int .u32 0, .string ⟨#[]⟩, .string ⟨#[]⟩, .string ⟨#[]⟩, .int .u32 0, .int .u32 0, .int .u32 0, .int .u64 0, .int .i64 0, .int .i64 0, .bool false, .bool false, .int .u16 0, .int .u32 0, .int .u8 0, .int .u32 0, .int .u64 0, .int .u32 0, .int .u32 0, .int .u32 0, .int .u64 0, .string ⟨#[]⟩, .string ⟨#[]⟩, .string ⟨#[]⟩, .string ⟨#[]⟩] 100)) rfl rfl (.pointer (some ⟨w2.heap.size, 0, none⟩)) (by simp [execOp, go_sem]) ⟨hb3, ?_⟩
      have bn : (w2.alloc (.cells #[.pointer none, .string ⟨#[]⟩, .int .u64 0, .int .u64 0, .string ⟨#[]⟩, .int .u32 0, .string ⟨#[]⟩, .string ⟨#[]⟩, .string ⟨#[]⟩, .int .u32 0, .int .u32 0, .int .u32 0, .int .u64 0, .int .i64 0, .int .i64 0, .int .u64 0, .int .u64 0, .string ⟨#[]⟩, .int .u32 0, .string ⟨#[]⟩, .string ⟨#[]⟩, .string ⟨#[]⟩, .int .u32 0, .int .u32 0, .int .u32 0, .int .u64 0, .int .i64 0, .int .i64 0, .bool false, .bool false, .int .u16 0, .int .u32 0, .int .u8 0, .int .u32 0, .int .u64 0, .int .u32 0, .int .u32 0, .int .u32 0, .int .u64 0, .string ⟨#[]⟩, .string ⟨#[]⟩, .string ⟨#[]⟩, .string ⟨#[]⟩] 100)).heap[w2.heap.size]? = some (.cells #[.pointer none, .string ⟨#[]⟩, .int .u64 0, .int .u64 0, .string ⟨#[]⟩, .int .u32 0, .string ⟨#[]⟩, .string ⟨#[]⟩, .string ⟨#[]⟩, .int .u32 0, .int .u32 0, .int .u32 0, .int .u64 0, .int .i64 0, .int .i64 0, .int .u64 0, .int .u64 0, .string ⟨#[]⟩, .int .u32 0, .string ⟨#[]⟩, .string ⟨#[]⟩, .string ⟨#[]⟩, .int .u32 0, .int .u32 0, .int .u32 0, .int .u64 0, .int .i64 0, .int .i64 0, .bool false, .bool false, .int .u16 0, .int .u32 0, .int .u8 0, .int .u32 0, .int .u64 0, .int .u32 0, .int .u32 0, .int .u32 0, .int .u64 0, .string ⟨#[]⟩, .string ⟨#[]⟩, .string ⟨#[]⟩, .string ⟨#[]⟩] 100 (0, 0)) := (MapKept.heap_alloc w2 _).1
      have k4 : Kept [w2.heap.size] (w2.alloc (.cells #[.pointer none, .string ⟨#[]⟩, .int .u64 0, .int .u64 0, .string ⟨#[]⟩, .int .u32 0, .string ⟨#[]⟩, .string ⟨#[]⟩, .string ⟨#[]⟩, .int .u32 0, .int .u32 0, .int .u32 0, .int .u64 0, .int .i64 0, .int .i64 0, .int .u64 0, .int .u64 0, .string ⟨#[]⟩, .int .u32 0, .string ⟨#[]⟩, .string ⟨#[]⟩, .string ⟨#[]⟩, .int .u32 0, .int .u32 0, .int .u32 0, .int .u64 0, .int .i64 0, .int .i64 0, .bool false, .bool false, .int .u16 0, .int .u32 0, .int .u8 0, .int .u32 0, .int .u64 0, .int .u32 0, .int .u32 0, .int .u32 0, .int .u64 0, .string ⟨#[]⟩, .string ⟨#[]⟩, .string ⟨#[]⟩, .string ⟨#[]⟩] 100)) ((w2.alloc (.cells #[.pointer none, .string ⟨#[]⟩, .int .u64 0, .int .u64 0, .string ⟨#[]⟩, .int .u32 0, .string ⟨#[]⟩, .string ⟨#[]⟩, .string ⟨#[]⟩, .int .u32 0, .int .u32 0, .int .u32 0, .int .u64 0, .int .i64 0, .int .i64 0, .int .u64 0, .int .u64 0, .string ⟨#[]⟩, .int .u32 0, .string ⟨#[]⟩, .string ⟨#[]⟩, .string ⟨#[]⟩, .int .u32 0, .int .u32 0, .int .u32 0, .int .u64 0, .int .i64 0, .int .i64 0, .bool false, .bool false, .int .u16 0, .int .u32 0, .int .u8 0, .int .u32 0, .int .u64 0, .int .u32 0, .int .u32 0, .int .u32 0, .int .u64 0, .string ⟨#[]⟩, .string ⟨#[]⟩, .string ⟨#[]⟩, .string ⟨#[]⟩] 100)).setRow w2.heap.size V) := ⟨rfl, rfl, rfl, by simp [World.setRow], fun k _ hk => setRow_other _ _ k _ (by simpa using hk)⟩
      have K4 : Kept [] w1 ((w2.alloc (.cells #[.pointer none, .string ⟨#[]⟩, .int .u64 0, .int .u64 0, .string ⟨#[]⟩, .int .u32 0, .string ⟨#[]⟩, .string ⟨#[]⟩, .string ⟨#[]⟩, .int .u32 0, .int .u32 0, .int .u32 0, .int .u64 0, .int .i64 0, .int .i64 0, .int .u64 0, .int .u64 0, .string ⟨#[]⟩, .int .u32 0, .string ⟨#[]⟩, .string ⟨#[]⟩, .string ⟨#[]⟩, .int .u32 0, .int .u32 0, .int .u32 0, .int .u64 0, .int .i64 0, .int .i64 0, .bool false, .bool false, .int .u16 0, .int .u32 0, .int .u8 0, .int .u32 0, .int .u64 0, .int .u32 0, .int .u32 0, .int .u32 0, .int .u64 0, .string ⟨#[]⟩, .string ⟨#[]⟩, .string ⟨#[]⟩, .string ⟨#[]⟩] 100)).setRow w2.heap.size V) := K3.trans k4 (fun i hi => Or.inr (by rw [List.mem_singleton] at hi; subst hi; exact K2.size))
      refine wpAnyH_one (i := 7) (by kernel_rfl) ?_
      refine any_store8 rfl rfl 100 (.tmp 10) (.tmp 21) w2.heap.size V 100 #[.pointer none, .string ⟨#[]⟩, .int .u64 0, .int .u64 0, .string ⟨#[]⟩, .int .u32 0, .string ⟨#[]⟩, .string ⟨#[]⟩, .string ⟨#[]⟩, .int .u32 0, .int .u32 0, .int .u32 0, .int .u64 0, .int .i64 0, .int .i64 0, .int .u64 0, .int .u64 0, .string ⟨#[]⟩, .int .u32 0, .string ⟨#[]⟩, .string ⟨#[]⟩, .string ⟨#[]⟩, .int .u32 0, .int .u32 0, .int .u32 0, .int .u64 0, .int .i64 0, .int .i64 0, .bool false, .bool false, .int .u16 0, .int .u32 0, .int .u8 0, .int .u32 0, .int .u64 0, .int .u32 0, .int .u32 0, .int .u32 0, .int .u64 0, .string ⟨#[]⟩, .string ⟨#[]⟩, .string ⟨#[]⟩, .string ⟨#[]⟩] rfl (by simp [go_sem]) (by simp [go_sem]) bn (by rw [HVS.out]; exact size_change9) (by rw [HVS.out]; rfl) (by rw [HV.out]; simp [chA, Value.oneCell']) ⟨⟨(BF.out _ K4).1, (BF.out _ K4).2.1⟩, ?_⟩
      refine wpAnyH_done (by kernel_rfl) ?_ _
      simp [go_sem]
      go_wp2_with fail
      go_meet
      exact ⟨_, rfl, setRow_heap _ _ _ V 100 (0, 0) bn, K4, K2.size⟩
    · have K3 : Kept [] w1 (w1.drew.alloc (.cells #[.pointer none, .string ⟨#[]⟩, .int .u64 0, .int .u64 0, .string ⟨#[]⟩, .int .u32 0, .string ⟨#[]⟩, .string ⟨#[]⟩, .string ⟨#[]⟩, .int .u32 0, .int .u32 0, .int .u32 0, .int .u64 0, .int .i64 0, .int .i64 0, .int .u64 0, .int .u64 0, .string ⟨#[]⟩, .int .u32 0, .string ⟨#[]⟩, .string ⟨#[]⟩, .string ⟨#[]⟩, .int .u32 0, .int .u32 0, .int .u32 0, .int .u64 0, .int .i64 0, .int .i64 0, .bool false, .bool false, .int .u16 0, .int .u32 0, .int .u8 0, .int .u32 0, .int .u64 0, .int .u32 0, .int .u32 0, .int .u32 0, .int .u64 0, .string ⟨#[]⟩, .string ⟨#[]⟩, .string ⟨#[]⟩, .string ⟨#[]⟩] 100)) := KD.out.alloc _
      have hb3 : (w1.drew.alloc (.cells #[.pointer none, .string ⟨#[]⟩, .int .u64 0, .int .u64 0, .string ⟨#[]⟩, .int .u32 0, .string ⟨#[]⟩, .string ⟨#[]⟩, .string ⟨#[]⟩, .int .u32 0, .int .u32 0, .int .u32 0, .int .u64 0, .int .i64 0, .int .i64 0, .int .u64 0, .int .u64 0, .string ⟨#[]⟩, .int .u32 0, .string ⟨#[]⟩, .string ⟨#[]⟩, .string ⟨#[]⟩, .int .u32 0, .int .u32 0, .int .u32 0, .int .u64 0, .int .i64 0, .int .i64 0, .bool false, .bool false, .int .u16 0, .int .u32 0, .int .u8 0, .int .u32 0, .int .u64 0, .int .u32 0, .int .u32 0, .int .u32 0, .int .u64 0, .string ⟨#[]⟩, .string ⟨#[]⟩, .string ⟨#[]⟩, .string ⟨#[]⟩] 100)).heap[RF]? = some (.cells F28.toArray 48 (0, 0)) ∧ (w1.drew.alloc (.cells #[.pointer none, .string ⟨#[]⟩, .int .u64 0, .int .u64 0, .string ⟨#[]⟩, .int .u32 0, .string ⟨#[]⟩, .string ⟨#[]⟩, .string ⟨#[]⟩, .int .u32 0, .int .u32 0, .int .u32 0, .int .u64 0, .int .i64 0, .int .i64 0, .int .u64 0, .int .u64 0, .string ⟨#[]⟩, .int .u32 0, .string ⟨#[]⟩, .string ⟨#[]⟩, .string ⟨#[]⟩, .int .u32 0, .int .u32 0, .int .u32 0, .int .u64 0, .int .i64 0, .int .i64 0, .bool false, .bool false, .int .u16 0, .int .u32 0, .int .u8 0, .int .u32 0, .int .u64 0, .int .u32 0, .int .u32 0, .int .u32 0, .int .u64 0, .string ⟨#[]⟩, .string ⟨#[]⟩, .string ⟨#[]⟩, .string ⟨#[]⟩] 100)).heap[RS]? = some (.cells #[.int .u16 s.ty, .int .u32 s.dev, .int .u8 s.kd, .int .u32 s.vr, .int .u64 s.pa, .int .u32 s.mo, .int .u32 s.atm, .int .u32 s.mt, .int .u64 s.ln, .string s.nm, .string s.ud, .string s.gd, .string s.mu] 55 (0, 0)) := ⟨(BF.out _ K3).1, (BF.out _ K3).2.1⟩
      have bn : (w1.drew.alloc (.cells #[.pointer none, .string ⟨#[]⟩, .int .u64 0, .int .u64 0, .string ⟨#[]⟩, .int .u32 0, .string ⟨#[]⟩, .string ⟨#[]⟩, .string ⟨#[]⟩, .int .u32 0, .int .u32 0, .int .u32 0, .int .u64 0, .int .i64 0, .int .i64 0, .int .u64 0, .int .u64 0, .string ⟨#[]⟩, .int .u32 0, .string ⟨#[]⟩, .string ⟨#[]⟩, .string ⟨#[]⟩, .int .u32 0, .int .u32 0, .int .u32 0, .int .u64 0, .int .i64 0, .int .i64 0, .bool false, .bool false, .int .u16 0, .int .u32 0, .int .u8 0, .int .u32 0, .int .u64 0, .int .u32 0, .int .u32 0, .int .u32 0, .int .u64 0, .string ⟨#[]⟩, .string ⟨#[]⟩, .string ⟨#[]⟩, .string ⟨#[]⟩] 100)).heap[w1.drew.heap.size]? = some (.cells #[.pointer none, .string ⟨#[]⟩, .int .u64 0, .int .u64 0, .string ⟨#[]⟩, .int .u32 0, .string ⟨#[]⟩, .string ⟨#[]⟩, .string ⟨#[]⟩, .int .u32 0, .int .u32 0, .int .u32 0, .int .u64 0, .int .i64 0, .int .i64 0, .int .u64 0, .int .u64 0, .string ⟨#[]⟩, .int .u32 0, .string ⟨#[]⟩, .string ⟨#[]⟩, .string ⟨#[]⟩, .int .u32 0, .int .u32 0, .int .u32 0, .int .u64 0, .int .i64 0, .int .i64 0, .bool false, .bool false, .int .u16 0, .int .u32 0, .int .u8 0, .int .u32 0, .int .u64 0, .int .u32 0, .int .u32 0, .int .u32 0, .int .u64 0, .string ⟨#[]⟩, .string ⟨#[]⟩, .string ⟨#[]⟩, .string ⟨#[]⟩] 100 (0, 0)) := (MapKept.heap_alloc w1.drew _).1
      refine any_alloc8 (w' := w1.drew.alloc (.cells #[.pointer none, .string ⟨#[]⟩, .int .u64 0, .int .u64 0, .string ⟨#[]⟩, .int .u32 0, .string ⟨#[]⟩, .string ⟨#[]⟩, .string ⟨#[]⟩, .int .u32 0, .int .u32 0, .int .u32 0, .int .u64 0, .int .i64 0, .int .i64 0, .int .u64 0, .int .u64 0, .string ⟨#[]⟩, .int .u32 0, .string ⟨#[]⟩, .string ⟨#[]⟩, .string ⟨#[]⟩, .int .u32 0, .int .u32 0, .int .u32 0, .int .u64 0, .int .i64 0, .int .i64 0, .bool false, .bool false, .int .u16 0, .int .u32 0, .int .u8 0, .int .u32 0, .int .u64 0, .int .u32 0, .int .u32 0, .int .u32 0, .int .u64 0, .string ⟨#[]⟩, .string ⟨#[]⟩, .string ⟨#[]⟩, .string ⟨#[]⟩] 100)) rfl rfl (.pointer (some ⟨w1.drew.heap.size, 0, none⟩)) (by simp [execOp, go_sem]) ⟨hb3, ?_⟩
      refine wpAnyH_one (i := 2) (by kernel_rfl) ?_
      refine any_callR rfl rfl 39 #[.pointer (some ⟨q, 0, none⟩), .string u] (by simp [go_sem]) (AS.out _) ?_
      rintro e w2 ⟨rfl, k2⟩
      have K2 : Kept [] w1 w2 := K3.trans k2 (fun i hi => by cases hi)
      have bm := (k2.block _ (block_lt bn) (by simp)).trans bn
      have hb2 : w2.heap[RF]? = some (.cells F28.toArray 48 (0, 0)) ∧ w2.heap[RS]? = some (.cells #[.int .u16 s.ty, .int .u32 s.dev, .int .u8 s.kd, .int .u32 s.vr, .int .u64 s.pa, .int .u32 s.mo, .int .u32 s.atm, .int .u32 s.mt, .int .u64 s.ln, .string s.nm, .string s.ud, .string s.gd, .string s.mu] 55 (0, 0)) := ⟨(BF.out _ K2).1, (BF.out _ K2).2.1⟩
      refine ⟨_, rfl, hb2, ?_⟩
      refine wpAnyH_take (i := 5) (v := .agg V) rfl (by kernel_rfl) (by kernel_rfl) (by kernel_rfl) (fun _ _ _ h => h) (Or.inl ⟨by rfl, fun w _ => by rw [HV.out, HF28.out]; simp [execOp, go_sem, chA]⟩) hb2 ?_
      have k4 : Kept [w1.drew.heap.size] w2 (w2.setRow w1.drew.heap.size V) := ⟨rfl, rfl, rfl, by simp [World.setRow], fun k _ hk => setRow_other _ _ k _ (by simpa using hk)⟩
      have K4 : Kept [] w1 (w2.setRow w1.drew.heap.size V) := K2.trans k4 (fun i hi => Or.inr (by rw [List.mem_singleton] at hi; subst hi; exact Nat.le_refl _))
      refine wpAnyH_one (i := 7) (by kernel_rfl) ?_
      refine any_store8 rfl rfl 100 (.tmp 10) (.tmp 21) w1.drew.heap.size V 100 #[.pointer none, .string ⟨#[]⟩, .int .u64 0, .int .u64 0, .string ⟨#[]⟩, .int .u32 0, .string ⟨#[]⟩, .string ⟨#[]⟩, .string ⟨#[]⟩, .int .u32 0, .int .u32 0, .int .u32 0, .int .u64 0, .int .i64 0, .int .i64 0, .int .u64 0, .int .u64 0, .string ⟨#[]⟩, .int .u32 0, .string ⟨#[]⟩, .string ⟨#[]⟩, .string ⟨#[]⟩, .int .u32 0, .int .u32 0, .int .u32 0, .int .u64 0, .int .i64 0, .int .i64 0, .bool false, .bool false, .int .u16 0, .int .u32 0, .int .u8 0, .int .u32 0, .int .u64 0, .int .u32 0, .int .u32 0, .int .u32 0, .int .u64 0, .string ⟨#[]⟩, .string ⟨#[]⟩, .string ⟨#[]⟩, .string ⟨#[]⟩] rfl (by simp [go_sem]) (by simp [go_sem]) bm (by rw [HVS.out]; exact size_change9) (by rw [HVS.out]; rfl) (by rw [HV.out]; simp [chA, Value.oneCell']) ⟨⟨(BF.out _ K4).1, (BF.out _ K4).2.1⟩, ?_⟩
      refine wpAnyH_done (by kernel_rfl) ?_ _
      simp [go_sem]
      go_wp2_with fail
      go_meet
      exact ⟨_, rfl, setRow_heap _ _ _ V 100 (0, 0) bm, K4, Nat.le_refl _⟩
  case rest =>
    obtain ⟨RC, rfl, hC⟩ := hcut
    obtain ⟨wx, hwx⟩ : ∃ x, x = wc := ⟨_, rfl⟩
    subst hwx
    have KX : Hid (Kept [] w1 wx) := hC.out.2.1
    go_upto_region 2 with (fail)
    go_cut [11] from 22 to 26 (fun s11 wy => s11 = .int .u16 t ∧ Hid (Kept [] wx wy))
    case first =>
      have KD : Hid (Kept [] wx wx.drew) := (Kept.refl [] wx).drew
      have KW : Hid (∀ w' : World, Kept [] wx w' → w'.heap[RF]? = some (.cells F28.toArray 48 (0, 0)) ∧ w'.heap[RS]? = some (.cells #[.int .u16 s.ty, .int .u32 s.dev, .int .u8 s.kd, .int .u32 s.vr, .int .u64 s.pa, .int .u32 s.mo, .int .u32 s.atm, .int .u32 s.mt, .int .u64 s.ln, .string s.nm, .string s.ud, .string s.gd, .string s.mu] 55 (0, 0))) := fun w' k => by
        have := BF.out w' (KX.out.trans k (fun i hi => by cases hi))
        exact ⟨this.1, this.2.1⟩
      have hb := KW.out _ KD.out
      refine wp_region_held (S := fun w' => w'.heap[RF]? = some (.cells F28.toArray 48 (0, 0)) ∧ w'.heap[RS]? = some (.cells #[.int .u16 s.ty, .int .u32 s.dev, .int .u8 s.kd, .int .u32 s.vr, .int .u64 s.pa, .int .u32 s.mo, .int .u32 s.atm, .int .u32 s.mt, .int .u64 s.ln, .string s.nm, .string s.ud, .string s.gd, .string s.mu] 55 (0, 0))) (by kernel_rfl) ?_
      try (change wpAnyH _ _ _ _ _ _ _ _ (World.drew _))
      refine wpAnyH_take (i := 0) (v := .agg #[.int .u16 s.ty, .int .u32 s.dev, .int .u8 s.kd, .int .u32 s.vr, .int .u64 s.pa, .int .u32 s.mo, .int .u32 s.atm, .int .u32 s.mt, .int .u64 s.ln, .string s.nm, .string s.ud, .string s.gd, .string s.mu]) rfl (by kernel_rfl) (by kernel_rfl) (by kernel_rfl) (fun _ _ _ h => h) (yieldsIf_load_mid (by rfl) 55 (.tmp 7) rfl RS 0 (by simp [go_sem]) [.int .u16 s.ty, .int .u32 s.dev, .int .u8 s.kd, .int .u32 s.vr, .int .u64 s.pa, .int .u32 s.mo, .int .u32 s.atm, .int .u32 s.mt, .int .u64 s.ln, .string s.nm, .string s.ud, .string s.gd, .string s.mu] _ (fun w b => whole_of b.2) Tryz.underlying55 rfl size_stat9) hb ?_
      refine wpAnyH_take (i := 1) (v := .pointer (some ⟨RF, 0, none⟩)) rfl (by kernel_rfl) (by kernel_rfl) (by kernel_rfl) (fun _ _ _ h => h) (Or.inl ⟨by rfl, fun w _ => by simp [execOp, go_sem]⟩) hb ?_
      refine wpAnyH_take (i := 2) (v := .agg #[.int .u64 n.path, .int .u64 n.parent, .string n.name, .int .u32 n.mode, .string n.uid, .string n.gid, .string n.muid, .int .u32 n.atime, .int .u32 n.mtime, .int .u32 n.vers, .int .u64 n.length, .int .i64 n.opens, .int .i64 n.kids]) rfl (by kernel_rfl) (by kernel_rfl) (by kernel_rfl) (fun _ _ _ h => h) (yieldsIf_load_mid (by rfl) 46 (.tmp 23) rfl RF 0 (by simp [go_sem]) [.int .u64 n.path, .int .u64 n.parent, .string n.name, .int .u32 n.mode, .string n.uid, .string n.gid, .string n.muid, .int .u32 n.atime, .int .u32 n.mtime, .int .u32 n.vers, .int .u64 n.length, .int .i64 n.opens, .int .i64 n.kids] _ (fun w b => FN.out w b.1) Tryz.underlying46 rfl size_node9) hb ?_
      refine wpAnyH_one (i := 3) (by kernel_rfl) ?_
      refine any_callR rfl rfl 18 #[.agg #[.int .u64 n.path, .int .u64 n.parent, .string n.name, .int .u32 n.mode, .string n.uid, .string n.gid, .string n.muid, .int .u32 n.atime, .int .u32 n.mtime, .int .u32 n.vers, .int .u64 n.length, .int .i64 n.opens, .int .i64 n.kids]] (by simp [go_sem]) (RE.out _) ?_
      rintro e w2 ⟨rfl, k2⟩
      have K2 : Kept [] wx w2 := KD.out.trans k2 (fun i hi => by cases hi)
      refine ⟨_, rfl, KW.out _ K2, ?_⟩
      refine wpAnyH_one (i := 4) (by kernel_rfl) ?_
      refine any_callR rfl rfl 40 #[.agg #[.int .u16 s.ty, .int .u32 s.dev, .int .u8 s.kd, .int .u32 s.vr, .int .u64 s.pa, .int .u32 s.mo, .int .u32 s.atm, .int .u32 s.mt, .int .u64 s.ln, .string s.nm, .string s.ud, .string s.gd, .string s.mu], .agg HR0] (by simp [go_sem]) (TO.out _) ?_
      rintro e w3 ⟨rfl, k3⟩
      have K3 : Kept [] wx w3 := K2.trans k3 (fun i hi => by cases hi)
      refine ⟨_, rfl, KW.out _ K3, ?_⟩
      refine wpAnyH_one (i := 5) (by kernel_rfl) ?_
      refine any_value8 rfl rfl (.int .u16 t) (by simp [execOp, go_sem]) ⟨KW.out _ K3, ?_⟩
      refine wpAnyH_done (by kernel_rfl) ?_ _
      simp [go_sem]
      go_wp2_with fail
      go_meet
      exact ⟨rfl, K3⟩
    case rest =>
      obtain ⟨rfl, hY⟩ := hcut
      obtain ⟨wy, hwy⟩ : ∃ x, x = wc := ⟨_, rfl⟩
      subst hwy
      have KY : Hid (Kept [] w1 wy) := KX.out.trans hY.out (fun i hi => by cases hi)
      have BY := Lib.hid (BF.out wy KY.out)
      have BC : Hid (wy.heap[RC]? = some (.cells V 100 (0, 0))) := (hY.out.block _ (block_lt hC.out.1) (by simp)).trans hC.out.1
      have OC : Hid (w1.heap.size ≤ RC ∧ RC < wx.heap.size ∧ wx.heap.size ≤ wy.heap.size) := ⟨hC.out.2.2, block_lt hC.out.1, hY.out.size⟩
      clear AS RE TO BF hC
      go_upto_region 4 with (first | (refine wpList_nmid (by rfl) (.tmp 27) rfl RF 0 rfl [.int .u64 n.path, .int .u64 n.parent, .string n.name, .int .u32 n.mode, .string n.uid, .string n.gid, .string n.muid, .int .u32 n.atime, .int .u32 n.mtime, .int .u32 n.vers, .int .u64 n.length, .int .i64 n.opens, .int .i64 n.kids] (FN.out _ BY.out.1) rfl ?_))
      go_wp2_with (first | (refine wpList_nmid (by rfl) (.tmp 27) rfl RF 0 rfl [.int .u64 n.path, .int .u64 n.parent, .string n.name, .int .u32 n.mode, .string n.uid, .string n.gid, .string n.muid, .int .u32 n.atime, .int .u32 n.mtime, .int .u32 n.vers, .int .u64 n.length, .int .i64 n.opens, .int .i64 n.kids] (FN.out _ BY.out.1) rfl ?_) | (go_at_call 41; refine (rfields_any _).mono ?_; rintro e w4 ⟨rfl, hw4⟩; have HW4 := Lib.hid hw4; clear hw4))
      obtain ⟨RX, hRX⟩ : ∃ R, R = wy.heap.size := ⟨_, rfl⟩
      obtain ⟨TB, hTB⟩ : ∃ R, R = wy.heap.size + 1 := ⟨_, rfl⟩
      have I0 : Hid (WInv w RS RZ RC RX TB V #[.int .u16 s.ty, .int .u32 s.dev, .int .u8 s.kd, .int .u32 s.vr, .int .u64 s.pa, .int .u32 s.mo, .int .u32 s.atm, .int .u32 s.mt, .int .u64 s.ln, .string s.nm, .string s.ud, .string s.gd, .string s.mu] (setN (setK s) f n 0) w4) := by
        have o1 := ORD.out
        have o2 := OC.out
        have KA : Kept [] wy (wy.alloc (.cells #[.int .u64 n.path, .int .u64 n.parent, .string n.name, .int .u32 n.mode, .string n.uid, .string n.gid, .string n.muid, .int .u32 n.atime, .int .u32 n.mtime, .int .u32 n.vers, .int .u64 n.length, .int .i64 n.opens, .int .i64 n.kids] 46)) := (Kept.refl _ _).alloc _
        have KB : Kept [] wy w4 := by rw [HW4.out]; exact KA.alloc _
        have b1 : (wy.alloc (.cells #[.int .u64 n.path, .int .u64 n.parent, .string n.name, .int .u32 n.mode, .string n.uid, .string n.gid, .string n.muid, .int .u32 n.atime, .int .u32 n.mtime, .int .u32 n.vers, .int .u64 n.length, .int .i64 n.opens, .int .i64 n.kids] 46)).heap[RX]? = some (.cells #[.int .u64 n.path, .int .u64 n.parent, .string n.name, .int .u32 n.mode, .string n.uid, .string n.gid, .string n.muid, .int .u32 n.atime, .int .u32 n.mtime, .int .u32 n.vers, .int .u64 n.length, .int .i64 n.opens, .int .i64 n.kids] 46 (0, 0)) := by rw [hRX]; exact (MapKept.heap_alloc wy _).1
        refine ⟨(KB.block _ (block_lt BY.out.2.1) (by simp)).trans BY.out.2.1, (KB.block _ (block_lt BC.out) (by simp)).trans BC.out, ?_, ?_, (KB.block _ (block_lt BY.out.2.2) (by simp)).trans BY.out.2.2, (K1.out.trans KY.out (fun i hi => by cases hi)).trans KB (fun i hi => by cases hi), ?_⟩
        · rw [HW4.out]; exact (Below.heap_alloc _ _ _ (block_lt b1)).trans b1
        · rw [HW4.out, hTB]
          have := (MapKept.heap_alloc (wy.alloc (.cells #[.int .u64 n.path, .int .u64 n.parent, .string n.name, .int .u32 n.mode, .string n.uid, .string n.gid, .string n.muid, .int .u32 n.atime, .int .u32 n.mtime, .int .u32 n.vers, .int .u64 n.length, .int .i64 n.opens, .int .i64 n.kids] 46)) (.cells tabA 108)).1
          rwa [World.size_alloc] at this
        · have := KY.out.size
          omega
      have Z0 : Hid (firstE r f 0 = 0) := rfl
      clear BY BC OC KY KX HW4 K1 ORD HRF HRS HRZ HW1 FN HF28 HL S1
      go_wp2_with fail
      try rw [World.size_alloc]
      rw [← hTB]
      try rw [← hRX]
      clear hTB hRX
      go_loopw [31] (fun iv' wr => ∃ i : Nat, i ≤ 13 ∧ iv' = .int .i64 i ∧ Hid (firstE r f i = 0) ∧ Hid (WInv w RS RZ RC RX TB V #[.int .u16 s.ty, .int .u32 s.dev, .int .u8 s.kd, .int .u32 s.vr, .int .u64 s.pa, .int .u32 s.mo, .int .u32 s.atm, .int .u32 s.mt, .int .u64 s.ln, .string s.nm, .string s.ud, .string s.gd, .string s.mu] (setN (setK s) f n i) wr)) (fun iv' _ => 13 - (intOf iv').toNat)
      case atStart => exact ⟨0, by omega, rfl, Z0, I0⟩
      case round =>
        clear I0 Z0
        obtain ⟨i, hi, rfl, ZI, I⟩ := hrel
        obtain rfl | rfl | rfl | rfl | rfl | rfl | rfl | rfl | rfl | rfl | rfl | rfl | rfl | rfl : i = 0 ∨ i = 1 ∨ i = 2 ∨ i = 3 ∨ i = 4 ∨ i = 5 ∨ i = 6 ∨ i = 7 ∨ i = 8 ∨ i = 9 ∨ i = 10 ∨ i = 11 ∨ i = 12 ∨ i = 13 := by omega
        · obtain ⟨q0, q1, q2⟩ := (tab_rows I.out.tab).1
          have IW : Hid (WInv w RS RZ RC RX TB V #[.int .u16 s.ty, .int .u32 s.dev, .int .u8 s.kd, .int .u32 s.vr, .int .u64 s.pa, .int .u32 s.mo, .int .u32 s.atm, .int .u32 s.mt, .int .u64 s.ln, .string s.nm, .string s.ud, .string s.gd, .string s.mu] (setN (setK s) f n 0) (wr.alloc (.cells #[.int .u16 1, .func (.func 71) #[] #[], .func (.func 72) #[] #[]] 108 (0, 0)))) := I.out.pure ((Kept.refl [] _).alloc _)
          have LW : Hid ((wr.alloc (.cells #[.int .u16 1, .func (.func 71) #[] #[], .func (.func 72) #[] #[]] 108 (0, 0))).heap[wr.heap.size]? = some (.cells #[.int .u16 1, .func (.func 71) #[] #[], .func (.func 72) #[] #[]] 108 (0, 0))) := heap_alloc_new wr _
          have hand := AND.out 0 (by decide)
          cases hfk : f 0 with
          | true =>
            have hand' : bits .and .u16 (t : Int) 1 = 1 := by rw [hfk] at hand; exact hand
            obtain ⟨e1, e2⟩ := FB.out 0 97 (by decide) ZI.out hfk W0.out (by decide)
            subst e1
            subst e2
            clear hand hfk AND FB FE ZI
            have CHB := Lib.hid IW.out.ch
            go_wp2_with (first | (refine wpList_lch rfl (.tmp 10) rfl RC V HVS.out CHB.out rfl ?_))
            refine (refFixed_any _ V).mono ?_
            rintro e w3 ⟨rfl, k3⟩
            have I3 := Lib.hid (IW.out.pure k3)
            have RZB := Lib.hid I3.out.res
            clear k3 IW LW I q0 q1 q2 CHB
            go_wp2_with (first | (refine wpList_srow8 rfl (.tmp 8) (.tmp 46) rfl RZ rfl _ #[.int .u64 0, .int .u64 0, .string ⟨#[]⟩, .int .u32 0, .string ⟨#[]⟩, .string ⟨#[]⟩, .string ⟨#[]⟩, .int .u32 0, .int .u32 0, .int .u32 0, .int .u64 0, .int .i64 0, .int .i64 0] rfl RZB.out rfl rfl (by simp [Value.oneCell']) ?_; intro w4 b4 k4))
            have hl := run_loadVar_row (P := Tryz.prog) w4 RZ 46 46 _ (0, 0) _ b4 Tryz.underlying46 rfl size_node9
            refine bodyPost_ret (v := .tuple #[.agg #[.int .u64 0, .int .u64 0, .string ⟨#[]⟩, .int .u32 0, .string ⟨#[]⟩, .string ⟨#[]⟩, .string ⟨#[]⟩, .int .u32 0, .int .u32 0, .int .u32 0, .int .u64 0, .int .i64 0, .int .i64 0], .int .i64 97]) (by simp [results, Tryz.results17, asAddr, hl]) rfl ⟨rfl, ?_⟩
            exact I3.out.kept.trans k4 (fun i hi => Or.inr (by rw [List.mem_singleton] at hi; subst hi; exact I3.out.far.2.1))
          | false =>
            have hand' : bits .and .u16 (t : Int) 1 = 0 := by rw [hfk] at hand; exact hand
            have ZN : Hid (firstE r f 1 = 0) := firstE_off ZI.out hfk
            have IN : Hid (WInv w RS RZ RC RX TB V #[.int .u16 s.ty, .int .u32 s.dev, .int .u8 s.kd, .int .u32 s.vr, .int .u64 s.pa, .int .u32 s.mo, .int .u32 s.atm, .int .u32 s.mt, .int .u64 s.ln, .string s.nm, .string s.ud, .string s.gd, .string s.mu] (setN (setK s) f n 1) (wr.alloc (.cells #[.int .u16 1, .func (.func 71) #[] #[], .func (.func 72) #[] #[]] 108 (0, 0)))) := by
              have := IW.out
              rw [← setN_off (f := setK s) (x := n) hfk] at this
              exact this
            clear hand hfk AND FB FE ZI IW I
            go_wp2_with fail
            go_roundw
            case rel => exact ⟨1, by omega, rfl, ZN, IN⟩
            case measure => decide
        · obtain ⟨q0, q1, q2⟩ := (tab_rows I.out.tab).2.1
          have IW : Hid (WInv w RS RZ RC RX TB V #[.int .u16 s.ty, .int .u32 s.dev, .int .u8 s.kd, .int .u32 s.vr, .int .u64 s.pa, .int .u32 s.mo, .int .u32 s.atm, .int .u32 s.mt, .int .u64 s.ln, .string s.nm, .string s.ud, .string s.gd, .string s.mu] (setN (setK s) f n 1) (wr.alloc (.cells #[.int .u16 2, .func (.func 71) #[] #[], .func (.func 72) #[] #[]] 108 (0, 0)))) := I.out.pure ((Kept.refl [] _).alloc _)
          have LW : Hid ((wr.alloc (.cells #[.int .u16 2, .func (.func 71) #[] #[], .func (.func 72) #[] #[]] 108 (0, 0))).heap[wr.heap.size]? = some (.cells #[.int .u16 2, .func (.func 71) #[] #[], .func (.func 72) #[] #[]] 108 (0, 0))) := heap_alloc_new wr _
          have hand := AND.out 1 (by decide)
          cases hfk : f 1 with
          | true =>
            have hand' : bits .and .u16 (t : Int) 2 = 2 := by rw [hfk] at hand; exact hand
            obtain ⟨e1, e2⟩ := FB.out 1 97 (by decide) ZI.out hfk W1.out (by decide)
            subst e1
            subst e2
            clear hand hfk AND FB FE ZI
            have CHB := Lib.hid IW.out.ch
            go_wp2_with (first | (refine wpList_lch rfl (.tmp 10) rfl RC V HVS.out CHB.out rfl ?_))
            refine (refFixed_any _ V).mono ?_
            rintro e w3 ⟨rfl, k3⟩
            have I3 := Lib.hid (IW.out.pure k3)
            have RZB := Lib.hid I3.out.res
            clear k3 IW LW I q0 q1 q2 CHB
            go_wp2_with (first | (refine wpList_srow8 rfl (.tmp 8) (.tmp 46) rfl RZ rfl _ #[.int .u64 0, .int .u64 0, .string ⟨#[]⟩, .int .u32 0, .string ⟨#[]⟩, .string ⟨#[]⟩, .string ⟨#[]⟩, .int .u32 0, .int .u32 0, .int .u32 0, .int .u64 0, .int .i64 0, .int .i64 0] rfl RZB.out rfl rfl (by simp [Value.oneCell']) ?_; intro w4 b4 k4))
            have hl := run_loadVar_row (P := Tryz.prog) w4 RZ 46 46 _ (0, 0) _ b4 Tryz.underlying46 rfl size_node9
            refine bodyPost_ret (v := .tuple #[.agg #[.int .u64 0, .int .u64 0, .string ⟨#[]⟩, .int .u32 0, .string ⟨#[]⟩, .string ⟨#[]⟩, .string ⟨#[]⟩, .int .u32 0, .int .u32 0, .int .u32 0, .int .u64 0, .int .i64 0, .int .i64 0], .int .i64 97]) (by simp [results, Tryz.results17, asAddr, hl]) rfl ⟨rfl, ?_⟩
            exact I3.out.kept.trans k4 (fun i hi => Or.inr (by rw [List.mem_singleton] at hi; subst hi; exact I3.out.far.2.1))
          | false =>
            have hand' : bits .and .u16 (t : Int) 2 = 0 := by rw [hfk] at hand; exact hand
            have ZN : Hid (firstE r f 2 = 0) := firstE_off ZI.out hfk
            have IN : Hid (WInv w RS RZ RC RX TB V #[.int .u16 s.ty, .int .u32 s.dev, .int .u8 s.kd, .int .u32 s.vr, .int .u64 s.pa, .int .u32 s.mo, .int .u32 s.atm, .int .u32 s.mt, .int .u64 s.ln, .string s.nm, .string s.ud, .string s.gd, .string s.mu] (setN (setK s) f n 2) (wr.alloc (.cells #[.int .u16 2, .func (.func 71) #[] #[], .func (.func 72) #[] #[]] 108 (0, 0)))) := by
              have := IW.out
              rw [← setN_off (f := setK s) (x := n) hfk] at this
              exact this
            clear hand hfk AND FB FE ZI IW I
            go_wp2_with fail
            go_roundw
            case rel => exact ⟨2, by omega, rfl, ZN, IN⟩
            case measure => decide
        · obtain ⟨q0, q1, q2⟩ := (tab_rows I.out.tab).2.2.1
          have IW : Hid (WInv w RS RZ RC RX TB V #[.int .u16 s.ty, .int .u32 s.dev, .int .u8 s.kd, .int .u32 s.vr, .int .u64 s.pa, .int .u32 s.mo, .int .u32 s.atm, .int .u32 s.mt, .int .u64 s.ln, .string s.nm, .string s.ud, .string s.gd, .string s.mu] (setN (setK s) f n 2) (wr.alloc (.cells #[.int .u16 4, .func (.func 71) #[] #[], .func (.func 72) #[] #[]] 108 (0, 0)))) := I.out.pure ((Kept.refl [] _).alloc _)
          have LW : Hid ((wr.alloc (.cells #[.int .u16 4, .func (.func 71) #[] #[], .func (.func 72) #[] #[]] 108 (0, 0))).heap[wr.heap.size]? = some (.cells #[.int .u16 4, .func (.func 71) #[] #[], .func (.func 72) #[] #[]] 108 (0, 0))) := heap_alloc_new wr _
          have hand := AND.out 2 (by decide)
          cases hfk : f 2 with
          | true =>
            have hand' : bits .and .u16 (t : Int) 4 = 4 := by rw [hfk] at hand; exact hand
            obtain ⟨e1, e2⟩ := FB.out 2 97 (by decide) ZI.out hfk W2.out (by decide)
            subst e1
            subst e2
            clear hand hfk AND FB FE ZI
            have CHB := Lib.hid IW.out.ch
            go_wp2_with (first | (refine wpList_lch rfl (.tmp 10) rfl RC V HVS.out CHB.out rfl ?_))
            refine (refFixed_any _ V).mono ?_
            rintro e w3 ⟨rfl, k3⟩
            have I3 := Lib.hid (IW.out.pure k3)
            have RZB := Lib.hid I3.out.res
            clear k3 IW LW I q0 q1 q2 CHB
            go_wp2_with (first | (refine wpList_srow8 rfl (.tmp 8) (.tmp 46) rfl RZ rfl _ #[.int .u64 0, .int .u64 0, .string ⟨#[]⟩, .int .u32 0, .string ⟨#[]⟩, .string ⟨#[]⟩, .string ⟨#[]⟩, .int .u32 0, .int .u32 0, .int .u32 0, .int .u64 0, .int .i64 0, .int .i64 0] rfl RZB.out rfl rfl (by simp [Value.oneCell']) ?_; intro w4 b4 k4))
            have hl := run_loadVar_row (P := Tryz.prog) w4 RZ 46 46 _ (0, 0) _ b4 Tryz.underlying46 rfl size_node9
            refine bodyPost_ret (v := .tuple #[.agg #[.int .u64 0, .int .u64 0, .string ⟨#[]⟩, .int .u32 0, .string ⟨#[]⟩, .string ⟨#[]⟩, .string ⟨#[]⟩, .int .u32 0, .int .u32 0, .int .u32 0, .int .u64 0, .int .i64 0, .int .i64 0], .int .i64 97]) (by simp [results, Tryz.results17, asAddr, hl]) rfl ⟨rfl, ?_⟩
            exact I3.out.kept.trans k4 (fun i hi => Or.inr (by rw [List.mem_singleton] at hi; subst hi; exact I3.out.far.2.1))
          | false =>
            have hand' : bits .and .u16 (t : Int) 4 = 0 := by rw [hfk] at hand; exact hand
            have ZN : Hid (firstE r f 3 = 0) := firstE_off ZI.out hfk
            have IN : Hid (WInv w RS RZ RC RX TB V #[.int .u16 s.ty, .int .u32 s.dev, .int .u8 s.kd, .int .u32 s.vr, .int .u64 s.pa, .int .u32 s.mo, .int .u32 s.atm, .int .u32 s.mt, .int .u64 s.ln, .string s.nm, .string s.ud, .string s.gd, .string s.mu] (setN (setK s) f n 3) (wr.alloc (.cells #[.int .u16 4, .func (.func 71) #[] #[], .func (.func 72) #[] #[]] 108 (0, 0)))) := by
              have := IW.out
              rw [← setN_off (f := setK s) (x := n) hfk] at this
              exact this
            clear hand hfk AND FB FE ZI IW I
            go_wp2_with fail
            go_roundw
            case rel => exact ⟨3, by omega, rfl, ZN, IN⟩
            case measure => decide
        · obtain ⟨q0, q1, q2⟩ := (tab_rows I.out.tab).2.2.2.1
          have IW : Hid (WInv w RS RZ RC RX TB V #[.int .u16 s.ty, .int .u32 s.dev, .int .u8 s.kd, .int .u32 s.vr, .int .u64 s.pa, .int .u32 s.mo, .int .u32 s.atm, .int .u32 s.mt, .int .u64 s.ln, .string s.nm, .string s.ud, .string s.gd, .string s.mu] (setN (setK s) f n 3) (wr.alloc (.cells #[.int .u16 8, .func (.func 71) #[] #[], .func (.func 72) #[] #[]] 108 (0, 0)))) := I.out.pure ((Kept.refl [] _).alloc _)
          have LW : Hid ((wr.alloc (.cells #[.int .u16 8, .func (.func 71) #[] #[], .func (.func 72) #[] #[]] 108 (0, 0))).heap[wr.heap.size]? = some (.cells #[.int .u16 8, .func (.func 71) #[] #[], .func (.func 72) #[] #[]] 108 (0, 0))) := heap_alloc_new wr _
          have hand := AND.out 3 (by decide)
          cases hfk : f 3 with
          | true =>
            have hand' : bits .and .u16 (t : Int) 8 = 8 := by rw [hfk] at hand; exact hand
            obtain ⟨e1, e2⟩ := FB.out 3 97 (by decide) ZI.out hfk W3.out (by decide)
            subst e1
            subst e2
            clear hand hfk AND FB FE ZI
            have CHB := Lib.hid IW.out.ch
            go_wp2_with (first | (refine wpList_lch rfl (.tmp 10) rfl RC V HVS.out CHB.out rfl ?_))
            refine (refFixed_any _ V).mono ?_
            rintro e w3 ⟨rfl, k3⟩
            have I3 := Lib.hid (IW.out.pure k3)
            have RZB := Lib.hid I3.out.res
            clear k3 IW LW I q0 q1 q2 CHB
            go_wp2_with (first | (refine wpList_srow8 rfl (.tmp 8) (.tmp 46) rfl RZ rfl _ #[.int .u64 0, .int .u64 0, .string ⟨#[]⟩, .int .u32 0, .string ⟨#[]⟩, .string ⟨#[]⟩, .string ⟨#[]⟩, .int .u32 0, .int .u32 0, .int .u32 0, .int .u64 0, .int .i64 0, .int .i64 0] rfl RZB.out rfl rfl (by simp [Value.oneCell']) ?_; intro w4 b4 k4))
            have hl := run_loadVar_row (P := Tryz.prog) w4 RZ 46 46 _ (0, 0) _ b4 Tryz.underlying46 rfl size_node9
            refine bodyPost_ret (v := .tuple #[.agg #[.int .u64 0, .int .u64 0, .string ⟨#[]⟩, .int .u32 0, .string ⟨#[]⟩, .string ⟨#[]⟩, .string ⟨#[]⟩, .int .u32 0, .int .u32 0, .int .u32 0, .int .u64 0, .int .i64 0, .int .i64 0], .int .i64 97]) (by simp [results, Tryz.results17, asAddr, hl]) rfl ⟨rfl, ?_⟩
            exact I3.out.kept.trans k4 (fun i hi => Or.inr (by rw [List.mem_singleton] at hi; subst hi; exact I3.out.far.2.1))
          | false =>
            have hand' : bits .and .u16 (t : Int) 8 = 0 := by rw [hfk] at hand; exact hand
            have ZN : Hid (firstE r f 4 = 0) := firstE_off ZI.out hfk
            have IN : Hid (WInv w RS RZ RC RX TB V #[.int .u16 s.ty, .int .u32 s.dev, .int .u8 s.kd, .int .u32 s.vr, .int .u64 s.pa, .int .u32 s.mo, .int .u32 s.atm, .int .u32 s.mt, .int .u64 s.ln, .string s.nm, .string s.ud, .string s.gd, .string s.mu] (setN (setK s) f n 4) (wr.alloc (.cells #[.int .u16 8, .func (.func 71) #[] #[], .func (.func 72) #[] #[]] 108 (0, 0)))) := by
              have := IW.out
              rw [← setN_off (f := setK s) (x := n) hfk] at this
              exact this
            clear hand hfk AND FB FE ZI IW I
            go_wp2_with fail
            go_roundw
            case rel => exact ⟨4, by omega, rfl, ZN, IN⟩
            case measure => decide
        · obtain ⟨q0, q1, q2⟩ := (tab_rows I.out.tab).2.2.2.2.1
          have IW : Hid (WInv w RS RZ RC RX TB V #[.int .u16 s.ty, .int .u32 s.dev, .int .u8 s.kd, .int .u32 s.vr, .int .u64 s.pa, .int .u32 s.mo, .int .u32 s.atm, .int .u32 s.mt, .int .u64 s.ln, .string s.nm, .string s.ud, .string s.gd, .string s.mu] (setN (setK s) f n 4) (wr.alloc (.cells #[.int .u16 16, .func (.func 71) #[] #[], .func (.func 72) #[] #[]] 108 (0, 0)))) := I.out.pure ((Kept.refl [] _).alloc _)
          have LW : Hid ((wr.alloc (.cells #[.int .u16 16, .func (.func 71) #[] #[], .func (.func 72) #[] #[]] 108 (0, 0))).heap[wr.heap.size]? = some (.cells #[.int .u16 16, .func (.func 71) #[] #[], .func (.func 72) #[] #[]] 108 (0, 0))) := heap_alloc_new wr _
          have hand := AND.out 4 (by decide)
          cases hfk : f 4 with
          | true =>
            have hand' : bits .and .u16 (t : Int) 16 = 16 := by rw [hfk] at hand; exact hand
            obtain ⟨e1, e2⟩ := FB.out 4 97 (by decide) ZI.out hfk W4.out (by decide)
            subst e1
            subst e2
            clear hand hfk AND FB FE ZI
            have CHB := Lib.hid IW.out.ch
            go_wp2_with (first | (refine wpList_lch rfl (.tmp 10) rfl RC V HVS.out CHB.out rfl ?_))
            refine (refFixed_any _ V).mono ?_
            rintro e w3 ⟨rfl, k3⟩
            have I3 := Lib.hid (IW.out.pure k3)
            have RZB := Lib.hid I3.out.res
            clear k3 IW LW I q0 q1 q2 CHB
            go_wp2_with (first | (refine wpList_srow8 rfl (.tmp 8) (.tmp 46) rfl RZ rfl _ #[.int .u64 0, .int .u64 0, .string ⟨#[]⟩, .int .u32 0, .string ⟨#[]⟩, .string ⟨#[]⟩, .string ⟨#[]⟩, .int .u32 0, .int .u32 0, .int .u32 0, .int .u64 0, .int .i64 0, .int .i64 0] rfl RZB.out rfl rfl (by simp [Value.oneCell']) ?_; intro w4 b4 k4))
            have hl := run_loadVar_row (P := Tryz.prog) w4 RZ 46 46 _ (0, 0) _ b4 Tryz.underlying46 rfl size_node9
            refine bodyPost_ret (v := .tuple #[.agg #[.int .u64 0, .int .u64 0, .string ⟨#[]⟩, .int .u32 0, .string ⟨#[]⟩, .string ⟨#[]⟩, .string ⟨#[]⟩, .int .u32 0, .int .u32 0, .int .u32 0, .int .u64 0, .int .i64 0, .int .i64 0], .int .i64 97]) (by simp [results, Tryz.results17, asAddr, hl]) rfl ⟨rfl, ?_⟩
            exact I3.out.kept.trans k4 (fun i hi => Or.inr (by rw [List.mem_singleton] at hi; subst hi; exact I3.out.far.2.1))
          | false =>
            have hand' : bits .and .u16 (t : Int) 16 = 0 := by rw [hfk] at hand; exact hand
            have ZN : Hid (firstE r f 5 = 0) := firstE_off ZI.out hfk
            have IN : Hid (WInv w RS RZ RC RX TB V #[.int .u16 s.ty, .int .u32 s.dev, .int .u8 s.kd, .int .u32 s.vr, .int .u64 s.pa, .int .u32 s.mo, .int .u32 s.atm, .int .u32 s.mt, .int .u64 s.ln, .string s.nm, .string s.ud, .string s.gd, .string s.mu] (setN (setK s) f n 5) (wr.alloc (.cells #[.int .u16 16, .func (.func 71) #[] #[], .func (.func 72) #[] #[]] 108 (0, 0)))) := by
              have := IW.out
              rw [← setN_off (f := setK s) (x := n) hfk] at this
              exact this
            clear hand hfk AND FB FE ZI IW I
            go_wp2_with fail
            go_roundw
            case rel => exact ⟨5, by omega, rfl, ZN, IN⟩
            case measure => decide
        · obtain ⟨q0, q1, q2⟩ := (tab_rows I.out.tab).2.2.2.2.2.1
          have IW : Hid (WInv w RS RZ RC RX TB V #[.int .u16 s.ty, .int .u32 s.dev, .int .u8 s.kd, .int .u32 s.vr, .int .u64 s.pa, .int .u32 s.mo, .int .u32 s.atm, .int .u32 s.mt, .int .u64 s.ln, .string s.nm, .string s.ud, .string s.gd, .string s.mu] (setN (setK s) f n 5) (wr.alloc (.cells #[.int .u16 32, .func (.func 73) #[] #[], .func (.func 74) #[] #[]] 108 (0, 0)))) := I.out.pure ((Kept.refl [] _).alloc _)
          have LW : Hid ((wr.alloc (.cells #[.int .u16 32, .func (.func 73) #[] #[], .func (.func 74) #[] #[]] 108 (0, 0))).heap[wr.heap.size]? = some (.cells #[.int .u16 32, .func (.func 73) #[] #[], .func (.func 74) #[] #[]] 108 (0, 0))) := heap_alloc_new wr _
          have hand := AND.out 5 (by decide)
          cases hfk : f 5 with
          | true =>
            have hand' : bits .and .u16 (t : Int) 32 = 32 := by rw [hfk] at hand; exact hand
            have CC := Lib.hid (C5.out _ IW.out.kept)
            obtain ⟨z, hz⟩ : ∃ z, r 5 = z := ⟨_, rfl⟩
            rw [hz] at CC
            have CHB := Lib.hid IW.out.ch
            by_cases hz0 : z = 0
            · subst hz0
              have ZN : Hid (firstE r f 6 = 0) := (firstE_on ZI.out hfk).trans hz
              have EN : Hid (setN (setK s) f n 6 = setK s 5 (setN (setK s) f n 5)) := setN_on hfk
              clear hand hfk AND FB FE ZI hz
              go_wp2_with (first | (refine wpList_lch rfl (.tmp 10) rfl RC V HVS.out CHB.out rfl ?_))
              refine CC.out.mono ?_
              rintro e w3 ⟨rfl, k3⟩
              have I3 := Lib.hid (IW.out.pure k3)
              have L3 : Hid (w3.heap[wr.heap.size]? = some (.cells #[.int .u16 32, .func (.func 73) #[] #[], .func (.func 74) #[] #[]] 108 (0, 0))) := (k3.block _ (block_lt LW.out) (by simp)).trans LW.out
              obtain ⟨l0, l1, l2, -⟩ := three L3.out
              have STB := Lib.hid I3.out.st
              have NZB := Lib.hid I3.out.nz
              clear k3 IW LW I q0 q1 q2 CHB CC
              go_wp2_with (first | (refine wpList_lstat rfl (.tmp 7) rfl RS _ rfl STB.out rfl ?_))
              refine (set1_any NZB.out s).mono ?_
              rintro e w5 ⟨rfl, nz5, k5⟩
              have I5 : Hid (WInv w RS RZ RC RX TB V #[.int .u16 s.ty, .int .u32 s.dev, .int .u8 s.kd, .int .u32 s.vr, .int .u64 s.pa, .int .u32 s.mo, .int .u32 s.atm, .int .u32 s.mt, .int .u64 s.ln, .string s.nm, .string s.ud, .string s.gd, .string s.mu] (setN (setK s) f n 6) w5) := by
                have := I3.out.moved k5 nz5
                rw [EN.out]
                exact this
              clear nz5 k5 I3 STB NZB L3 l0 l1 l2 EN
              go_wp2_with fail
              go_roundw
              case rel => exact ⟨6, by omega, rfl, ZN, I5⟩
              case measure => decide
            · obtain ⟨e1, e2⟩ := FB.out 5 z (by decide) ZI.out hfk hz hz0
              have hzb : (z != 0) = true := by simp [hz0]
              subst e1
              subst e2
              clear hand hfk AND FB FE ZI hz hz0
              go_wp2_with (first | (refine wpList_lch rfl (.tmp 10) rfl RC V HVS.out CHB.out rfl ?_))
              refine CC.out.mono ?_
              rintro e w3 ⟨rfl, k3⟩
              have I3 := Lib.hid (IW.out.pure k3)
              have RZB := Lib.hid I3.out.res
              clear k3 IW LW I q0 q1 q2 CHB CC
              go_wp2_with (first | (refine wpList_srow8 rfl (.tmp 8) (.tmp 46) rfl RZ rfl _ #[.int .u64 0, .int .u64 0, .string ⟨#[]⟩, .int .u32 0, .string ⟨#[]⟩, .string ⟨#[]⟩, .string ⟨#[]⟩, .int .u32 0, .int .u32 0, .int .u32 0, .int .u64 0, .int .i64 0, .int .i64 0] rfl RZB.out rfl rfl (by simp [Value.oneCell']) ?_; intro w4 b4 k4))
              have hl := run_loadVar_row (P := Tryz.prog) w4 RZ 46 46 _ (0, 0) _ b4 Tryz.underlying46 rfl size_node9
              refine bodyPost_ret (v := .tuple #[.agg #[.int .u64 0, .int .u64 0, .string ⟨#[]⟩, .int .u32 0, .string ⟨#[]⟩, .string ⟨#[]⟩, .string ⟨#[]⟩, .int .u32 0, .int .u32 0, .int .u32 0, .int .u64 0, .int .i64 0, .int .i64 0], .int .i64 E]) (by simp [results, Tryz.results17, asAddr, hl]) rfl ⟨rfl, ?_⟩
              exact I3.out.kept.trans k4 (fun i hi => Or.inr (by rw [List.mem_singleton] at hi; subst hi; exact I3.out.far.2.1))
          | false =>
            have hand' : bits .and .u16 (t : Int) 32 = 0 := by rw [hfk] at hand; exact hand
            have ZN : Hid (firstE r f 6 = 0) := firstE_off ZI.out hfk
            have IN : Hid (WInv w RS RZ RC RX TB V #[.int .u16 s.ty, .int .u32 s.dev, .int .u8 s.kd, .int .u32 s.vr, .int .u64 s.pa, .int .u32 s.mo, .int .u32 s.atm, .int .u32 s.mt, .int .u64 s.ln, .string s.nm, .string s.ud, .string s.gd, .string s.mu] (setN (setK s) f n 6) (wr.alloc (.cells #[.int .u16 32, .func (.func 73) #[] #[], .func (.func 74) #[] #[]] 108 (0, 0)))) := by
              have := IW.out
              rw [← setN_off (f := setK s) (x := n) hfk] at this
              exact this
            clear hand hfk AND FB FE ZI IW I
            go_wp2_with fail
            go_roundw
            case rel => exact ⟨6, by omega, rfl, ZN, IN⟩
            case measure => decide
        · obtain ⟨q0, q1, q2⟩ := (tab_rows I.out.tab).2.2.2.2.2.2.1
          have IW : Hid (WInv w RS RZ RC RX TB V #[.int .u16 s.ty, .int .u32 s.dev, .int .u8 s.kd, .int .u32 s.vr, .int .u64 s.pa, .int .u32 s.mo, .int .u32 s.atm, .int .u32 s.mt, .int .u64 s.ln, .string s.nm, .string s.ud, .string s.gd, .string s.mu] (setN (setK s) f n 6) (wr.alloc (.cells #[.int .u16 64, .func (.func 71) #[] #[], .func (.func 72) #[] #[]] 108 (0, 0)))) := I.out.pure ((Kept.refl [] _).alloc _)
          have LW : Hid ((wr.alloc (.cells #[.int .u16 64, .func (.func 71) #[] #[], .func (.func 72) #[] #[]] 108 (0, 0))).heap[wr.heap.size]? = some (.cells #[.int .u16 64, .func (.func 71) #[] #[], .func (.func 72) #[] #[]] 108 (0, 0))) := heap_alloc_new wr _
          have hand := AND.out 6 (by decide)
          cases hfk : f 6 with
          | true =>
            have hand' : bits .and .u16 (t : Int) 64 = 64 := by rw [hfk] at hand; exact hand
            obtain ⟨e1, e2⟩ := FB.out 6 97 (by decide) ZI.out hfk W6.out (by decide)
            subst e1
            subst e2
            clear hand hfk AND FB FE ZI
            have CHB := Lib.hid IW.out.ch
            go_wp2_with (first | (refine wpList_lch rfl (.tmp 10) rfl RC V HVS.out CHB.out rfl ?_))
            refine (refFixed_any _ V).mono ?_
            rintro e w3 ⟨rfl, k3⟩
            have I3 := Lib.hid (IW.out.pure k3)
            have RZB := Lib.hid I3.out.res
            clear k3 IW LW I q0 q1 q2 CHB
            go_wp2_with (first | (refine wpList_srow8 rfl (.tmp 8) (.tmp 46) rfl RZ rfl _ #[.int .u64 0, .int .u64 0, .string ⟨#[]⟩, .int .u32 0, .string ⟨#[]⟩, .string ⟨#[]⟩, .string ⟨#[]⟩, .int .u32 0, .int .u32 0, .int .u32 0, .int .u64 0, .int .i64 0, .int .i64 0] rfl RZB.out rfl rfl (by simp [Value.oneCell']) ?_; intro w4 b4 k4))
            have hl := run_loadVar_row (P := Tryz.prog) w4 RZ 46 46 _ (0, 0) _ b4 Tryz.underlying46 rfl size_node9
            refine bodyPost_ret (v := .tuple #[.agg #[.int .u64 0, .int .u64 0, .string ⟨#[]⟩, .int .u32 0, .string ⟨#[]⟩, .string ⟨#[]⟩, .string ⟨#[]⟩, .int .u32 0, .int .u32 0, .int .u32 0, .int .u64 0, .int .i64 0, .int .i64 0], .int .i64 97]) (by simp [results, Tryz.results17, asAddr, hl]) rfl ⟨rfl, ?_⟩
            exact I3.out.kept.trans k4 (fun i hi => Or.inr (by rw [List.mem_singleton] at hi; subst hi; exact I3.out.far.2.1))
          | false =>
            have hand' : bits .and .u16 (t : Int) 64 = 0 := by rw [hfk] at hand; exact hand
            have ZN : Hid (firstE r f 7 = 0) := firstE_off ZI.out hfk
            have IN : Hid (WInv w RS RZ RC RX TB V #[.int .u16 s.ty, .int .u32 s.dev, .int .u8 s.kd, .int .u32 s.vr, .int .u64 s.pa, .int .u32 s.mo, .int .u32 s.atm, .int .u32 s.mt, .int .u64 s.ln, .string s.nm, .string s.ud, .string s.gd, .string s.mu] (setN (setK s) f n 7) (wr.alloc (.cells #[.int .u16 64, .func (.func 71) #[] #[], .func (.func 72) #[] #[]] 108 (0, 0)))) := by
              have := IW.out
              rw [← setN_off (f := setK s) (x := n) hfk] at this
              exact this
            clear hand hfk AND FB FE ZI IW I
            go_wp2_with fail
            go_roundw
            case rel => exact ⟨7, by omega, rfl, ZN, IN⟩
            case measure => decide
        · obtain ⟨q0, q1, q2⟩ := (tab_rows I.out.tab).2.2.2.2.2.2.2.1
          have IW : Hid (WInv w RS RZ RC RX TB V #[.int .u16 s.ty, .int .u32 s.dev, .int .u8 s.kd, .int .u32 s.vr, .int .u64 s.pa, .int .u32 s.mo, .int .u32 s.atm, .int .u32 s.mt, .int .u64 s.ln, .string s.nm, .string s.ud, .string s.gd, .string s.mu] (setN (setK s) f n 7) (wr.alloc (.cells #[.int .u16 128, .func (.func 75) #[] #[], .func (.func 76) #[] #[]] 108 (0, 0)))) := I.out.pure ((Kept.refl [] _).alloc _)
          have LW : Hid ((wr.alloc (.cells #[.int .u16 128, .func (.func 75) #[] #[], .func (.func 76) #[] #[]] 108 (0, 0))).heap[wr.heap.size]? = some (.cells #[.int .u16 128, .func (.func 75) #[] #[], .func (.func 76) #[] #[]] 108 (0, 0))) := heap_alloc_new wr _
          have hand := AND.out 7 (by decide)
          cases hfk : f 7 with
          | true =>
            have hand' : bits .and .u16 (t : Int) 128 = 128 := by rw [hfk] at hand; exact hand
            have CC := Lib.hid (C7.out _ IW.out.kept)
            obtain ⟨z, hz⟩ : ∃ z, r 7 = z := ⟨_, rfl⟩
            rw [hz] at CC
            have CHB := Lib.hid IW.out.ch
            by_cases hz0 : z = 0
            · subst hz0
              have ZN : Hid (firstE r f 8 = 0) := (firstE_on ZI.out hfk).trans hz
              have EN : Hid (setN (setK s) f n 8 = setK s 7 (setN (setK s) f n 7)) := setN_on hfk
              clear hand hfk AND FB FE ZI hz
              go_wp2_with (first | (refine wpList_lch rfl (.tmp 10) rfl RC V HVS.out CHB.out rfl ?_))
              refine CC.out.mono ?_
              rintro e w3 ⟨rfl, k3⟩
              have I3 := Lib.hid (IW.out.pure k3)
              have L3 : Hid (w3.heap[wr.heap.size]? = some (.cells #[.int .u16 128, .func (.func 75) #[] #[], .func (.func 76) #[] #[]] 108 (0, 0))) := (k3.block _ (block_lt LW.out) (by simp)).trans LW.out
              obtain ⟨l0, l1, l2, -⟩ := three L3.out
              have STB := Lib.hid I3.out.st
              have NZB := Lib.hid I3.out.nz
              clear k3 IW LW I q0 q1 q2 CHB CC
              go_wp2_with (first | (refine wpList_lstat rfl (.tmp 7) rfl RS _ rfl STB.out rfl ?_))
              refine (set2_any NZB.out s).mono ?_
              rintro e w5 ⟨rfl, nz5, k5⟩
              have I5 : Hid (WInv w RS RZ RC RX TB V #[.int .u16 s.ty, .int .u32 s.dev, .int .u8 s.kd, .int .u32 s.vr, .int .u64 s.pa, .int .u32 s.mo, .int .u32 s.atm, .int .u32 s.mt, .int .u64 s.ln, .string s.nm, .string s.ud, .string s.gd, .string s.mu] (setN (setK s) f n 8) w5) := by
                have := I3.out.moved k5 nz5
                rw [EN.out]
                exact this
              clear nz5 k5 I3 STB NZB L3 l0 l1 l2 EN
              go_wp2_with fail
              go_roundw
              case rel => exact ⟨8, by omega, rfl, ZN, I5⟩
              case measure => decide
            · obtain ⟨e1, e2⟩ := FB.out 7 z (by decide) ZI.out hfk hz hz0
              have hzb : (z != 0) = true := by simp [hz0]
              subst e1
              subst e2
              clear hand hfk AND FB FE ZI hz hz0
              go_wp2_with (first | (refine wpList_lch rfl (.tmp 10) rfl RC V HVS.out CHB.out rfl ?_))
              refine CC.out.mono ?_
              rintro e w3 ⟨rfl, k3⟩
              have I3 := Lib.hid (IW.out.pure k3)
              have RZB := Lib.hid I3.out.res
              clear k3 IW LW I q0 q1 q2 CHB CC
              go_wp2_with (first | (refine wpList_srow8 rfl (.tmp 8) (.tmp 46) rfl RZ rfl _ #[.int .u64 0, .int .u64 0, .string ⟨#[]⟩, .int .u32 0, .string ⟨#[]⟩, .string ⟨#[]⟩, .string ⟨#[]⟩, .int .u32 0, .int .u32 0, .int .u32 0, .int .u64 0, .int .i64 0, .int .i64 0] rfl RZB.out rfl rfl (by simp [Value.oneCell']) ?_; intro w4 b4 k4))
              have hl := run_loadVar_row (P := Tryz.prog) w4 RZ 46 46 _ (0, 0) _ b4 Tryz.underlying46 rfl size_node9
              refine bodyPost_ret (v := .tuple #[.agg #[.int .u64 0, .int .u64 0, .string ⟨#[]⟩, .int .u32 0, .string ⟨#[]⟩, .string ⟨#[]⟩, .string ⟨#[]⟩, .int .u32 0, .int .u32 0, .int .u32 0, .int .u64 0, .int .i64 0, .int .i64 0], .int .i64 E]) (by simp [results, Tryz.results17, asAddr, hl]) rfl ⟨rfl, ?_⟩
              exact I3.out.kept.trans k4 (fun i hi => Or.inr (by rw [List.mem_singleton] at hi; subst hi; exact I3.out.far.2.1))
          | false =>
            have hand' : bits .and .u16 (t : Int) 128 = 0 := by rw [hfk] at hand; exact hand
            have ZN : Hid (firstE r f 8 = 0) := firstE_off ZI.out hfk
            have IN : Hid (WInv w RS RZ RC RX TB V #[.int .u16 s.ty, .int .u32 s.dev, .int .u8 s.kd, .int .u32 s.vr, .int .u64 s.pa, .int .u32 s.mo, .int .u32 s.atm, .int .u32 s.mt, .int .u64 s.ln, .string s.nm, .string s.ud, .string s.gd, .string s.mu] (setN (setK s) f n 8) (wr.alloc (.cells #[.int .u16 128, .func (.func 75) #[] #[], .func (.func 76) #[] #[]] 108 (0, 0)))) := by
              have := IW.out
              rw [← setN_off (f := setK s) (x := n) hfk] at this
              exact this
            clear hand hfk AND FB FE ZI IW I
            go_wp2_with fail
            go_roundw
            case rel => exact ⟨8, by omega, rfl, ZN, IN⟩
            case measure => decide
        · obtain ⟨q0, q1, q2⟩ := (tab_rows I.out.tab).2.2.2.2.2.2.2.2.1
          have IW : Hid (WInv w RS RZ RC RX TB V #[.int .u16 s.ty, .int .u32 s.dev, .int .u8 s.kd, .int .u32 s.vr, .int .u64 s.pa, .int .u32 s.mo, .int .u32 s.atm, .int .u32 s.mt, .int .u64 s.ln, .string s.nm, .string s.ud, .string s.gd, .string s.mu] (setN (setK s) f n 8) (wr.alloc (.cells #[.int .u16 256, .func (.func 77) #[] #[], .func (.func 78) #[] #[]] 108 (0, 0)))) := I.out.pure ((Kept.refl [] _).alloc _)
          have LW : Hid ((wr.alloc (.cells #[.int .u16 256, .func (.func 77) #[] #[], .func (.func 78) #[] #[]] 108 (0, 0))).heap[wr.heap.size]? = some (.cells #[.int .u16 256, .func (.func 77) #[] #[], .func (.func 78) #[] #[]] 108 (0, 0))) := heap_alloc_new wr _
          have hand := AND.out 8 (by decide)
          cases hfk : f 8 with
          | true =>
            have hand' : bits .and .u16 (t : Int) 256 = 256 := by rw [hfk] at hand; exact hand
            have CC := Lib.hid (C8.out _ IW.out.kept)
            obtain ⟨z, hz⟩ : ∃ z, r 8 = z := ⟨_, rfl⟩
            rw [hz] at CC
            have CHB := Lib.hid IW.out.ch
            by_cases hz0 : z = 0
            · subst hz0
              have ZN : Hid (firstE r f 9 = 0) := (firstE_on ZI.out hfk).trans hz
              have EN : Hid (setN (setK s) f n 9 = setK s 8 (setN (setK s) f n 8)) := setN_on hfk
              clear hand hfk AND FB FE ZI hz
              go_wp2_with (first | (refine wpList_lch rfl (.tmp 10) rfl RC V HVS.out CHB.out rfl ?_))
              refine CC.out.mono ?_
              rintro e w3 ⟨rfl, k3⟩
              have I3 := Lib.hid (IW.out.pure k3)
              have L3 : Hid (w3.heap[wr.heap.size]? = some (.cells #[.int .u16 256, .func (.func 77) #[] #[], .func (.func 78) #[] #[]] 108 (0, 0))) := (k3.block _ (block_lt LW.out) (by simp)).trans LW.out
              obtain ⟨l0, l1, l2, -⟩ := three L3.out
              have STB := Lib.hid I3.out.st
              have NZB := Lib.hid I3.out.nz
              clear k3 IW LW I q0 q1 q2 CHB CC
              go_wp2_with (first | (refine wpList_lstat rfl (.tmp 7) rfl RS _ rfl STB.out rfl ?_))
              refine (set3_any NZB.out s).mono ?_
              rintro e w5 ⟨rfl, nz5, k5⟩
              have I5 : Hid (WInv w RS RZ RC RX TB V #[.int .u16 s.ty, .int .u32 s.dev, .int .u8 s.kd, .int .u32 s.vr, .int .u64 s.pa, .int .u32 s.mo, .int .u32 s.atm, .int .u32 s.mt, .int .u64 s.ln, .string s.nm, .string s.ud, .string s.gd, .string s.mu] (setN (setK s) f n 9) w5) := by
                have := I3.out.moved k5 nz5
                rw [EN.out]
                exact this
              clear nz5 k5 I3 STB NZB L3 l0 l1 l2 EN
              go_wp2_with fail
              go_roundw
              case rel => exact ⟨9, by omega, rfl, ZN, I5⟩
              case measure => decide
            · obtain ⟨e1, e2⟩ := FB.out 8 z (by decide) ZI.out hfk hz hz0
              have hzb : (z != 0) = true := by simp [hz0]
              subst e1
              subst e2
              clear hand hfk AND FB FE ZI hz hz0
              go_wp2_with (first | (refine wpList_lch rfl (.tmp 10) rfl RC V HVS.out CHB.out rfl ?_))
              refine CC.out.mono ?_
              rintro e w3 ⟨rfl, k3⟩
              have I3 := Lib.hid (IW.out.pure k3)
              have RZB := Lib.hid I3.out.res
              clear k3 IW LW I q0 q1 q2 CHB CC
              go_wp2_with (first | (refine wpList_srow8 rfl (.tmp 8) (.tmp 46) rfl RZ rfl _ #[.int .u64 0, .int .u64 0, .string ⟨#[]⟩, .int .u32 0, .string ⟨#[]⟩, .string ⟨#[]⟩, .string ⟨#[]⟩, .int .u32 0, .int .u32 0, .int .u32 0, .int .u64 0, .int .i64 0, .int .i64 0] rfl RZB.out rfl rfl (by simp [Value.oneCell']) ?_; intro w4 b4 k4))
              have hl := run_loadVar_row (P := Tryz.prog) w4 RZ 46 46 _ (0, 0) _ b4 Tryz.underlying46 rfl size_node9
              refine bodyPost_ret (v := .tuple #[.agg #[.int .u64 0, .int .u64 0, .string ⟨#[]⟩, .int .u32 0, .string ⟨#[]⟩, .string ⟨#[]⟩, .string ⟨#[]⟩, .int .u32 0, .int .u32 0, .int .u32 0, .int .u64 0, .int .i64 0, .int .i64 0], .int .i64 E]) (by simp [results, Tryz.results17, asAddr, hl]) rfl ⟨rfl, ?_⟩
              exact I3.out.kept.trans k4 (fun i hi => Or.inr (by rw [List.mem_singleton] at hi; subst hi; exact I3.out.far.2.1))
          | false =>
            have hand' : bits .and .u16 (t : Int) 256 = 0 := by rw [hfk] at hand; exact hand
            have ZN : Hid (firstE r f 9 = 0) := firstE_off ZI.out hfk
            have IN : Hid (WInv w RS RZ RC RX TB V #[.int .u16 s.ty, .int .u32 s.dev, .int .u8 s.kd, .int .u32 s.vr, .int .u64 s.pa, .int .u32 s.mo, .int .u32 s.atm, .int .u32 s.mt, .int .u64 s.ln, .string s.nm, .string s.ud, .string s.gd, .string s.mu] (setN (setK s) f n 9) (wr.alloc (.cells #[.int .u16 256, .func (.func 77) #[] #[], .func (.func 78) #[] #[]] 108 (0, 0)))) := by
              have := IW.out
              rw [← setN_off (f := setK s) (x := n) hfk] at this
              exact this
            clear hand hfk AND FB FE ZI IW I
            go_wp2_with fail
            go_roundw
            case rel => exact ⟨9, by omega, rfl, ZN, IN⟩
            case measure => decide
        · obtain ⟨q0, q1, q2⟩ := (tab_rows I.out.tab).2.2.2.2.2.2.2.2.2.1
          have IW : Hid (WInv w RS RZ RC RX TB V #[.int .u16 s.ty, .int .u32 s.dev, .int .u8 s.kd, .int .u32 s.vr, .int .u64 s.pa, .int .u32 s.mo, .int .u32 s.atm, .int .u32 s.mt, .int .u64 s.ln, .string s.nm, .string s.ud, .string s.gd, .string s.mu] (setN (setK s) f n 9) (wr.alloc (.cells #[.int .u16 512, .func (.func 79) #[] #[], .func (.func 80) #[] #[]] 108 (0, 0)))) := I.out.pure ((Kept.refl [] _).alloc _)
          have LW : Hid ((wr.alloc (.cells #[.int .u16 512, .func (.func 79) #[] #[], .func (.func 80) #[] #[]] 108 (0, 0))).heap[wr.heap.size]? = some (.cells #[.int .u16 512, .func (.func 79) #[] #[], .func (.func 80) #[] #[]] 108 (0, 0))) := heap_alloc_new wr _
          have hand := AND.out 9 (by decide)
          cases hfk : f 9 with
          | true =>
            have hand' : bits .and .u16 (t : Int) 512 = 512 := by rw [hfk] at hand; exact hand
            have CC := Lib.hid (C9.out _ IW.out.kept)
            obtain ⟨z, hz⟩ : ∃ z, r 9 = z := ⟨_, rfl⟩
            rw [hz] at CC
            have CHB := Lib.hid IW.out.ch
            by_cases hz0 : z = 0
            · subst hz0
              have ZN : Hid (firstE r f 10 = 0) := (firstE_on ZI.out hfk).trans hz
              have EN : Hid (setN (setK s) f n 10 = setK s 9 (setN (setK s) f n 9)) := setN_on hfk
              clear hand hfk AND FB FE ZI hz
              go_wp2_with (first | (refine wpList_lch rfl (.tmp 10) rfl RC V HVS.out CHB.out rfl ?_))
              refine CC.out.mono ?_
              rintro e w3 ⟨rfl, k3⟩
              have I3 := Lib.hid (IW.out.pure k3)
              have L3 : Hid (w3.heap[wr.heap.size]? = some (.cells #[.int .u16 512, .func (.func 79) #[] #[], .func (.func 80) #[] #[]] 108 (0, 0))) := (k3.block _ (block_lt LW.out) (by simp)).trans LW.out
              obtain ⟨l0, l1, l2, -⟩ := three L3.out
              have STB := Lib.hid I3.out.st
              have NZB := Lib.hid I3.out.nz
              clear k3 IW LW I q0 q1 q2 CHB CC
              go_wp2_with (first | (refine wpList_lstat rfl (.tmp 7) rfl RS _ rfl STB.out rfl ?_))
              refine (set4_any NZB.out s).mono ?_
              rintro e w5 ⟨rfl, nz5, k5⟩
              have I5 : Hid (WInv w RS RZ RC RX TB V #[.int .u16 s.ty, .int .u32 s.dev, .int .u8 s.kd, .int .u32 s.vr, .int .u64 s.pa, .int .u32 s.mo, .int .u32 s.atm, .int .u32 s.mt, .int .u64 s.ln, .string s.nm, .string s.ud, .string s.gd, .string s.mu] (setN (setK s) f n 10) w5) := by
                have := I3.out.moved k5 nz5
                rw [EN.out]
                exact this
              clear nz5 k5 I3 STB NZB L3 l0 l1 l2 EN
              go_wp2_with fail
              go_roundw
              case rel => exact ⟨10, by omega, rfl, ZN, I5⟩
              case measure => decide
            · obtain ⟨e1, e2⟩ := FB.out 9 z (by decide) ZI.out hfk hz hz0
              have hzb : (z != 0) = true := by simp [hz0]
              subst e1
              subst e2
              clear hand hfk AND FB FE ZI hz hz0
              go_wp2_with (first | (refine wpList_lch rfl (.tmp 10) rfl RC V HVS.out CHB.out rfl ?_))
              refine CC.out.mono ?_
              rintro e w3 ⟨rfl, k3⟩
              have I3 := Lib.hid (IW.out.pure k3)
              have RZB := Lib.hid I3.out.res
              clear k3 IW LW I q0 q1 q2 CHB CC
              go_wp2_with (first | (refine wpList_srow8 rfl (.tmp 8) (.tmp 46) rfl RZ rfl _ #[.int .u64 0, .int .u64 0, .string ⟨#[]⟩, .int .u32 0, .string ⟨#[]⟩, .string ⟨#[]⟩, .string ⟨#[]⟩, .int .u32 0, .int .u32 0, .int .u32 0, .int .u64 0, .int .i64 0, .int .i64 0] rfl RZB.out rfl rfl (by simp [Value.oneCell']) ?_; intro w4 b4 k4))
              have hl := run_loadVar_row (P := Tryz.prog) w4 RZ 46 46 _ (0, 0) _ b4 Tryz.underlying46 rfl size_node9
              refine bodyPost_ret (v := .tuple #[.agg #[.int .u64 0, .int .u64 0, .string ⟨#[]⟩, .int .u32 0, .string ⟨#[]⟩, .string ⟨#[]⟩, .string ⟨#[]⟩, .int .u32 0, .int .u32 0, .int .u32 0, .int .u64 0, .int .i64 0, .int .i64 0], .int .i64 E]) (by simp [results, Tryz.results17, asAddr, hl]) rfl ⟨rfl, ?_⟩
              exact I3.out.kept.trans k4 (fun i hi => Or.inr (by rw [List.mem_singleton] at hi; subst hi; exact I3.out.far.2.1))
          | false =>
            have hand' : bits .and .u16 (t : Int) 512 = 0 := by rw [hfk] at hand; exact hand
            have ZN : Hid (firstE r f 10 = 0) := firstE_off ZI.out hfk
            have IN : Hid (WInv w RS RZ RC RX TB V #[.int .u16 s.ty, .int .u32 s.dev, .int .u8 s.kd, .int .u32 s.vr, .int .u64 s.pa, .int .u32 s.mo, .int .u32 s.atm, .int .u32 s.mt, .int .u64 s.ln, .string s.nm, .string s.ud, .string s.gd, .string s.mu] (setN (setK s) f n 10) (wr.alloc (.cells #[.int .u16 512, .func (.func 79) #[] #[], .func (.func 80) #[] #[]] 108 (0, 0)))) := by
              have := IW.out
              rw [← setN_off (f := setK s) (x := n) hfk] at this
              exact this
            clear hand hfk AND FB FE ZI IW I
            go_wp2_with fail
            go_roundw
            case rel => exact ⟨10, by omega, rfl, ZN, IN⟩
            case measure => decide
        · obtain ⟨q0, q1, q2⟩ := (tab_rows I.out.tab).2.2.2.2.2.2.2.2.2.2.1
          have IW : Hid (WInv w RS RZ RC RX TB V #[.int .u16 s.ty, .int .u32 s.dev, .int .u8 s.kd, .int .u32 s.vr, .int .u64 s.pa, .int .u32 s.mo, .int .u32 s.atm, .int .u32 s.mt, .int .u64 s.ln, .string s.nm, .string s.ud, .string s.gd, .string s.mu] (setN (setK s) f n 10) (wr.alloc (.cells #[.int .u16 1024, .func (.func 71) #[] #[], .func (.func 72) #[] #[]] 108 (0, 0)))) := I.out.pure ((Kept.refl [] _).alloc _)
          have LW : Hid ((wr.alloc (.cells #[.int .u16 1024, .func (.func 71) #[] #[], .func (.func 72) #[] #[]] 108 (0, 0))).heap[wr.heap.size]? = some (.cells #[.int .u16 1024, .func (.func 71) #[] #[], .func (.func 72) #[] #[]] 108 (0, 0))) := heap_alloc_new wr _
          have hand := AND.out 10 (by decide)
          cases hfk : f 10 with
          | true =>
            have hand' : bits .and .u16 (t : Int) 1024 = 1024 := by rw [hfk] at hand; exact hand
            obtain ⟨e1, e2⟩ := FB.out 10 97 (by decide) ZI.out hfk W10.out (by decide)
            subst e1
            subst e2
            clear hand hfk AND FB FE ZI
            have CHB := Lib.hid IW.out.ch
            go_wp2_with (first | (refine wpList_lch rfl (.tmp 10) rfl RC V HVS.out CHB.out rfl ?_))
            refine (refFixed_any _ V).mono ?_
            rintro e w3 ⟨rfl, k3⟩
            have I3 := Lib.hid (IW.out.pure k3)
            have RZB := Lib.hid I3.out.res
            clear k3 IW LW I q0 q1 q2 CHB
            go_wp2_with (first | (refine wpList_srow8 rfl (.tmp 8) (.tmp 46) rfl RZ rfl _ #[.int .u64 0, .int .u64 0, .string ⟨#[]⟩, .int .u32 0, .string ⟨#[]⟩, .string ⟨#[]⟩, .string ⟨#[]⟩, .int .u32 0, .int .u32 0, .int .u32 0, .int .u64 0, .int .i64 0, .int .i64 0] rfl RZB.out rfl rfl (by simp [Value.oneCell']) ?_; intro w4 b4 k4))
            have hl := run_loadVar_row (P := Tryz.prog) w4 RZ 46 46 _ (0, 0) _ b4 Tryz.underlying46 rfl size_node9
            refine bodyPost_ret (v := .tuple #[.agg #[.int .u64 0, .int .u64 0, .string ⟨#[]⟩, .int .u32 0, .string ⟨#[]⟩, .string ⟨#[]⟩, .string ⟨#[]⟩, .int .u32 0, .int .u32 0, .int .u32 0, .int .u64 0, .int .i64 0, .int .i64 0], .int .i64 97]) (by simp [results, Tryz.results17, asAddr, hl]) rfl ⟨rfl, ?_⟩
            exact I3.out.kept.trans k4 (fun i hi => Or.inr (by rw [List.mem_singleton] at hi; subst hi; exact I3.out.far.2.1))
          | false =>
            have hand' : bits .and .u16 (t : Int) 1024 = 0 := by rw [hfk] at hand; exact hand
            have ZN : Hid (firstE r f 11 = 0) := firstE_off ZI.out hfk
            have IN : Hid (WInv w RS RZ RC RX TB V #[.int .u16 s.ty, .int .u32 s.dev, .int .u8 s.kd, .int .u32 s.vr, .int .u64 s.pa, .int .u32 s.mo, .int .u32 s.atm, .int .u32 s.mt, .int .u64 s.ln, .string s.nm, .string s.ud, .string s.gd, .string s.mu] (setN (setK s) f n 11) (wr.alloc (.cells #[.int .u16 1024, .func (.func 71) #[] #[], .func (.func 72) #[] #[]] 108 (0, 0)))) := by
              have := IW.out
              rw [← setN_off (f := setK s) (x := n) hfk] at this
              exact this
            clear hand hfk AND FB FE ZI IW I
            go_wp2_with fail
            go_roundw
            case rel => exact ⟨11, by omega, rfl, ZN, IN⟩
            case measure => decide
        · obtain ⟨q0, q1, q2⟩ := (tab_rows I.out.tab).2.2.2.2.2.2.2.2.2.2.2.1
          have IW : Hid (WInv w RS RZ RC RX TB V #[.int .u16 s.ty, .int .u32 s.dev, .int .u8 s.kd, .int .u32 s.vr, .int .u64 s.pa, .int .u32 s.mo, .int .u32 s.atm, .int .u32 s.mt, .int .u64 s.ln, .string s.nm, .string s.ud, .string s.gd, .string s.mu] (setN (setK s) f n 11) (wr.alloc (.cells #[.int .u16 2048, .func (.func 81) #[] #[], .func (.func 82) #[] #[]] 108 (0, 0)))) := I.out.pure ((Kept.refl [] _).alloc _)
          have LW : Hid ((wr.alloc (.cells #[.int .u16 2048, .func (.func 81) #[] #[], .func (.func 82) #[] #[]] 108 (0, 0))).heap[wr.heap.size]? = some (.cells #[.int .u16 2048, .func (.func 81) #[] #[], .func (.func 82) #[] #[]] 108 (0, 0))) := heap_alloc_new wr _
          have hand := AND.out 11 (by decide)
          cases hfk : f 11 with
          | true =>
            have hand' : bits .and .u16 (t : Int) 2048 = 2048 := by rw [hfk] at hand; exact hand
            have CC := Lib.hid (C11.out _ IW.out.kept)
            obtain ⟨z, hz⟩ : ∃ z, r 11 = z := ⟨_, rfl⟩
            rw [hz] at CC
            have CHB := Lib.hid IW.out.ch
            by_cases hz0 : z = 0
            · subst hz0
              have ZN : Hid (firstE r f 12 = 0) := (firstE_on ZI.out hfk).trans hz
              have EN : Hid (setN (setK s) f n 12 = setK s 11 (setN (setK s) f n 11)) := setN_on hfk
              clear hand hfk AND FB FE ZI hz
              go_wp2_with (first | (refine wpList_lch rfl (.tmp 10) rfl RC V HVS.out CHB.out rfl ?_))
              refine CC.out.mono ?_
              rintro e w3 ⟨rfl, k3⟩
              have I3 := Lib.hid (IW.out.pure k3)
              have L3 : Hid (w3.heap[wr.heap.size]? = some (.cells #[.int .u16 2048, .func (.func 81) #[] #[], .func (.func 82) #[] #[]] 108 (0, 0))) := (k3.block _ (block_lt LW.out) (by simp)).trans LW.out
              obtain ⟨l0, l1, l2, -⟩ := three L3.out
              have STB := Lib.hid I3.out.st
              have NZB := Lib.hid I3.out.nz
              clear k3 IW LW I q0 q1 q2 CHB CC
              go_wp2_with (first | (refine wpList_lstat rfl (.tmp 7) rfl RS _ rfl STB.out rfl ?_))
              refine (set5_any NZB.out s).mono ?_
              rintro e w5 ⟨rfl, nz5, k5⟩
              have I5 : Hid (WInv w RS RZ RC RX TB V #[.int .u16 s.ty, .int .u32 s.dev, .int .u8 s.kd, .int .u32 s.vr, .int .u64 s.pa, .int .u32 s.mo, .int .u32 s.atm, .int .u32 s.mt, .int .u64 s.ln, .string s.nm, .string s.ud, .string s.gd, .string s.mu] (setN (setK s) f n 12) w5) := by
                have := I3.out.moved k5 nz5
                rw [EN.out]
                exact this
              clear nz5 k5 I3 STB NZB L3 l0 l1 l2 EN
              go_wp2_with fail
              go_roundw
              case rel => exact ⟨12, by omega, rfl, ZN, I5⟩
              case measure => decide
            · obtain ⟨e1, e2⟩ := FB.out 11 z (by decide) ZI.out hfk hz hz0
              have hzb : (z != 0) = true := by simp [hz0]
              subst e1
              subst e2
              clear hand hfk AND FB FE ZI hz hz0
              go_wp2_with (first | (refine wpList_lch rfl (.tmp 10) rfl RC V HVS.out CHB.out rfl ?_))
              refine CC.out.mono ?_
              rintro e w3 ⟨rfl, k3⟩
              have I3 := Lib.hid (IW.out.pure k3)
              have RZB := Lib.hid I3.out.res
              clear k3 IW LW I q0 q1 q2 CHB CC
              go_wp2_with (first | (refine wpList_srow8 rfl (.tmp 8) (.tmp 46) rfl RZ rfl _ #[.int .u64 0, .int .u64 0, .string ⟨#[]⟩, .int .u32 0, .string ⟨#[]⟩, .string ⟨#[]⟩, .string ⟨#[]⟩, .int .u32 0, .int .u32 0, .int .u32 0, .int .u64 0, .int .i64 0, .int .i64 0] rfl RZB.out rfl rfl (by simp [Value.oneCell']) ?_; intro w4 b4 k4))
              have hl := run_loadVar_row (P := Tryz.prog) w4 RZ 46 46 _ (0, 0) _ b4 Tryz.underlying46 rfl size_node9
              refine bodyPost_ret (v := .tuple #[.agg #[.int .u64 0, .int .u64 0, .string ⟨#[]⟩, .int .u32 0, .string ⟨#[]⟩, .string ⟨#[]⟩, .string ⟨#[]⟩, .int .u32 0, .int .u32 0, .int .u32 0, .int .u64 0, .int .i64 0, .int .i64 0], .int .i64 E]) (by simp [results, Tryz.results17, asAddr, hl]) rfl ⟨rfl, ?_⟩
              exact I3.out.kept.trans k4 (fun i hi => Or.inr (by rw [List.mem_singleton] at hi; subst hi; exact I3.out.far.2.1))
          | false =>
            have hand' : bits .and .u16 (t : Int) 2048 = 0 := by rw [hfk] at hand; exact hand
            have ZN : Hid (firstE r f 12 = 0) := firstE_off ZI.out hfk
            have IN : Hid (WInv w RS RZ RC RX TB V #[.int .u16 s.ty, .int .u32 s.dev, .int .u8 s.kd, .int .u32 s.vr, .int .u64 s.pa, .int .u32 s.mo, .int .u32 s.atm, .int .u32 s.mt, .int .u64 s.ln, .string s.nm, .string s.ud, .string s.gd, .string s.mu] (setN (setK s) f n 12) (wr.alloc (.cells #[.int .u16 2048, .func (.func 81) #[] #[], .func (.func 82) #[] #[]] 108 (0, 0)))) := by
              have := IW.out
              rw [← setN_off (f := setK s) (x := n) hfk] at this
              exact this
            clear hand hfk AND FB FE ZI IW I
            go_wp2_with fail
            go_roundw
            case rel => exact ⟨12, by omega, rfl, ZN, IN⟩
            case measure => decide
        · obtain ⟨q0, q1, q2⟩ := (tab_rows I.out.tab).2.2.2.2.2.2.2.2.2.2.2.2
          have IW : Hid (WInv w RS RZ RC RX TB V #[.int .u16 s.ty, .int .u32 s.dev, .int .u8 s.kd, .int .u32 s.vr, .int .u64 s.pa, .int .u32 s.mo, .int .u32 s.atm, .int .u32 s.mt, .int .u64 s.ln, .string s.nm, .string s.ud, .string s.gd, .string s.mu] (setN (setK s) f n 12) (wr.alloc (.cells #[.int .u16 4096, .func (.func 71) #[] #[], .func (.func 72) #[] #[]] 108 (0, 0)))) := I.out.pure ((Kept.refl [] _).alloc _)
          have LW : Hid ((wr.alloc (.cells #[.int .u16 4096, .func (.func 71) #[] #[], .func (.func 72) #[] #[]] 108 (0, 0))).heap[wr.heap.size]? = some (.cells #[.int .u16 4096, .func (.func 71) #[] #[], .func (.func 72) #[] #[]] 108 (0, 0))) := heap_alloc_new wr _
          have hand := AND.out 12 (by decide)
          cases hfk : f 12 with
          | true =>
            have hand' : bits .and .u16 (t : Int) 4096 = 4096 := by rw [hfk] at hand; exact hand
            obtain ⟨e1, e2⟩ := FB.out 12 97 (by decide) ZI.out hfk W12.out (by decide)
            subst e1
            subst e2
            clear hand hfk AND FB FE ZI
            have CHB := Lib.hid IW.out.ch
            go_wp2_with (first | (refine wpList_lch rfl (.tmp 10) rfl RC V HVS.out CHB.out rfl ?_))
            refine (refFixed_any _ V).mono ?_
            rintro e w3 ⟨rfl, k3⟩
            have I3 := Lib.hid (IW.out.pure k3)
            have RZB := Lib.hid I3.out.res
            clear k3 IW LW I q0 q1 q2 CHB
            go_wp2_with (first | (refine wpList_srow8 rfl (.tmp 8) (.tmp 46) rfl RZ rfl _ #[.int .u64 0, .int .u64 0, .string ⟨#[]⟩, .int .u32 0, .string ⟨#[]⟩, .string ⟨#[]⟩, .string ⟨#[]⟩, .int .u32 0, .int .u32 0, .int .u32 0, .int .u64 0, .int .i64 0, .int .i64 0] rfl RZB.out rfl rfl (by simp [Value.oneCell']) ?_; intro w4 b4 k4))
            have hl := run_loadVar_row (P := Tryz.prog) w4 RZ 46 46 _ (0, 0) _ b4 Tryz.underlying46 rfl size_node9
            refine bodyPost_ret (v := .tuple #[.agg #[.int .u64 0, .int .u64 0, .string ⟨#[]⟩, .int .u32 0, .string ⟨#[]⟩, .string ⟨#[]⟩, .string ⟨#[]⟩, .int .u32 0, .int .u32 0, .int .u32 0, .int .u64 0, .int .i64 0, .int .i64 0], .int .i64 97]) (by simp [results, Tryz.results17, asAddr, hl]) rfl ⟨rfl, ?_⟩
            exact I3.out.kept.trans k4 (fun i hi => Or.inr (by rw [List.mem_singleton] at hi; subst hi; exact I3.out.far.2.1))
          | false =>
            have hand' : bits .and .u16 (t : Int) 4096 = 0 := by rw [hfk] at hand; exact hand
            have ZN : Hid (firstE r f 13 = 0) := firstE_off ZI.out hfk
            have IN : Hid (WInv w RS RZ RC RX TB V #[.int .u16 s.ty, .int .u32 s.dev, .int .u8 s.kd, .int .u32 s.vr, .int .u64 s.pa, .int .u32 s.mo, .int .u32 s.atm, .int .u32 s.mt, .int .u64 s.ln, .string s.nm, .string s.ud, .string s.gd, .string s.mu] (setN (setK s) f n 13) (wr.alloc (.cells #[.int .u16 4096, .func (.func 71) #[] #[], .func (.func 72) #[] #[]] 108 (0, 0)))) := by
              have := IW.out
              rw [← setN_off (f := setK s) (x := n) hfk] at this
              exact this
            clear hand hfk AND FB FE ZI IW I
            go_wp2_with fail
            go_roundw
            case rel => exact ⟨13, by omega, rfl, ZN, IN⟩
            case measure => decide
        · obtain ⟨e1, e2⟩ := FE.out ZI.out
          have NZ := Lib.hid I.out.nz
          have RZB := Lib.hid I.out.res
          obtain ⟨x, hx⟩ : ∃ x, x = setN (setK s) f n 13 := ⟨_, rfl⟩
          rw [← hx] at e2 NZ I
          clear hx AND FB FE
          subst e1
          subst e2
          go_wp2_with (first | (refine wpList_lnode rfl (.tmp 12) rfl RX (wstA x) rfl NZ.out rfl ?_) | (refine wpList_srow8 rfl (.tmp 8) (.tmp 53) rfl RZ rfl _ (wstA x) rfl RZB.out rfl rfl (by simp [wstA, Value.oneCell']) ?_; intro w4 b4 k4))
          have hl := run_loadVar_row (P := Tryz.prog) w4 RZ 46 46 _ (0, 0) _ b4 Tryz.underlying46 rfl size_node9
          refine bodyPost_ret (v := .tuple #[.agg (wstA x), .int .i64 0]) (by simp [results, Tryz.results17, asAddr, hl]) rfl ⟨rfl, ?_⟩
          exact I.out.kept.trans k4 (fun i hi => Or.inr (by rw [List.mem_singleton] at hi; subst hi; exact I.out.far.2.1))

end Ru
end Go.Proofs.YteeheapenfklcaaGreatDoor
