/- RulesMore walked. -/
import Derived.Test.YtedkeomaldhojaaDoorRmb
namespace Go.Proofs.YtedkeomaldhojaaDoor
set_option linter.unusedVariables false
open Go.RowKit Go.Shelf
attribute [local go_sem] Oper.semAt_some
namespace Ru
open Go.Proofs.YtedkeomaldhojaaDoor.Utf Go.Proofs.YtedkeomaldhojaaDoor.Txt Go.PlainAid Go.Proofs.YtedkeomaldhojaaDoor.Mpf Go.Proofs.YtedkeomaldhojaaDoor.Us

/-- What Create makes. -/
def createA (T : List Acc) (u : ByteArray) (n : Nd) (tk fl : Bool) (name : ByteArray) (pm mode : Int) : Array Value :=
  if makeE T u n tk fl name pm mode = 0 then #[.int .u64 0, .int .u64 n.path, .string name, .int .u32 (modeInV n.mode pm), .string u, .string n.gid, .string u, .int .u32 0, .int .u32 0, .int .u32 0, .int .u64 0, .int .i64 0, .int .i64 0] else #[.int .u64 0, .int .u64 0, .string ⟨#[]⟩, .int .u32 0, .string ⟨#[]⟩, .string ⟨#[]⟩, .string ⟨#[]⟩, .int .u32 0, .int .u32 0, .int .u32 0, .int .u64 0, .int .i64 0, .int .i64 0]
theorem createA_ok (T : List Acc) (u : ByteArray) (n : Nd) (tk fl : Bool) (name : ByteArray) (pm mode : Int) : (createA T u n tk fl name pm mode).size = 13 ∧ (createA T u n tk fl name pm mode).all (·.oneCell') = true := by
  unfold createA
  split
  · exact ⟨rfl, by simp [Value.oneCell']⟩
  · exact ⟨rfl, by simp [Value.oneCell']⟩
theorem Create_any {w : World} {B q : Nat} {T : List Acc} (h : Tb w B q T) (u : ByteArray) (n p : Nd) (tk fl : Bool) (name : ByteArray) (pm mode : Int) (hu : u.size ≤ maxLen) (hg : n.gid.size ≤ maxLen) (hn : name.size ≤ 140737488355328) :
    Calls Tryd.prog 21 #[.pointer (some ⟨q, 0, none⟩), .string u, .agg #[.int .u64 n.path, .int .u64 n.parent, .string n.name, .int .u32 n.mode, .string n.uid, .string n.gid, .string n.muid, .int .u32 n.atime, .int .u32 n.mtime, .int .u32 n.vers, .int .u64 n.length, .int .i64 n.opens, .int .i64 n.kids, .int .u64 p.path, .int .u64 p.parent, .string p.name, .int .u32 p.mode, .string p.uid, .string p.gid, .string p.muid, .int .u32 p.atime, .int .u32 p.mtime, .int .u32 p.vers, .int .u64 p.length, .int .i64 p.opens, .int .i64 p.kids, .bool tk, .bool fl], .string name, .int .u32 pm, .int .u8 mode] w fun e w' => e = .returned (.tuple #[.agg (createA T u n tk fl name pm mode), .int .i64 (makeE T u n tk fl name pm mode)]) ∧ Kept [] w w' := by
  by_cases hz : makeE T u n tk fl name pm mode = 0
  · have := Create_ok h u n p tk fl name pm mode hu hg hn hz (modeInV n.mode pm) rfl
    unfold createA
    rw [if_pos hz, hz]
    exact this
  · have := Create_no h u n p tk fl name pm mode hu hg hn _ rfl hz
    unfold createA
    rw [if_neg hz]
    exact this
theorem Bf.made (w : World) (n p : Nd) (tk fl : Bool) : Bf (w.alloc (.cells #[.int .u64 n.path, .int .u64 n.parent, .string n.name, .int .u32 n.mode, .string n.uid, .string n.gid, .string n.muid, .int .u32 n.atime, .int .u32 n.mtime, .int .u32 n.vers, .int .u64 n.length, .int .i64 n.opens, .int .i64 n.kids, .int .u64 p.path, .int .u64 p.parent, .string p.name, .int .u32 p.mode, .string p.uid, .string p.gid, .string p.muid, .int .u32 p.atime, .int .u32 p.mtime, .int .u32 p.vers, .int .u64 p.length, .int .i64 p.opens, .int .i64 p.kids, .bool tk, .bool fl] 36)) w.heap.size n p tk fl := (MapKept.heap_alloc w _).1
theorem wpList_sfacts {w : World} {ops : Array Oper} {rest : List Oper} {o : Oper} {a : Act} {Q : Exit → Act → World → Prop} (hgd : o.guard = none) (x y : Operand) (ho : o.op = .store 36 x y) (g : Nat) (hx : a.eval x = .pointer (some ⟨g, 0, none⟩)) (old cs : Array Value)
    (hy : a.eval y = .agg cs) (hg : w.heap[g]? = some (.cells old 36 (0, 0))) (hs : old.size = 28) (hc : cs.size = 28) (h1 : cs.all (·.oneCell') = true)
    (h : ∀ w', w'.heap[g]? = some (.cells cs 36 (0, 0)) → Kept [g] w w' → wpList Tryd.prog ops Q rest (a.put o.dst undef) w') : wpList Tryd.prog ops Q (o :: rest) a w :=
  wpList_plain hgd fun K hK => by
    have := run_storeVar_row (P := Tryd.prog) w g 36 36 old cs hg (by rw [hc]; exact size_f8) (by rw [hs, hc]) h1
    unfold Oper.wp execOp
    simp only [ho, hx, hy, Instr.storeAt, Instr.sureAddr, Sem.run_bind, Sem.run_pure, Result.andThen_ok, this]
    exact hK _ _ (h _ (setRow_heap w g old cs 36 (0, 0) hg) ⟨rfl, rfl, rfl, by simp [World.setRow], fun k _ hk => setRow_other w g k _ (by simpa using hk)⟩)
theorem ml_kept {w w' : World} (h : Ml w) (k : Kept [] w w') : Ml w' := by
  obtain ⟨m, hc⟩ := h
  exact ⟨m, by rw [← hc]; exact World.cell?_of_block (k.block _ (World.block_lt_of_cell? w _ hc) (by simp))⟩
set_option maxHeartbeats 32000000 in
set_option maxRecDepth 100000 in
theorem more_any (w : World) (hm : Ml w) (text u : ByteArray) (n p : Nd) (tk fl : Bool) (name : ByteArray) (pm mode : Int) (x y : Int) (h0 : text.size ≤ 140737488355328) (h1 : u.size ≤ 140737488355328) (h2 : name.size ≤ 140737488355328) (n1 : n.name.size ≤ 140737488355328) (n2 : n.uid.size ≤ 140737488355328) (n3 : n.gid.size ≤ 140737488355328) (n4 : n.muid.size ≤ 140737488355328) (p1 : p.name.size ≤ 140737488355328) (p2 : p.uid.size ≤ 140737488355328) (p3 : p.gid.size ≤ 140737488355328) (p4 : p.muid.size ≤ 140737488355328) :
    Calls Tryd.prog 7 #[.agg #[.string text, .string u, .int .u64 n.path, .int .u64 n.parent, .string n.name, .int .u32 n.mode, .string n.uid, .string n.gid, .string n.muid, .int .u32 n.atime, .int .u32 n.mtime, .int .u32 n.vers, .int .u64 n.length, .int .i64 n.opens, .int .i64 n.kids, .int .u64 p.path, .int .u64 p.parent, .string p.name, .int .u32 p.mode, .string p.uid, .string p.gid, .string p.muid, .int .u32 p.atime, .int .u32 p.mtime, .int .u32 p.vers, .int .u64 p.length, .int .i64 p.opens, .int .i64 p.kids, .bool tk, .bool fl, .string name, .int .u32 pm, .int .u8 mode], .int .u32 x, .int .u32 y] w fun e w' => e = .returned (.bool true) ∧ Kept [] w w' := by
  obtain ⟨V, hV⟩ : ∃ V : Array Value, V = #[.string text, .string u, .int .u64 n.path, .int .u64 n.parent, .string n.name, .int .u32 n.mode, .string n.uid, .string n.gid, .string n.muid, .int .u32 n.atime, .int .u32 n.mtime, .int .u32 n.vers, .int .u64 n.length, .int .i64 n.opens, .int .i64 n.kids, .int .u64 p.path, .int .u64 p.parent, .string p.name, .int .u32 p.mode, .string p.uid, .string p.gid, .string p.muid, .int .u32 p.atime, .int .u32 p.mtime, .int .u32 p.vers, .int .u64 p.length, .int .i64 p.opens, .int .i64 p.kids, .bool tk, .bool fl, .string name, .int .u32 pm, .int .u8 mode] := ⟨_, rfl⟩
  have HVS : Hid (V.size = 33) := by rw [hV]; rfl
  rw [← hV]
  have MUC : Hid (∀ w, Calls Tryd.prog 16 #[.agg V] w fun e w' => e = .returned (.int .i64 (weightC text u n p name)) ∧ Kept [] w w') := fun w => by rw [hV]; exact much_any w text u n p tk fl name pm mode h0 h1 h2 n1 n2 n3 n4 p1 p2 p3 p4
  obtain ⟨wt, hwt⟩ : ∃ wt, wt = weightC text u n p name := ⟨_, rfl⟩
  rw [← hwt] at MUC
  have B0 : Hid ((w.alloc (.cells V 38)).heap[w.heap.size]? = some (.cells V 38 (0, 0))) := (MapKept.heap_alloc w _).1
  obtain ⟨w1, hw1⟩ : ∃ w1, w1 = w.alloc (.cells V 38) := ⟨_, rfl⟩
  obtain ⟨R, hR⟩ : ∃ R, R = w.heap.size := ⟨_, rfl⟩
  have K1 : Hid (Kept [] w w1) := by rw [hw1]; exact (Kept.refl _ _).alloc _
  have C1 : Hid (Bc w1 R text u n p tk fl name pm mode) := by
    have := B0.out
    rw [← hw1, ← hR, hV] at this
    exact this
  have NRW : Hid (w.heap.size ≤ R) := by show _ ≤ _; omega
  have HW1 := Lib.hid hw1
  have HR := Lib.hid hR
  have KNO := Lib.hid (fun w' (k : Kept [] w w') => known_any w' (ml_kept hm k))
  have TAB := Lib.hid (fun w' (k : Kept [] w w') => table_any w' text (ml_kept hm k) h0)
  obtain ⟨T, hT⟩ : ∃ T, T = tableT text := ⟨_, rfl⟩
  rw [← hT] at TAB
  clear hT hw1 hR hm hV
  by_cases hbig : 8388608 < wt
  · have hb : (8388608 : Int) < (wt : Int) := by omega
    clear hbig hwt h0 h1 h2 n1 n2 n3 n4 p1 p2 p3 p4
    go_enter Tryd.func7, Tryd.ntmps7
    go_wp2_with (first | (refine wpList_cmid (by rfl) (.tmp 3) rfl w.heap.size rfl V B0.out HVS.out ?_) | (go_at_call 16; rw [← HW1.out, ← HR.out]; refine (MUC.out _).mono ?_; rintro e w2 ⟨rfl, k2⟩))
    go_ret
    exact ⟨rfl, K1.out.trans k2 (fun i hi => by cases hi)⟩
  · have hb : ¬ (8388608 : Int) < (wt : Int) := by omega
    have small : ∀ s : ByteArray, s.size ≤ wt → s.size ≤ maxLen := fun s h => by unfold maxLen; omega
    have su : u.size ≤ maxLen := small u (by rw [hwt]; unfold weightC; omega)
    have sg : n.gid.size ≤ maxLen := small n.gid (by rw [hwt]; unfold weightC; omega)
    have sp : p.gid.size ≤ maxLen := small p.gid (by rw [hwt]; unfold weightC; omega)
    clear hbig hwt small h0 h1 n1 n2 n3 n4 p1 p2 p3 p4
    have iM := Lib.hid (more_make T u n tk fl name pm mode x)
    have iO := Lib.hid (more_open T u n p x y mode)
    have iR := Lib.hid (more_remove T u n p x y)
    have iS := Lib.hid (more_step T u n x)
    have sgm : (n.more x).gid.size ≤ maxLen := sg
    have spm : (p.more y).gid.size ≤ maxLen := sp
    have BM : Hid (∀ w' B, w'.heap[B]? = some (.cells #[.int .u64 n.path, .int .u64 n.parent, .string n.name, .int .u32 (moreM n.mode x), .string n.uid, .string n.gid, .string n.muid, .int .u32 n.atime, .int .u32 n.mtime, .int .u32 n.vers, .int .u64 n.length, .int .i64 n.opens, .int .i64 n.kids, .int .u64 p.path, .int .u64 p.parent, .string p.name, .int .u32 (moreM p.mode y), .string p.uid, .string p.gid, .string p.muid, .int .u32 p.atime, .int .u32 p.mtime, .int .u32 p.vers, .int .u64 p.length, .int .i64 p.opens, .int .i64 p.kids, .bool tk, .bool fl] 36 (0, 0)) → Bf w' B (n.more x) (p.more y) tk fl) := fun w' B h => h
    obtain ⟨nn, hnn⟩ : ∃ nn, nn = n.more x := ⟨_, rfl⟩
    obtain ⟨pp, hpp⟩ : ∃ pp, pp = p.more y := ⟨_, rfl⟩
    rw [← hnn] at iM iO iR iS sgm BM
    rw [← hpp] at iO iR spm BM
    clear hnn hpp
    have CRE := Lib.hid (fun w' B q (h : Tb w' B q T) => Create_any h u n p tk fl name pm mode su sg h2)
    have CRM := Lib.hid (fun w' B q (h : Tb w' B q T) => Create_any h u nn pp tk fl name pm mode su sgm h2)
    have OPE := Lib.hid (fun w' B q (h : Tb w' B q T) => Open_any h u n p tk fl mode su sg sp)
    have OPM := Lib.hid (fun w' B q (h : Tb w' B q T) => Open_any h u nn pp tk fl mode su sgm spm)
    have REM := Lib.hid (fun w' B q (h : Tb w' B q T) => Remove_any h u n p tk fl su sp)
    have RMM := Lib.hid (fun w' B q (h : Tb w' B q T) => Remove_any h u nn pp tk fl su spm)
    have STE := Lib.hid (fun w' B q (h : Tb w' B q T) => Step_any h u n su sg)
    have STM := Lib.hid (fun w' B q (h : Tb w' B q T) => Step_any h u nn su sgm)
    have MS1 := Lib.hid (createA_ok T u n tk fl name pm mode)
    have MS2 := Lib.hid (createA_ok T u nn tk fl name pm mode)
    obtain ⟨A1, hA1⟩ : ∃ A, A = createA T u n tk fl name pm mode := ⟨_, rfl⟩
    obtain ⟨A2, hA2⟩ : ∃ A, A = createA T u nn tk fl name pm mode := ⟨_, rfl⟩
    obtain ⟨e1, he1⟩ : ∃ A, A = makeE T u n tk fl name pm mode := ⟨_, rfl⟩
    obtain ⟨e2, he2⟩ : ∃ A, A = makeE T u nn tk fl name pm mode := ⟨_, rfl⟩
    obtain ⟨o1, ho1⟩ : ∃ A, A = openE T u n p mode := ⟨_, rfl⟩
    obtain ⟨o2, ho2⟩ : ∃ A, A = openE T u nn pp mode := ⟨_, rfl⟩
    obtain ⟨r1, hr1⟩ : ∃ A, A = removeE T u n p := ⟨_, rfl⟩
    obtain ⟨r2, hr2⟩ : ∃ A, A = removeE T u nn pp := ⟨_, rfl⟩
    obtain ⟨s1, hs1⟩ : ∃ A, A = stepE T u n := ⟨_, rfl⟩
    obtain ⟨s2, hs2⟩ : ∃ A, A = stepE T u nn := ⟨_, rfl⟩
    rw [← hA1, ← he1] at CRE
    rw [← hA2, ← he2] at CRM
    rw [← hA1] at MS1
    rw [← hA2] at MS2
    rw [← ho1] at OPE iO
    rw [← ho2] at OPM iO
    rw [← hr1] at REM iR
    rw [← hr2] at RMM iR
    rw [← hs1] at STE iS
    rw [← hs2] at STM iS
    rw [← he1, ← he2] at iM
    have c1 := moreM_cast n.mode x
    have c2 := moreM_cast p.mode y
    clear hA1 hA2 he1 he2 ho1 ho2 hr1 hr2 hs1 hs2 su sg sp sgm spm h2
    go_enter Tryd.func7, Tryd.ntmps7
    go_wp2_with (first | (refine wpList_cmid (by rfl) (.tmp 3) rfl w.heap.size rfl V B0.out HVS.out ?_) | (go_at_call 16; rw [← HW1.out, ← HR.out]; refine (MUC.out _).mono ?_; rintro e w2 ⟨rfl, k2⟩; have K2 : Hid (Kept [] w w2) := K1.out.trans k2 (fun i hi => by cases hi); have C2 := Lib.hid (C1.out.kept k2 (by simp)); obtain ⟨x0, x1, x30, x31, x32⟩ := C2.out.five; clear k2) | (go_at_call 10; refine (KNO.out _ K2.out).mono ?_; rintro e w3 ⟨rfl, k3⟩; clear x0 x1 x30 x31 x32; have K3 : Hid (Kept [] w w3) := K2.out.trans k3 (fun i hi => by cases hi); have C3 := Lib.hid (C2.out.kept k3 (by simp)); obtain ⟨x0, x1, x30, x31, x32⟩ := C3.out.five; clear k3) | (go_at_call 17; refine (TAB.out _ K3.out).mono ?_; rintro e w4 ⟨B, q, rfl, t4, k4⟩; clear x0 x1 x30 x31 x32; have K4 : Hid (Kept [] w w4) := K3.out.trans k4 (fun i hi => by cases hi); have C4 := Lib.hid (C3.out.kept k4 (by simp)); obtain ⟨x0, x1, x30, x31, x32⟩ := C4.out.five; have T4 := Lib.hid t4; clear k4 t4) | (refine wpList_fmid (by rfl) (.tmp 27) rfl R 2 rfl [.int .u64 n.path, .int .u64 n.parent, .string n.name, .int .u32 n.mode, .string n.uid, .string n.gid, .string n.muid, .int .u32 n.atime, .int .u32 n.mtime, .int .u32 n.vers, .int .u64 n.length, .int .i64 n.opens, .int .i64 n.kids, .int .u64 p.path, .int .u64 p.parent, .string p.name, .int .u32 p.mode, .string p.uid, .string p.gid, .string p.muid, .int .u32 p.atime, .int .u32 p.mtime, .int .u32 p.vers, .int .u64 p.length, .int .i64 p.opens, .int .i64 p.kids, .bool tk, .bool fl] C4.out.facts rfl ?_) | (refine wpList_sfacts rfl (.tmp 9) (.tmp 28) rfl w4.heap.size rfl _ #[.int .u64 n.path, .int .u64 n.parent, .string n.name, .int .u32 n.mode, .string n.uid, .string n.gid, .string n.muid, .int .u32 n.atime, .int .u32 n.mtime, .int .u32 n.vers, .int .u64 n.length, .int .i64 n.opens, .int .i64 n.kids, .int .u64 p.path, .int .u64 p.parent, .string p.name, .int .u32 p.mode, .string p.uid, .string p.gid, .string p.muid, .int .u32 p.atime, .int .u32 p.mtime, .int .u32 p.vers, .int .u64 p.length, .int .i64 p.opens, .int .i64 p.kids, .bool tk, .bool fl] rfl (MapKept.heap_alloc w4 _).1 rfl rfl (by simp [Value.oneCell']) ?_; intro w5 b5 k5; have M5 : Hid (Bf w5 w4.heap.size n p tk fl) := b5; have k45 : Kept [] w4 w5 := ((Kept.refl [] w4).alloc _).trans k5 (fun i hi => Or.inr (by simp at hi; omega)); clear x0 x1 x30 x31 x32; have K5 : Hid (Kept [] w w5) := K4.out.trans k45 (fun i hi => by cases hi); have C5 := Lib.hid (C4.out.kept k45 (by simp)); obtain ⟨x0, x1, x30, x31, x32⟩ := C5.out.five; have T5 := Lib.hid (T4.out.kept k45); have y3 := cell_of_row w5 w4.heap.size 3 _ _ (0, 0) b5; have y16 := cell_of_row w5 w4.heap.size 16 _ _ (0, 0) b5; have z3 := frozen_of_row w5 w4.heap.size 3 _ _ b5; have z16 := frozen_of_row w5 w4.heap.size 16 _ _ b5; have hne : Hid (R ≠ w4.heap.size) := Nat.ne_of_lt C4.out.lt; have K45 := Lib.hid k45; clear b5 k5 k45) | (obtain ⟨w6, hw6⟩ : ∃ w6, w6 = (w5.setCell ⟨w4.heap.size, 3, none⟩ (.int .u32 (moreM n.mode x))).setCell ⟨w4.heap.size, 16, none⟩ (.int .u32 (moreM p.mode y)) := ⟨_, rfl⟩; rw [← hw6]; have k56 : Kept [w4.heap.size] w5 w6 := (by rw [hw6]; exact ((Kept.refl _ _).setCell (Or.inl (by simp)) _).setCell (Or.inl (by simp)) _); have M6 : Hid (Bf w6 w4.heap.size nn pp tk fl) := (by rw [hw6]; exact BM.out _ _ (heap_set (.int .u32 (moreM p.mode y)) (heap_set (.int .u32 (moreM n.mode x)) M5.out))); clear x0 x1 x30 x31 x32 y3 y16 z3 z16; have K6 : Hid (Kept [] w w6) := (K5.out.trans k56 (fun i hi => Or.inr (by have := K4.out.size; simp at hi; omega))); have C6 := Lib.hid (C5.out.kept k56 (by have := hne.out; simpa using this)); obtain ⟨x0, x1, x30, x31, x32⟩ := C6.out.five; have T6 := Lib.hid (T4.out.kept (K45.out.trans k56 (fun i hi => Or.inr (by simp at hi; omega)))); clear k56 hw6; refine wpList_fmid (by rfl) (.tmp 49) rfl R 2 rfl [.int .u64 n.path, .int .u64 n.parent, .string n.name, .int .u32 n.mode, .string n.uid, .string n.gid, .string n.muid, .int .u32 n.atime, .int .u32 n.mtime, .int .u32 n.vers, .int .u64 n.length, .int .i64 n.opens, .int .i64 n.kids, .int .u64 p.path, .int .u64 p.parent, .string p.name, .int .u32 p.mode, .string p.uid, .string p.gid, .string p.muid, .int .u32 p.atime, .int .u32 p.mtime, .int .u32 p.vers, .int .u64 p.length, .int .i64 p.opens, .int .i64 p.kids, .bool tk, .bool fl] C6.out.facts rfl ?_) | (go_at_call 21; refine (CRE.out _ _ _ T6.out).mono ?_; rintro e w7 ⟨rfl, k7⟩; clear x0 x1 x30 x31 x32; have K7 : Hid (Kept [] w w7) := K6.out.trans k7 (fun i hi => by cases hi); have C7 := Lib.hid (C6.out.kept k7 (by simp)); obtain ⟨x0, x1, x30, x31, x32⟩ := C7.out.five; have M7 := Lib.hid (M6.out.kept k7 (by simp)); have T7 := Lib.hid (T6.out.kept k7); clear k7; clear CRE) | (refine wpList_srow8 rfl (.tmp 10) (.tmp 58) rfl w7.heap.size rfl _ A1 rfl (MapKept.heap_alloc w7 _).1 rfl MS1.out.1 MS1.out.2 ?_; intro w8 b8 k8'; have k8 : Kept [] w7 w8 := ((Kept.refl [] w7).alloc _).trans k8' (fun i hi => Or.inr (by simp at hi; omega)); clear x0 x1 x30 x31 x32 b8 k8'; have K8 : Hid (Kept [] w w8) := K7.out.trans k8 (fun i hi => by cases hi); have C8 := Lib.hid (C7.out.kept k8 (by simp)); obtain ⟨x0, x1, x30, x31, x32⟩ := C8.out.five; have M8 := Lib.hid (M7.out.kept k8 (by simp)); have T8 := Lib.hid (T7.out.kept k8); clear k8) | (refine wpList_fmid (by rfl) (.tmp 9) rfl w4.heap.size 0 rfl [.int .u64 nn.path, .int .u64 nn.parent, .string nn.name, .int .u32 nn.mode, .string nn.uid, .string nn.gid, .string nn.muid, .int .u32 nn.atime, .int .u32 nn.mtime, .int .u32 nn.vers, .int .u64 nn.length, .int .i64 nn.opens, .int .i64 nn.kids, .int .u64 pp.path, .int .u64 pp.parent, .string pp.name, .int .u32 pp.mode, .string pp.uid, .string pp.gid, .string pp.muid, .int .u32 pp.atime, .int .u32 pp.mtime, .int .u32 pp.vers, .int .u64 pp.length, .int .i64 pp.opens, .int .i64 pp.kids, .bool tk, .bool fl] M8.out.whole rfl ?_) | (go_at_call 21; refine (CRM.out _ _ _ T8.out).mono ?_; rintro e w9 ⟨rfl, k9⟩; clear x0 x1 x30 x31 x32; have K9 : Hid (Kept [] w w9) := K8.out.trans k9 (fun i hi => by cases hi); have C9 := Lib.hid (C8.out.kept k9 (by simp)); obtain ⟨x0, x1, x30, x31, x32⟩ := C9.out.five; have M9 := Lib.hid (M8.out.kept k9 (by simp)); have T9 := Lib.hid (T8.out.kept k9); clear k9) | (refine wpList_srow8 rfl (.tmp 12) (.tmp 72) rfl w9.heap.size rfl _ A2 rfl (MapKept.heap_alloc w9 _).1 rfl MS2.out.1 MS2.out.2 ?_; intro w10 b10 k10'; have k10 : Kept [] w9 w10 := ((Kept.refl [] w9).alloc _).trans k10' (fun i hi => Or.inr (by simp at hi; omega)); clear x0 x1 x30 x31 x32 b10 k10'; have K10 : Hid (Kept [] w w10) := K9.out.trans k10 (fun i hi => by cases hi); have C10 := Lib.hid (C9.out.kept k10 (by simp)); obtain ⟨x0, x1, x30, x31, x32⟩ := C10.out.five; have M10 := Lib.hid (M9.out.kept k10 (by simp)); have T10 := Lib.hid (T9.out.kept k10); clear k10) | (refine wpList_fmid (by rfl) (.tmp 83) rfl R 2 rfl [.int .u64 n.path, .int .u64 n.parent, .string n.name, .int .u32 n.mode, .string n.uid, .string n.gid, .string n.muid, .int .u32 n.atime, .int .u32 n.mtime, .int .u32 n.vers, .int .u64 n.length, .int .i64 n.opens, .int .i64 n.kids, .int .u64 p.path, .int .u64 p.parent, .string p.name, .int .u32 p.mode, .string p.uid, .string p.gid, .string p.muid, .int .u32 p.atime, .int .u32 p.mtime, .int .u32 p.vers, .int .u64 p.length, .int .i64 p.opens, .int .i64 p.kids, .bool tk, .bool fl] C10.out.facts rfl ?_))
    all_goals first | (exact absurd (iM.out ‹e1 = 0›) (by simpa using ‹(e2 != 0) = true›)) | skip
    all_goals
      refine (OPE.out _ _ _ T10.out).mono ?_
      rintro e w11 ⟨rfl, k11⟩
      clear x0 x1 x30 x31 x32
      have K11 : Hid (Kept [] w w11) := K10.out.trans k11 (fun i hi => by cases hi)
      have C11 := Lib.hid (C10.out.kept k11 (by simp))
      obtain ⟨x0, x1, x30, x31, x32⟩ := C11.out.five
      have M11 := Lib.hid (M10.out.kept k11 (by simp))
      have T11 := Lib.hid (T10.out.kept k11)
      clear k11
      by_cases ho : o1 = 0
      all_goals first
       | (
          subst ho
          have o2z : o2 = 0 := iO.out rfl
          subst o2z
          go_wp2_with (first | (refine wpList_fmid (by rfl) (.tmp 9) rfl w4.heap.size 0 rfl [.int .u64 nn.path, .int .u64 nn.parent, .string nn.name, .int .u32 nn.mode, .string nn.uid, .string nn.gid, .string nn.muid, .int .u32 nn.atime, .int .u32 nn.mtime, .int .u32 nn.vers, .int .u64 nn.length, .int .i64 nn.opens, .int .i64 nn.kids, .int .u64 pp.path, .int .u64 pp.parent, .string pp.name, .int .u32 pp.mode, .string pp.uid, .string pp.gid, .string pp.muid, .int .u32 pp.atime, .int .u32 pp.mtime, .int .u32 pp.vers, .int .u64 pp.length, .int .i64 pp.opens, .int .i64 pp.kids, .bool tk, .bool fl] M11.out.whole rfl ?_) | (go_at_call 20; refine (OPM.out _ _ _ T11.out).mono ?_; rintro e w12 ⟨rfl, k12⟩; clear x0 x1 x30 x31 x32; have K12 : Hid (Kept [] w w12) := K11.out.trans k12 (fun i hi => by cases hi); have C12 := Lib.hid (C11.out.kept k12 (by simp)); obtain ⟨x0, x1, x30, x31, x32⟩ := C12.out.five; have M12 := Lib.hid (M11.out.kept k12 (by simp)); have T12 := Lib.hid (T11.out.kept k12); clear k12) | (refine wpList_fmid (by rfl) (.tmp 102) rfl R 2 rfl [.int .u64 n.path, .int .u64 n.parent, .string n.name, .int .u32 n.mode, .string n.uid, .string n.gid, .string n.muid, .int .u32 n.atime, .int .u32 n.mtime, .int .u32 n.vers, .int .u64 n.length, .int .i64 n.opens, .int .i64 n.kids, .int .u64 p.path, .int .u64 p.parent, .string p.name, .int .u32 p.mode, .string p.uid, .string p.gid, .string p.muid, .int .u32 p.atime, .int .u32 p.mtime, .int .u32 p.vers, .int .u64 p.length, .int .i64 p.opens, .int .i64 p.kids, .bool tk, .bool fl] C12.out.facts rfl ?_)))
       | (
          have ho1 : (o1 == 0) = false := by simpa using ho
          clear ho
          have K12 := K11; have C12 := C11; have M12 := M11; have T12 := T11
          go_wp2_with (first | (refine wpList_fmid (by rfl) (.tmp 102) rfl R 2 rfl [.int .u64 n.path, .int .u64 n.parent, .string n.name, .int .u32 n.mode, .string n.uid, .string n.gid, .string n.muid, .int .u32 n.atime, .int .u32 n.mtime, .int .u32 n.vers, .int .u64 n.length, .int .i64 n.opens, .int .i64 n.kids, .int .u64 p.path, .int .u64 p.parent, .string p.name, .int .u32 p.mode, .string p.uid, .string p.gid, .string p.muid, .int .u32 p.atime, .int .u32 p.mtime, .int .u32 p.vers, .int .u64 p.length, .int .i64 p.opens, .int .i64 p.kids, .bool tk, .bool fl] C12.out.facts rfl ?_)))
    all_goals
      refine (REM.out _ _ _ T12.out).mono ?_
      rintro e w13 ⟨rfl, k13⟩
      clear x0 x1 x30 x31 x32
      have K13 : Hid (Kept [] w w13) := K12.out.trans k13 (fun i hi => by cases hi)
      have C13 := Lib.hid (C12.out.kept k13 (by simp))
      obtain ⟨x0, x1, x30, x31, x32⟩ := C13.out.five
      have M13 := Lib.hid (M12.out.kept k13 (by simp))
      have T13 := Lib.hid (T12.out.kept k13)
      clear k13
      by_cases hr : r1 = 0
      all_goals first
       | (
          subst hr
          have r2z : r2 = 0 := iR.out rfl
          subst r2z
          go_wp2_with (first | (refine wpList_fmid (by rfl) (.tmp 9) rfl w4.heap.size 0 rfl [.int .u64 nn.path, .int .u64 nn.parent, .string nn.name, .int .u32 nn.mode, .string nn.uid, .string nn.gid, .string nn.muid, .int .u32 nn.atime, .int .u32 nn.mtime, .int .u32 nn.vers, .int .u64 nn.length, .int .i64 nn.opens, .int .i64 nn.kids, .int .u64 pp.path, .int .u64 pp.parent, .string pp.name, .int .u32 pp.mode, .string pp.uid, .string pp.gid, .string pp.muid, .int .u32 pp.atime, .int .u32 pp.mtime, .int .u32 pp.vers, .int .u64 pp.length, .int .i64 pp.opens, .int .i64 pp.kids, .bool tk, .bool fl] M13.out.whole rfl ?_) | (go_at_call 23; refine (RMM.out _ _ _ T13.out).mono ?_; rintro e w14 ⟨rfl, k14⟩; clear x0 x1 x30 x31 x32; have K14 : Hid (Kept [] w w14) := K13.out.trans k14 (fun i hi => by cases hi); have C14 := Lib.hid (C13.out.kept k14 (by simp)); obtain ⟨x0, x1, x30, x31, x32⟩ := C14.out.five; have M14 := Lib.hid (M13.out.kept k14 (by simp)); have T14 := Lib.hid (T13.out.kept k14); clear k14) | (refine wpList_nmid (by rfl) (.tmp 118) rfl R 2 rfl [.int .u64 n.path, .int .u64 n.parent, .string n.name, .int .u32 n.mode, .string n.uid, .string n.gid, .string n.muid, .int .u32 n.atime, .int .u32 n.mtime, .int .u32 n.vers, .int .u64 n.length, .int .i64 n.opens, .int .i64 n.kids] C14.out.node rfl ?_)))
       | (
          have hr1 : (r1 == 0) = false := by simpa using hr
          clear hr
          have K14 := K13; have C14 := C13; have M14 := M13; have T14 := T13
          go_wp2_with (first | (refine wpList_nmid (by rfl) (.tmp 118) rfl R 2 rfl [.int .u64 n.path, .int .u64 n.parent, .string n.name, .int .u32 n.mode, .string n.uid, .string n.gid, .string n.muid, .int .u32 n.atime, .int .u32 n.mtime, .int .u32 n.vers, .int .u64 n.length, .int .i64 n.opens, .int .i64 n.kids] C14.out.node rfl ?_)))
    all_goals
      refine (STE.out _ _ _ T14.out).mono ?_
      rintro e w15 ⟨rfl, k15⟩
      clear x0 x1 x30 x31 x32
      have K15 : Hid (Kept [] w w15) := K14.out.trans k15 (fun i hi => by cases hi)
      have C15 := Lib.hid (C14.out.kept k15 (by simp))
      obtain ⟨x0, x1, x30, x31, x32⟩ := C15.out.five
      have M15 := Lib.hid (M14.out.kept k15 (by simp))
      have T15 := Lib.hid (T14.out.kept k15)
      clear k15
      by_cases hs : s1 = 0
      · subst hs
        have s2z : s2 = 0 := iS.out rfl
        subst s2z
        go_wp2_with (first | (refine wpList_nmid (by rfl) (.tmp 126) rfl w4.heap.size 0 rfl [.int .u64 nn.path, .int .u64 nn.parent, .string nn.name, .int .u32 nn.mode, .string nn.uid, .string nn.gid, .string nn.muid, .int .u32 nn.atime, .int .u32 nn.mtime, .int .u32 nn.vers, .int .u64 nn.length, .int .i64 nn.opens, .int .i64 nn.kids] M15.out.node rfl ?_) | (go_at_call 24; refine (STM.out _ _ _ T15.out).mono ?_; rintro e w16 ⟨rfl, k16⟩; clear x0 x1 x30 x31 x32; have K16 : Hid (Kept [] w w16) := K15.out.trans k16 (fun i hi => by cases hi); have C16 := Lib.hid (C15.out.kept k16 (by simp)); obtain ⟨x0, x1, x30, x31, x32⟩ := C16.out.five; have M16 := Lib.hid (M15.out.kept k16 (by simp)); have T16 := Lib.hid (T15.out.kept k16); clear k16))
        go_ret
        exact ⟨rfl, K16.out⟩
      · have hs1 : (s1 != 0) = true := by simp [hs]
        clear hs
        go_wp2_with fail
        go_ret
        exact ⟨rfl, K15.out⟩

end Ru
end Go.Proofs.YtedkeomaldhojaaDoor
