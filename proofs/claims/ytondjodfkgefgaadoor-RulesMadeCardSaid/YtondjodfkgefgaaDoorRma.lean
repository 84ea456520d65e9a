/- RulesMade walked. -/
import Derived.Test.YtondjodfkgefgaaDoorRml
import Derived.Test.YtondjodfkgefgaaDoorRmo
import Derived.Test.YtondjodfkgefgaaDoorOcs
namespace Go.Proofs.YtondjodfkgefgaaDoor
set_option linter.unusedVariables false
open Go.RowKit Go.Shelf
attribute [local go_sem] Oper.semAt_some
namespace Ru
open Go.Proofs.YtondjodfkgefgaaDoor.Utf Go.Proofs.YtondjodfkgefgaaDoor.Txt Go.PlainAid Go.Proofs.YtondjodfkgefgaaDoor.Mpf Go.Proofs.YtondjodfkgefgaaDoor.Us

def Bz8 (w : World) (R : Nat) (d : Nd) : Prop := w.heap[R]? = some (.cells #[.int .u64 d.path, .int .u64 d.parent, .string d.name, .int .u32 d.mode, .string d.uid, .string d.gid, .string d.muid, .int .u32 d.atime, .int .u32 d.mtime, .int .u32 d.vers, .int .u64 d.length, .int .i64 d.opens, .int .i64 d.kids] 26 (0, 0))
theorem Bz8.kept {w w' : World} {R : Nat} {d : Nd} (h : Bz8 w R d) (k : Kept [] w w') : Bz8 w' R d := (k.block R (block_lt h) (by simp)).trans h
theorem Bz8.three {w : World} {R : Nat} {d : Nd} (h : Bz8 w R d) : w.cell? ⟨R, 3, none⟩ = some (Value.int .u32 d.mode) := by rw [cell_of_row w R _ _ _ (0, 0) h]; rfl
theorem Tb.keptC {w w' : World} {B p R : Nat} {T : List Acc} {ds : Array Value} {z : Nat × Nat} (h : Tb w B p T) (k : Kept [R] w w') (hR : w.heap[R]? = some (.cells ds 30 z)) : Tb w' B p T := by
  obtain ⟨sl, m1, m2, n2, L, h, e⟩ := h
  have n1 : ∀ b cs t z', w.heap[b]? = some (.cells cs t z') → t ≠ 30 → b ∉ [R] := fun b cs t z' hb ht hm => by
    simp at hm
    subst hm
    rw [hb] at hR
    cases hR
    exact ht rfl
  have n3 : ∀ b es c, w.heap[b]? = some (.map es c) → b ∉ [R] := fun b es c hb hm => by
    simp at hm
    subst hm
    rw [hb] at hR
    cases hR
  refine ⟨sl, m1, m2, n2, L, ⟨(k.block _ (block_lt h.box) (n1 _ _ _ _ h.box (by decide))).trans h.box, h.pl.kept k ?_, h.bl.kept k ?_, own_kept h.row k ?_, fun x hx => (h.mem x hx).kept k ?_, h.far, h.ne⟩, e⟩
  · obtain ⟨es, c, hb, _⟩ := h.pl
    exact n3 _ _ _ hb
  · obtain ⟨es, c, hb, _⟩ := h.bl
    exact n3 _ _ _ hb
  · intro b hb
    obtain ⟨cs, hc⟩ := own_type h.row b hb
    exact n1 _ _ _ _ hc (by decide)
  · intro b hb
    obtain ⟨cs, hc⟩ := own_type (h.mem x hx) b hb
    exact n1 _ _ _ _ hc (by decide)
theorem kept_setCells (b : Nat) : ∀ (l : List Value) (o : Nat) (w : World), Kept [b] w (w.setCells b o l)
  | [], _, _ => Kept.refl _ _
  | v :: r, o, w => (((Kept.refl [b] w).setCell (Or.inl (by simp)) v).trans (kept_setCells b r (o + 1) _) (fun i hi => Or.inl hi))
set_option maxRecDepth 100000 in
theorem Bc.node_set {w : World} {R : Nat} {text u : ByteArray} {n p : Nd} {tk fl : Bool} {name : ByteArray} {pm mode : Int} (d : Nd) (C : Bc w R text u n p tk fl name pm mode) : Bc (w.setCells R 2 [.int .u64 d.path, .int .u64 d.parent, .string d.name, .int .u32 d.mode, .string d.uid, .string d.gid, .string d.muid, .int .u32 d.atime, .int .u32 d.mtime, .int .u32 d.vers, .int .u64 d.length, .int .i64 d.opens, .int .i64 d.kids]) R text u d p tk fl name pm mode := by
  unfold Bc at C ⊢
  simp only [World.setCells, Nat.reduceAdd]
  refine (heap_set _ (heap_set _ (heap_set _ (heap_set _ (heap_set _ (heap_set _ (heap_set _ (heap_set _ (heap_set _ (heap_set _ (heap_set _ (heap_set _ (heap_set _ C))))))))))))).trans ?_
  kernel_rfl
set_option maxRecDepth 100000 in
theorem Bc.flags_set {w : World} {R : Nat} {text u : ByteArray} {n p : Nd} {tk fl : Bool} {name : ByteArray} {pm mode : Int} (C : Bc w R text u n p tk fl name pm mode) : Bc ((w.setCell ⟨R, 28, none⟩ (.bool false)).setCell ⟨R, 29, none⟩ (.bool false)) R text u n p false false name pm mode := by
  unfold Bc at C ⊢
  refine (heap_set _ (heap_set _ C)).trans ?_
  kernel_rfl
set_option maxRecDepth 100000 in
theorem wpList_scase {w : World} {ops : Array Oper} {rest : List Oper} {o : Oper} {a : Act} {Q : Exit → Act → World → Prop} (hgd : o.guard = none) (x y : Operand) (ho : o.op = .store 26 x y) (R : Nat) (hx : a.eval x = .pointer (some ⟨R, 2, none⟩))
    {text u : ByteArray} {n p : Nd} {tk fl : Bool} {name : ByteArray} {pm mode : Int} (d : Nd) (hy : a.eval y = .agg #[.int .u64 d.path, .int .u64 d.parent, .string d.name, .int .u32 d.mode, .string d.uid, .string d.gid, .string d.muid, .int .u32 d.atime, .int .u32 d.mtime, .int .u32 d.vers, .int .u64 d.length, .int .i64 d.opens, .int .i64 d.kids]) (C : Bc w R text u n p tk fl name pm mode)
    (h : ∀ w', Bc w' R text u d p tk fl name pm mode → Kept [R] w w' → wpList Tryd.prog ops Q rest (a.put o.dst undef) w') : wpList Tryd.prog ops Q (o :: rest) a w := by
  refine wpList_store_mid hgd 26 x y ho R 2 #[.int .u64 d.path, .int .u64 d.parent, .string d.name, .int .u32 d.mode, .string d.uid, .string d.gid, .string d.muid, .int .u32 d.atime, .int .u32 d.mtime, .int .u32 d.vers, .int .u64 d.length, .int .i64 d.opens, .int .i64 d.kids] hx hy ?_ size_n8 (by simp [Value.oneCell']) (h _ (C.node_set d) (kept_setCells _ _ _ _))
  intro j hj
  have hj' : j < 13 := hj
  refine ⟨?_, frozen_of_row w R (2 + j) _ _ C⟩
  rw [cell_of_row w R (2 + j) _ _ (0, 0) C, Array.getElem?_eq_getElem (show 2 + j < 33 by omega)]
  rfl
theorem whole13 {w : World} {B : Nat} {A : Array Value} (h : w.heap[B]? = some (.cells A 26 (0, 0))) : w.rangeAt B 0 A.toList := by
  intro j v hv
  rw [Nat.zero_add, cell_of_row w B j _ _ (0, 0) h]
  simpa using hv
theorem Bz8.keptS {S : List Nat} {w w' : World} {R : Nat} {d : Nd} (h : Bz8 w R d) (k : Kept S w w') (hS : R ∉ S) : Bz8 w' R d := (k.block R (block_lt h) hS).trans h
theorem Bz8.whole {w : World} {R : Nat} {d : Nd} (h : Bz8 w R d) : w.rangeAt R 0 [.int .u64 d.path, .int .u64 d.parent, .string d.name, .int .u32 d.mode, .string d.uid, .string d.gid, .string d.muid, .int .u32 d.atime, .int .u32 d.mtime, .int .u32 d.vers, .int .u64 d.length, .int .i64 d.opens, .int .i64 d.kids] := whole13 h
set_option maxHeartbeats 32000000 in
set_option maxRecDepth 100000 in
theorem made_law (w : World) (hm : Ml w) (text u : ByteArray) (n p : Nd) (tk fl : Bool) (name : ByteArray) (pm mode : Int) (h0 : text.size ≤ 140737488355328) (h1 : u.size ≤ 140737488355328) (h2 : name.size ≤ 140737488355328) (n1 : n.name.size ≤ 140737488355328) (n2 : n.uid.size ≤ 140737488355328) (n3 : n.gid.size ≤ 140737488355328) (n4 : n.muid.size ≤ 140737488355328) (p1 : p.name.size ≤ 140737488355328) (p2 : p.uid.size ≤ 140737488355328) (p3 : p.gid.size ≤ 140737488355328) (p4 : p.muid.size ≤ 140737488355328) (hnm : n.mode < 4294967296) (hpm : p.mode < 4294967296) :
    Calls Tryd.prog 4 #[.agg #[.string text, .string u, .int .u64 n.path, .int .u64 n.parent, .string n.name, .int .u32 n.mode, .string n.uid, .string n.gid, .string n.muid, .int .u32 n.atime, .int .u32 n.mtime, .int .u32 n.vers, .int .u64 n.length, .int .i64 n.opens, .int .i64 n.kids, .int .u64 p.path, .int .u64 p.parent, .string p.name, .int .u32 p.mode, .string p.uid, .string p.gid, .string p.muid, .int .u32 p.atime, .int .u32 p.mtime, .int .u32 p.vers, .int .u64 p.length, .int .i64 p.opens, .int .i64 p.kids, .bool tk, .bool fl, .string name, .int .u32 pm, .int .u8 mode]] w fun e w' => e = .returned (.bool true) ∧ Kept [] w w' := by
  obtain ⟨V, hV⟩ : ∃ V : Array Value, V = #[.string text, .string u, .int .u64 n.path, .int .u64 n.parent, .string n.name, .int .u32 n.mode, .string n.uid, .string n.gid, .string n.muid, .int .u32 n.atime, .int .u32 n.mtime, .int .u32 n.vers, .int .u64 n.length, .int .i64 n.opens, .int .i64 n.kids, .int .u64 p.path, .int .u64 p.parent, .string p.name, .int .u32 p.mode, .string p.uid, .string p.gid, .string p.muid, .int .u32 p.atime, .int .u32 p.mtime, .int .u32 p.vers, .int .u64 p.length, .int .i64 p.opens, .int .i64 p.kids, .bool tk, .bool fl, .string name, .int .u32 pm, .int .u8 mode] := ⟨_, rfl⟩
  have HVS : Hid (V.size = 33) := by rw [hV]; rfl
  rw [← hV]
  have MUC : Hid (∀ w, Calls Tryd.prog 6 #[.agg V] w fun e w' => e = .returned (.int .i64 (weightC text u n p name)) ∧ Kept [] w w') := fun w => by rw [hV]; exact much_any w text u n p tk fl name pm mode h0 h1 h2 n1 n2 n3 n4 p1 p2 p3 p4
  obtain ⟨wt, hwt⟩ : ∃ wt, wt = weightC text u n p name := ⟨_, rfl⟩
  rw [← hwt] at MUC
  have B0 : Hid ((w.alloc (.cells V 30)).heap[w.heap.size]? = some (.cells V 30 (0, 0))) := (MapKept.heap_alloc w _).1
  obtain ⟨w1, hw1⟩ : ∃ w1, w1 = w.alloc (.cells V 30) := ⟨_, rfl⟩
  obtain ⟨R, hR⟩ : ∃ R, R = w.heap.size := ⟨_, rfl⟩
  have K1 : Hid (Kept [] w w1) := by rw [hw1]; exact (Kept.refl _ _).alloc _
  have C1 : Hid (Bc w1 R text u n p tk fl name pm mode) := by
    have := B0.out
    rw [← hw1, ← hR, hV] at this
    exact this
  have NRW : Hid (w.heap.size ≤ R) := by show _ ≤ _; omega
  have HW1 := Lib.hid hw1
  have HR := Lib.hid hR
  have KNO := Lib.hid (fun w' (k : Kept [] w w') => known_any w' (ml_kept hm k))
  have TAB := Lib.hid (fun w' (k : Kept [] w w') => table_any w' text (ml_kept hm k) h0)
  obtain ⟨T, hT⟩ : ∃ T, T = tableT text := ⟨_, rfl⟩
  rw [← hT] at TAB
  clear hT hw1 hR hm hV
  by_cases hbig : 8388608 < wt
  · have hb : (8388608 : Int) < (wt : Int) := by omega
    clear hbig hwt h0 h1 h2 n1 n2 n3 n4 p1 p2 p3 p4
    go_enter Tryd.func4, Tryd.ntmps4
    go_wp2_with (first | (refine wpList_cmid (by rfl) (.tmp 1) rfl w.heap.size rfl V B0.out HVS.out ?_) | (go_at_call 6; rw [← HW1.out, ← HR.out]; refine (MUC.out _).mono ?_; rintro e w2 ⟨rfl, k2⟩))
    go_ret
    exact ⟨rfl, K1.out.trans k2 (fun i hi => by cases hi)⟩
  · have hb : ¬ (8388608 : Int) < (wt : Int) := by omega
    have small : ∀ s : ByteArray, s.size ≤ wt → s.size ≤ maxLen := fun s h => by unfold maxLen; omega
    have su : u.size ≤ maxLen := small u (by rw [hwt]; unfold weightC; omega)
    have sg : n.gid.size ≤ maxLen := small n.gid (by rw [hwt]; unfold weightC; omega)
    clear hbig hwt small h0 h1 n1 n2 n3 n4 p1 p2 p3 p4
    have OC := own_cast n.mode hnm
    have BD : Hid (∀ w' B, w'.heap[B]? = some (.cells #[.int .u64 n.path, .int .u64 n.parent, .string n.name, .int .u32 ((n.mode ||| 2147484096 : Nat) : Int), .string u, .string n.gid, .string n.muid, .int .u32 n.atime, .int .u32 n.mtime, .int .u32 n.vers, .int .u64 n.length, .int .i64 n.opens, .int .i64 n.kids] 26 (0, 0)) → Bz8 w' B (n.own u)) := fun w' B h => h
    have MK := own_make T u n name pm mode
    have FE := made_e pm n.mode
    have FA := made_a ((n.mode ||| 2147484096 : Nat) : Int) pm
    have FB := made_b ((n.mode ||| 2147484096 : Nat) : Int) pm
    have FCc := made_c ((n.mode ||| 2147484096 : Nat) : Int) pm
    have FD := made_d ((n.mode ||| 2147484096 : Nat) : Int) pm
    have CRE := Lib.hid (fun w' B q (h : Tb w' B q T) => Create_any h u (n.own u) p false false name pm mode su sg h2)
    have CHK := Lib.hid (fun w' => Nm.check_any w' name h2)
    have WAN := Lib.hid (fun w' => Wants_any w' mode)
    have PER := Lib.hid (fun w' => Perm_any w' pm)
    have PE2 : Hid (permE pm = 0 ∨ permE pm = 91) := by show _ ∨ _; unfold permE; split <;> simp
    have WE2 : Hid (wantsE mode = 0 ∨ wantsE mode = 91) := by show _ ∨ _; unfold wantsE; split <;> simp
    have MS1 := Lib.hid (createA_ok T u (n.own u) false false name pm mode)
    have hY : makeE T u (n.own u) false false name pm mode = 0 → createA T u (n.own u) false false name pm mode = #[.int .u64 0, .int .u64 n.path, .string name, .int .u32 (modeInV ((n.mode ||| 2147484096 : Nat) : Int) pm), .string u, .string n.gid, .string u, .int .u32 0, .int .u32 0, .int .u32 0, .int .u64 0, .int .i64 0, .int .i64 0] := fun h => by
      unfold createA
      rw [if_pos h]
      rfl
    have hN : makeE T u (n.own u) false false name pm mode ≠ 0 → createA T u (n.own u) false false name pm mode = #[.int .u64 0, .int .u64 0, .string ⟨#[]⟩, .int .u32 0, .string ⟨#[]⟩, .string ⟨#[]⟩, .string ⟨#[]⟩, .int .u32 0, .int .u32 0, .int .u32 0, .int .u64 0, .int .i64 0, .int .i64 0] := fun h => by
      unfold createA
      rw [if_neg h]
    obtain ⟨A1, hA1⟩ : ∃ A, A = createA T u (n.own u) false false name pm mode := ⟨_, rfl⟩
    obtain ⟨e1, he1⟩ : ∃ A, A = makeE T u (n.own u) false false name pm mode := ⟨_, rfl⟩
    obtain ⟨md, hmd⟩ : ∃ A, A = modeInV ((n.mode ||| 2147484096 : Nat) : Int) pm := ⟨_, rfl⟩
    obtain ⟨we, hwe⟩ : ∃ A, A = wantsE mode := ⟨_, rfl⟩
    obtain ⟨wv, hwv⟩ : ∃ A, A = wantsV mode := ⟨_, rfl⟩
    obtain ⟨pe, hpe⟩ : ∃ A, A = permE pm := ⟨_, rfl⟩
    obtain ⟨ce, hce⟩ : ∃ A : Int, A = if Nm.chk name = true then 0 else 50 := ⟨_, rfl⟩
    have DDM : Hid ((n.own u).mode = n.mode ||| 2147484096 ∧ (n.own u).path = n.path ∧ (n.own u).gid = n.gid) := ⟨rfl, rfl, rfl⟩
    obtain ⟨dd, hdd⟩ : ∃ A, A = n.own u := ⟨_, rfl⟩
    rw [← hA1, ← he1] at CRE
    rw [← hA1] at MS1
    rw [← hA1, ← he1] at hY hN
    rw [← he1, ← hpe, ← hwe] at MK
    rw [← hmd] at FA FB FCc FD FE hY
    rw [← hwe, ← hwv] at WAN
    rw [← hwe] at WE2
    rw [← hpe] at PE2
    rw [← hpe] at PER
    rw [← hce] at CHK
    rw [← hdd] at CRE BD DDM
    have HH : Hid ((e1 = 0 → A1 = #[.int .u64 0, .int .u64 n.path, .string name, .int .u32 md, .string u, .string n.gid, .string u, .int .u32 0, .int .u32 0, .int .u32 0, .int .u64 0, .int .i64 0, .int .i64 0]) ∧ (e1 ≠ 0 → A1 = #[.int .u64 0, .int .u64 0, .string ⟨#[]⟩, .int .u32 0, .string ⟨#[]⟩, .string ⟨#[]⟩, .string ⟨#[]⟩, .int .u32 0, .int .u32 0, .int .u32 0, .int .u64 0, .int .i64 0, .int .i64 0]) ∧ (e1 = if Nm.chk name = false then 50 else if pe ≠ 0 ∨ we ≠ 0 then 91 else if bits .and .u32 pm 2147483648 ≠ 0 ∧ mode ≠ 0 then 92 else 0) ∧ (ce = if Nm.chk name = true then 0 else 50)) := ⟨hY, hN, MK, hce⟩
    have HM : Hid (bits .andNot .u32 (bits .andNot .u32 (bits .and .u32 md 511) (keptK pm)) ((n.mode ||| 2147484096 : Nat) : Int) = 0 ∧ bits .andNot .u32 md pm = 0 ∧ bits .andNot .u32 (bits .xor .u32 md pm) 511 = 0 ∧ (bits .and .u32 pm 2147483648 = 0 → bits .and .u32 md 73 = bits .and .u32 pm 73) ∧ bits .and .u32 md 448 = bits .and .u32 pm 448) := ⟨FA, FB, FCc, FD, FE⟩
    clear hA1 he1 hmd hwe hwv hpe hce hdd hY hN MK FA FB FCc FD FE su sg h2 hnm hpm
    go_enter Tryd.func4, Tryd.ntmps4
    go_upto_region 17 with (first | (refine wpList_cmid (by rfl) (.tmp 1) rfl w.heap.size rfl V B0.out HVS.out ?_) | (go_at_call 6; rw [← HW1.out, ← HR.out]; refine (MUC.out _).mono ?_; rintro e w2 ⟨rfl, k2⟩; have K2 : Hid (Kept [] w w2) := K1.out.trans k2 (fun i hi => by cases hi); have C2 := Lib.hid (C1.out.kept k2 (by simp)); obtain ⟨x0, x1, x30, x31, x32⟩ := C2.out.five; clear k2) | (go_at_call 7; refine (KNO.out _ K2.out).mono ?_; rintro e w3 ⟨rfl, k3⟩; clear x0 x1 x30 x31 x32; have K3 : Hid (Kept [] w w3) := K2.out.trans k3 (fun i hi => by cases hi); have C3 := Lib.hid (C2.out.kept k3 (by simp)); obtain ⟨x0, x1, x30, x31, x32⟩ := C3.out.five; clear k3) | (go_at_call 8; refine (TAB.out _ K3.out).mono ?_; rintro e w4 ⟨B, q, rfl, t4, k4⟩; clear x0 x1 x30 x31 x32; have K4 : Hid (Kept [] w w4) := K3.out.trans k4 (fun i hi => by cases hi); have C4 := Lib.hid (C3.out.kept k4 (by simp)); obtain ⟨x0, x1, x30, x31, x32⟩ := C4.out.five; have T4 := Lib.hid t4; clear k4 t4) | (refine wpList_nmid (by rfl) (.tmp 28) rfl R 2 rfl [.int .u64 n.path, .int .u64 n.parent, .string n.name, .int .u32 n.mode, .string n.uid, .string n.gid, .string n.muid, .int .u32 n.atime, .int .u32 n.mtime, .int .u32 n.vers, .int .u64 n.length, .int .i64 n.opens, .int .i64 n.kids] C4.out.node rfl ?_) | (refine wpList_srow8 rfl (.tmp 5) (.tmp 29) rfl w4.heap.size rfl _ #[.int .u64 n.path, .int .u64 n.parent, .string n.name, .int .u32 n.mode, .string n.uid, .string n.gid, .string n.muid, .int .u32 n.atime, .int .u32 n.mtime, .int .u32 n.vers, .int .u64 n.length, .int .i64 n.opens, .int .i64 n.kids] rfl (MapKept.heap_alloc w4 _).1 rfl rfl (by simp [Value.oneCell']) ?_; intro w5 b5 k5; have D5 : Hid (Bz8 w5 w4.heap.size n) := b5; have k45 : Kept [] w4 w5 := ((Kept.refl [] w4).alloc _).trans k5 (fun i hi => Or.inr (by simp at hi; omega)); clear x0 x1 x30 x31 x32; have K5 : Hid (Kept [] w w5) := K4.out.trans k45 (fun i hi => by cases hi); have C5 := Lib.hid (C4.out.kept k45 (by simp)); obtain ⟨x0, x1, x30, x31, x32⟩ := C5.out.five; have T5 := Lib.hid (T4.out.kept k45); have y3 := cell_of_row w5 w4.heap.size 3 _ _ (0, 0) b5; have y4 := cell_of_row w5 w4.heap.size 4 _ _ (0, 0) b5; have z3 := frozen_of_row w5 w4.heap.size 3 _ _ b5; have z4 := frozen_of_row w5 w4.heap.size 4 _ _ b5; have hne : Hid (R ≠ w4.heap.size) := Nat.ne_of_lt C4.out.lt; have K45 := Lib.hid k45; clear b5 k5 k45) | (obtain ⟨w6, hw6⟩ : ∃ w6, w6 = (w5.setCell ⟨w4.heap.size, 3, none⟩ (.int .u32 ((n.mode ||| 2147484096 : Nat) : Int))).setCell ⟨w4.heap.size, 4, none⟩ (.string u) := ⟨_, rfl⟩; rw [← hw6]; have k56 : Kept [w4.heap.size] w5 w6 := (by rw [hw6]; exact ((Kept.refl _ _).setCell (Or.inl (by simp)) _).setCell (Or.inl (by simp)) _); have D6 : Hid (Bz8 w6 w4.heap.size dd) := (by rw [hw6]; exact BD.out _ _ (heap_set (.string u) (heap_set (.int .u32 ((n.mode ||| 2147484096 : Nat) : Int)) D5.out))); clear x0 x1 x30 x31 x32 y3 y4 z3 z4; have K6 : Hid (Kept [] w w6) := (K5.out.trans k56 (fun i hi => Or.inr (by have := K4.out.size; simp at hi; omega))); have C6 := Lib.hid (C5.out.kept k56 (by have := hne.out; simpa using this)); obtain ⟨x0, x1, x30, x31, x32⟩ := C6.out.five; have T6 := Lib.hid (T4.out.kept (K45.out.trans k56 (fun i hi => Or.inr (by simp at hi; omega)))); clear k56 hw6; refine wpList_nmid (by rfl) (.tmp 5) rfl w4.heap.size 0 rfl [.int .u64 dd.path, .int .u64 dd.parent, .string dd.name, .int .u32 dd.mode, .string dd.uid, .string dd.gid, .string dd.muid, .int .u32 dd.atime, .int .u32 dd.mtime, .int .u32 dd.vers, .int .u64 dd.length, .int .i64 dd.opens, .int .i64 dd.kids] D6.out.whole rfl ?_) | (refine wpList_scase rfl (.tmp 39) (.tmp 37) rfl R rfl dd rfl C6.out ?_; intro w7 c7 k67; clear x0 x1 x30 x31 x32; have K7 : Hid (Kept [] w w7) := K6.out.trans k67 (fun i hi => Or.inr (by have := NRW.out; simp at hi; omega)); have C7 := Lib.hid c7; have T7 := Lib.hid (Tb.keptC T6.out k67 C6.out); have D7 := Lib.hid (D6.out.keptS k67 (by have := hne.out; simpa using fun e => this e.symm)); obtain ⟨x0, x1, x30, x31, x32⟩ := C7.out.five; have y28 := cell_of_row w7 R 28 _ _ (0, 0) c7; have y29 := cell_of_row w7 R 29 _ _ (0, 0) c7; have z28 := frozen_of_row w7 R 28 _ _ c7; have z29 := frozen_of_row w7 R 29 _ _ c7; clear c7 k67) | (obtain ⟨w8, hw8⟩ : ∃ w8, w8 = (w7.setCell ⟨R, 28, none⟩ (.bool false)).setCell ⟨R, 29, none⟩ (.bool false) := ⟨_, rfl⟩; rw [← hw8]; have k78 : Kept [R] w7 w8 := (by rw [hw8]; exact ((Kept.refl _ _).setCell (Or.inl (by simp)) _).setCell (Or.inl (by simp)) _); clear x0 x1 x30 x31 x32 y28 y29 z28 z29; have K8 : Hid (Kept [] w w8) := K7.out.trans k78 (fun i hi => Or.inr (by have := NRW.out; simp at hi; omega)); have C8 : Hid (Bc w8 R text u dd p false false name pm mode) := (by rw [hw8]; exact C7.out.flags_set); have T8 := Lib.hid (Tb.keptC T7.out k78 C7.out); have D8 := Lib.hid (D7.out.keptS k78 (by have := hne.out; simpa using fun e => this e.symm)); obtain ⟨x0, x1, x30, x31, x32⟩ := C8.out.five; clear k78 hw8; refine wpList_fmid (by rfl) (.tmp 48) rfl R 2 rfl [.int .u64 dd.path, .int .u64 dd.parent, .string dd.name, .int .u32 dd.mode, .string dd.uid, .string dd.gid, .string dd.muid, .int .u32 dd.atime, .int .u32 dd.mtime, .int .u32 dd.vers, .int .u64 dd.length, .int .i64 dd.opens, .int .i64 dd.kids, .int .u64 p.path, .int .u64 p.parent, .string p.name, .int .u32 p.mode, .string p.uid, .string p.gid, .string p.muid, .int .u32 p.atime, .int .u32 p.mtime, .int .u32 p.vers, .int .u64 p.length, .int .i64 p.opens, .int .i64 p.kids, .bool false, .bool false] C8.out.facts rfl ?_) | (go_at_call 9; refine (CRE.out _ _ _ T8.out).mono ?_; rintro e w9 ⟨rfl, k9⟩; clear x0 x1 x30 x31 x32; have K9 : Hid (Kept [] w w9) := K8.out.trans k9 (fun i hi => by cases hi); have C9 := Lib.hid (C8.out.kept k9 (by simp)); obtain ⟨x0, x1, x30, x31, x32⟩ := C9.out.five; have T9 := Lib.hid (T8.out.kept k9); have D9 := Lib.hid (D8.out.kept k9); clear k9; clear CRE) | (refine wpList_srow8 rfl (.tmp 6) (.tmp 57) rfl w9.heap.size rfl _ A1 rfl (MapKept.heap_alloc w9 _).1 rfl MS1.out.1 MS1.out.2 ?_; intro w10 b10 k10'; have k10 : Kept [] w9 w10 := ((Kept.refl [] w9).alloc _).trans k10' (fun i hi => Or.inr (by simp at hi; omega)); have E10 : Hid (w10.heap[w9.heap.size]? = some (.cells A1 26 (0, 0))) := b10; have D10 := Lib.hid (D9.out.kept k10); clear x0 x1 x30 x31 x32 b10 k10'; have K10 : Hid (Kept [] w w10) := K9.out.trans k10 (fun i hi => by cases hi); have C10 := Lib.hid (C9.out.kept k10 (by simp)); obtain ⟨x0, x1, x30, x31, x32⟩ := C10.out.five; have T10 := Lib.hid (T9.out.kept k10); clear k10) | (go_at_call 10; refine (WAN.out _).mono ?_; rintro e w11 ⟨rfl, rfl⟩) | (go_at_call 11; refine (CHK.out _).mono ?_; rintro e w12 ⟨rfl, k12⟩; clear x0 x1 x30 x31 x32; have K12 : Hid (Kept [] w w12) := K10.out.trans k12 (fun i hi => by cases hi); have C12 := Lib.hid (C10.out.kept k12 (by simp)); obtain ⟨x0, x1, x30, x31, x32⟩ := C12.out.five; have D12 := Lib.hid (D10.out.kept k12); have E12 : Hid (w12.heap[w9.heap.size]? = some (.cells A1 26 (0, 0))) := (k12.block _ (block_lt E10.out) (by simp)).trans E10.out; clear k12))
    have HDE : Hid (w4.heap.size ≠ w9.heap.size) := Nat.ne_of_lt (block_lt D9.out)
    have HRE : Hid (R ≠ w9.heap.size) := Nat.ne_of_lt C9.out.lt
    have HE1 := Lib.hid HH.out.2.2.1
    have HC1 := Lib.hid HH.out.2.2.2
    have HY1 := Lib.hid HH.out.1
    have HN1 := Lib.hid HH.out.2.1
    clear HH
    go_cut [10, 11, 12] from 67 to 92 (fun s10 s11 s12 wx => s10 = .bool (bits .and .u32 pm 2147483648 != 0) ∧ s12 = .bool (decide (e1 = 0)) ∧ w12 = wx)
    case first =>
      clear HY1 HN1 HM OC DDM HDE HRE BD E12 D12
      have hE := HE1.out
      have hC := HC1.out
      have hpe := PE2.out
      have hwe := WE2.out
      cases hck : Nm.chk name with
      | false =>
        rw [hck] at hE hC
        simp only [if_true, Bool.false_eq_true, if_false] at hE hC
        subst hE
        subst hC
        clear hpe hwe HE1 HC1 hck
        go_wp2_with (first | (go_at_call 12; refine (PER.out _).mono ?_; rintro e w13 ⟨rfl, rfl⟩))
        go_meet
        exact ⟨rfl, rfl, rfl⟩
      | true =>
        rw [hck] at hE hC
        simp only [if_true, Bool.true_eq_false, if_false] at hE hC
        subst hC
        obtain ⟨dB, hdb⟩ : ∃ b, (bits .and .u32 pm 2147483648 != 0) = b := ⟨_, rfl⟩
        obtain ⟨mB, hmb⟩ : ∃ b, (mode == 0) = b := ⟨_, rfl⟩
        have hiff : (bits .and .u32 pm 2147483648 ≠ 0 ∧ mode ≠ 0) = (dB = true ∧ mB = false) := by rw [← hdb, ← hmb]; simp
        have hE2 : e1 = if pe ≠ 0 ∨ we ≠ 0 then 91 else if dB = true ∧ mB = false then 92 else 0 := by rw [hE]; simp only [hiff]
        clear hiff hE
        rcases hpe with rfl | rfl <;> rcases hwe with rfl | rfl <;> cases dB <;> cases mB
        all_goals
          have hE3 : e1 = _ := hE2
          simp at hE2
          subst hE2
          clear HE1 HC1 hck hE3
          go_wp2_with (first | (go_at_call 12; refine (PER.out _).mono ?_; rintro e w13 ⟨rfl, rfl⟩))
          go_meet
          exact ⟨by rw [hdb], rfl, rfl⟩
    case rest =>
      obtain ⟨rfl, rfl, rfl⟩ := hcut
      clear PER WAN CHK PE2 WE2 HE1 HC1
      by_cases he : e1 = 0
      · subst he
        have hA := HY1.out rfl
        subst hA
        rw [← DDM.out.2.1, ← DDM.out.2.2] at E12
        obtain ⟨fa, fb, fc, fd, fe⟩ := HM.out
        have q3 := cell_of_row w12 w4.heap.size 3 _ _ (0, 0) D12.out
        have m3 := cell_of_row w12 w9.heap.size 3 _ _ (0, 0) E12.out
        have zm3 := frozen_of_row w12 w9.heap.size 3 _ _ E12.out
        by_cases hd : bits .and .u32 pm 2147483648 = 0
        · have hk : keptK pm = 73 := by unfold keptK; rw [if_pos hd]
          rw [hk, ← DDM.out.1] at fa
          have fd := fd hd
          clear HY1 HN1 HM hk OC
          go_wp2_with (first | (obtain ⟨w14, hw14⟩ : ∃ w14, w14 = w12.setCell ⟨w9.heap.size, 3, none⟩ (.int .u32 0) := ⟨_, rfl⟩; rw [← hw14]; have E14 : Hid (w14.heap[w9.heap.size]? = some (.cells #[.int .u64 0, .int .u64 dd.path, .string name, .int .u32 0, .string u, .string dd.gid, .string u, .int .u32 0, .int .u32 0, .int .u32 0, .int .u64 0, .int .i64 0, .int .i64 0] 26 (0, 0))) := (by rw [hw14]; exact heap_set _ E12.out); have k14 : Kept [w9.heap.size] w12 w14 := (by rw [hw14]; exact (Kept.refl _ _).setCell (Or.inl (by simp)) _); have K14 : Hid (Kept [] w w14) := K12.out.trans k14 (fun i hi => Or.inr (by have := K9.out.size; simp at hi; omega)); have g0 := cell_of_row w14 w4.heap.size 0 _ _ (0, 0) (D12.out.keptS k14 (by have := HDE.out; simpa using this)); have g5 := cell_of_row w14 w4.heap.size 5 _ _ (0, 0) (D12.out.keptS k14 (by have := HDE.out; simpa using this)); clear x0 x1 x30 x31 x32 q3 m3 zm3; obtain ⟨x0, x1, x30, x31, x32⟩ := (C12.out.kept k14 (by have := HRE.out; simpa using this)).five; clear k14 hw14; refine wpList_nmid (by rfl) (.tmp 6) rfl w9.heap.size 0 rfl [.int .u64 0, .int .u64 dd.path, .string name, .int .u32 0, .string u, .string dd.gid, .string u, .int .u32 0, .int .u32 0, .int .u32 0, .int .u64 0, .int .i64 0, .int .i64 0] (whole13 E14.out) rfl ?_))
          go_ret
          exact ⟨by simp, K14.out⟩
        · have hk : keptK pm = 0 := by unfold keptK; rw [if_neg hd]
          have hdb : (bits .and .u32 pm 2147483648 != 0) = true := by simpa using hd
          rw [hk, ← DDM.out.1] at fa
          clear HY1 HN1 HM hk fd hd OC
          go_wp2_with (first | (obtain ⟨w14, hw14⟩ : ∃ w14, w14 = w12.setCell ⟨w9.heap.size, 3, none⟩ (.int .u32 0) := ⟨_, rfl⟩; rw [← hw14]; have E14 : Hid (w14.heap[w9.heap.size]? = some (.cells #[.int .u64 0, .int .u64 dd.path, .string name, .int .u32 0, .string u, .string dd.gid, .string u, .int .u32 0, .int .u32 0, .int .u32 0, .int .u64 0, .int .i64 0, .int .i64 0] 26 (0, 0))) := (by rw [hw14]; exact heap_set _ E12.out); have k14 : Kept [w9.heap.size] w12 w14 := (by rw [hw14]; exact (Kept.refl _ _).setCell (Or.inl (by simp)) _); have K14 : Hid (Kept [] w w14) := K12.out.trans k14 (fun i hi => Or.inr (by have := K9.out.size; simp at hi; omega)); have g0 := cell_of_row w14 w4.heap.size 0 _ _ (0, 0) (D12.out.keptS k14 (by have := HDE.out; simpa using this)); have g5 := cell_of_row w14 w4.heap.size 5 _ _ (0, 0) (D12.out.keptS k14 (by have := HDE.out; simpa using this)); clear x0 x1 x30 x31 x32 q3 m3 zm3; obtain ⟨x0, x1, x30, x31, x32⟩ := (C12.out.kept k14 (by have := HRE.out; simpa using this)).five; clear k14 hw14; refine wpList_nmid (by rfl) (.tmp 6) rfl w9.heap.size 0 rfl [.int .u64 0, .int .u64 dd.path, .string name, .int .u32 0, .string u, .string dd.gid, .string u, .int .u32 0, .int .u32 0, .int .u32 0, .int .u64 0, .int .i64 0, .int .i64 0] (whole13 E14.out) rfl ?_))
          go_ret
          exact ⟨by simp, K14.out⟩
      · have hA := HN1.out he
        subst hA
        have heb : (e1 == 0) = false := by simpa using he
        have hed : decide (e1 = 0) = false := decide_eq_false he
        rw [hed]
        clear HY1 HN1 HM OC he hed
        go_wp2_with (first | (refine wpList_nmid (by rfl) (.tmp 6) rfl w9.heap.size 0 rfl [.int .u64 0, .int .u64 0, .string ⟨#[]⟩, .int .u32 0, .string ⟨#[]⟩, .string ⟨#[]⟩, .string ⟨#[]⟩, .int .u32 0, .int .u32 0, .int .u32 0, .int .u64 0, .int .i64 0, .int .i64 0] (whole13 E12.out) rfl ?_))
        go_ret
        exact ⟨rfl, K12.out⟩
end Ru
end Go.Proofs.YtondjodfkgefgaaDoor
