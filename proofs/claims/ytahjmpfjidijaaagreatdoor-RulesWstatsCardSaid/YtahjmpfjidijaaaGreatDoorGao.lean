/- A list of whole numbers that came in, opened; the wrap of a row whose listed variables are laid, whose arguments have a size and that asks the world's shape. rules: a case as it lies; much, table. -/
import Derived.WalkKit
import Derived.ProofKit
import Derived.OpenShut
import Derived.LaidMore
import Derived.Deep.Slices
import Derived.SizedLaws
import Derived.Shelf.Vars
import Derived.Test.YtahjmpfjidijaaaGreatDoorGaa
import Derived.Test.YtahjmpfjidijaaaGreatDoorGae
import Derived.Test.YtahjmpfjidijaaaGreatDoorGak
import Derived.Test.YtahjmpfjidijaaaGreatDoorGam
import Derived.Test.YtahjmpfjidijaaaGreatDoorHRu6
section
namespace Go.Proofs.YtahjmpfjidijaaaGreatDoor.Nm
open Go.ChangeShapes Go.WideShapes Go.ChangeAt Go.RowKit Go.Deep
set_option linter.unusedVariables false

/-- Whole numbers that can be read. -/
def LsZ (w : World) (v : Value) (xs : List Int) : Prop :=
  ∃ a c, v = .slice a xs.length c ∧ xs.length ≤ c ∧ (xs = [] ∨ ∃ b o, a = some ⟨b, o, none⟩ ∧ b < w.heap.size ∧ ∀ j (x : Int), xs[j]? = some x → w.cell? ⟨b, o + j, none⟩ = some (.int .i64 x))
theorem LsZ.kept {w w' : World} {v : Value} {xs : List Int} {S : List Nat} (h : LsZ w v xs) (k : Kept S w w') (hd : ∀ a n c, v = .slice (some a) n c → a.block ∉ S) : LsZ w' v xs := by
  obtain ⟨a, c, rfl, hc, h⟩ := h
  refine ⟨a, c, rfl, hc, ?_⟩
  rcases h with h | ⟨b, o, rfl, hb, h⟩
  · exact Or.inl h
  · refine Or.inr ⟨b, o, rfl, by have := k.size; omega, fun j x hx => ?_⟩
    have := h j x hx
    have e := k.block b hb (hd _ _ _ rfl)
    unfold World.cell? at this ⊢
    rw [e]
    exact this
theorem laidOutI : laidOutB Tryz.prog = true := by kernel_rfl
theorem kI : Tryz.prog.cellsOf 3 = 1 := by kernel_rfl
theorem bI : Tryz.prog.bytesOf 3 = 8 := by kernel_rfl
def numIn : Value → Int
  | .int _ x => x
  | _ => 0
theorem intsZ {H : Type} {enc : TypeId × Value → H} {w : World} {spare : Nat → Bool} {held : Bool} {a1 : Option Addr} {len1 cap1 : Nat} {d : DataW H} {p : List MemPlace} (h : DataW.Trod enc Tryz.prog w 0 spare held 100 (.slice a1 len1 cap1) d p)
    (hw : ∀ x ∈ d.weights Tryz.prog 100, x ≤ 140737488355328) : ∃ xs : List Int, xs.length = len1 ∧ len1 ≤ 140737488355328 ∧ (∀ x ∈ xs, -9223372036854775808 ≤ x ∧ x ≤ 9223372036854775807) ∧ LsZ w (.slice a1 len1 cap1) xs := by
  obtain ⟨fuel, hf⟩ := h
  rcases open_slice1 Tryz.underlying100 kI hf with ⟨hv, -⟩ | ⟨a, len, cap, m, n, V, D, Pl, hcs, hb, hl, hm, hmm, hx, hi⟩
  · have hv' : [Value.slice a1 len1 cap1] = [.slice none 0 0] := hv
    simp only [List.cons.injEq, Value.slice.injEq, and_true] at hv'
    obtain ⟨rfl, rfl, rfl⟩ := hv'
    exact ⟨[], rfl, by omega, (fun x hx => by cases hx), none, 0, rfl, Nat.le_refl _, Or.inl rfl⟩
  · have hcs' : [Value.slice a1 len1 cap1] = [.slice (some a) len cap] := hcs
    simp only [List.cons.injEq, Value.slice.injEq, and_true] at hcs'
    obtain ⟨rfl, rfl, rfl⟩ := hcs'
    have hlm : len1 ≤ m := by rw [hmm]; split <;> omega
    simp only [Prod.mk.injEq] at hx
    obtain ⟨hd, -⟩ := hx
    have hlen : len1 ≤ 140737488355328 := by
      have h1 := hw ((((List.range len1).map D).length + ((List.range (m - len1)).map fun j => D (len1 + j)).length) * Tryz.prog.bytesOf 3) (by
        rw [hd]
        simp only [DataW.weights, Tryz.underlying100]
        exact List.mem_cons_self)
      rw [List.length_map, List.length_range, bI] at h1
      omega
    have hV : ∀ i, i < len1 → V i = .int .i64 (numIn (V i)) ∧ -9223372036854775808 ≤ numIn (V i) ∧ numIn (V i) ≤ 9223372036854775807 := fun i hl => by
      obtain ⟨n0, e0, -, w0⟩ := DataW.trod_int Tryz.underlying3 (hi i (by omega)).2
      simp only [List.cons.injEq, and_true] at e0
      rw [e0]
      have h2 : -9223372036854775808 ≤ n0 ∧ n0 ≤ 9223372036854775807 := by simpa [Lit.wf, IntKind.min, IntKind.max, IntKind.signed, IntKind.bits] using w0
      exact ⟨rfl, h2.1, h2.2⟩
    refine ⟨(List.range len1).map (fun i => numIn (V i)), by simp, hlen, fun x hx => ?_, some a, cap1, by simp, by simpa using hl, ?_⟩
    · obtain ⟨i, hi2, rfl⟩ := List.mem_map.1 hx
      exact (hV i (List.mem_range.1 hi2)).2
    · by_cases h0 : len1 = 0
      · left; rw [h0]; rfl
      · right
        have c0 := (hi 0 (by omega)).1
        obtain ⟨b, o, rfl⟩ : ∃ b o, a = ⟨b, o, none⟩ := by
          obtain ⟨b, o, q⟩ := a
          have hsq : q = none := by simpa [Addr.add] using World.cell?_spot c0
          subst hsq
          exact ⟨b, o, rfl⟩
        refine ⟨b, o, rfl, World.block_lt_of_cell? w _ c0, fun j x hx => ?_⟩
        rw [List.getElem?_map] at hx
        by_cases hjl : j < len1
        · rw [List.getElem?_range hjl] at hx
          simp only [Option.map_some, Option.some.injEq] at hx
          subst hx
          have := (hi j (by omega)).1
          rw [Addr.add_lit, (hV j hjl).1] at this
          exact this
        · rw [List.getElem?_eq_none (by simp; omega)] at hx
          cases hx
set_option maxRecDepth 100000 in
theorem ml_of {W : World} (hs : W.ShapedOpen Tryz.prog) : Us.Ml W :=
  Go.Proofs.cell_of_shapedOpen_int (P := Tryz.prog) (g := 0) (zero := #[.int .i64 0]) (t := 3) hs (of_decide_eq_true (by kernel_rfl)) (by kernel_rfl) rfl (by kernel_rfl) (by kernel_rfl) Tryz.underlying3
section
variable {H : Type} {enc : TypeId × Value → H}
set_option maxRecDepth 100000 in
theorem lift8 {os : Os} {f : FuncId} {fn : Func} {s : ChangeSpec} (started : os.Started) (noInit : Tryz.checked.prog.inits.idxOf? f = none) (hfn : Tryz.prog.funcs[f]? = some fn) (args0 : Array Value)
    (witness : ∃ (w : World) (tape : Tape) (i : Input), w.os = os ∧ (w.forCall tape i).Shaped Tryz.checked.prog ∧ i.vars = [] ∧ Input.okWide Tryz.checked.prog (w.forCall tape i) .any w.heap.size f i ∧
      (fun w args => (s.pre enc Tryz.prog fn [] false w args ∧ laidMetH Tryz.prog laid2 w) ∧ sizedMet enc Tryz.prog fn (OpenSpec.ofChange s) false w args) (w.forCall tape i).memory i.args ∧ Assume.holds {} Tryz.checked.prog (lone (Frame.enter Tryz.checked.prog f i.args .normal) [] (w.forCall tape i)))
    (contract : ∀ (W : World) (base : Nat) (args : Array Value) (ds gs : List (DataW H)) (before : List MemPlace),
      (∀ (j : Nat) t v, fn.params[j]? = some t → args[j]? = some v → Value.okWide Tryz.prog W .any base t v) →
      DataW.Whole enc Tryz.prog fn.params.toList s.vars false W args.toList ds gs before →
      (DataW.weightsEach Tryz.prog (fn.params.toList ++ s.plain.varTypes Tryz.prog) (ds ++ gs)).all (· ≤ reachBytes) = true →
      Us.Ml W → laidMetH Tryz.prog laid2 W →
      Calls Tryz.prog f args W fun e W' => ∃ v, e = .returned v ∧ s.post enc Tryz.prog fn false true false false W args v W') :
    ReturnsInHanded {} Tryz.checked os f .any (fun w args => (s.pre enc Tryz.prog fn [] false w args ∧ laidMetH Tryz.prog laid2 w) ∧ sizedMet enc Tryz.prog fn (OpenSpec.ofChange s) false w args) (s.post enc Tryz.prog fn false true false false) := by
  refine returnsInHanded_of_calls own started noInit witness ?_
  intro w tape i _ hsh hiv hok hpre _
  obtain ⟨_, _, _, fn', hfn', _, _, _, _, hval1⟩ := hok
  have e : fn' = fn := Option.some.inj (hfn'.symm.trans hfn)
  subst e
  obtain ⟨⟨⟨ds, gs, before, hw, _⟩, hx⟩, hz⟩ := hpre
  have hh : (w.forCall tape i).heap = (w.forCall tape i).memory.heap := rfl
  have hW := DataW.Whole.of_heap (w' := w.forCall tape i) hh.symm hw
  refine (contract (w.forCall tape i) w.heap.size i.args ds gs before hval1 hW (hz.weights hw) (ml_of hsh) (hx.of_heap hh.symm)).mono fun e W' ⟨v, he, hp⟩ => ?_
  subst he
  exact ChangeSpec.post_blind hp
end
end Go.Proofs.YtahjmpfjidijaaaGreatDoor.Nm
end
section
namespace Go.Proofs.YtahjmpfjidijaaaGreatDoor
set_option linter.unusedVariables false
open Go.RowKit Go.Shelf
attribute [local go_sem] Oper.semAt_some
namespace Ru
open Go.Proofs.YtahjmpfjidijaaaGreatDoor.Utf Go.Proofs.YtahjmpfjidijaaaGreatDoor.Txt Go.PlainAid Go.Proofs.YtahjmpfjidijaaaGreatDoor.Mpf Go.Proofs.YtahjmpfjidijaaaGreatDoor.Us

/-- An operation that is wanted. -/
theorem wpList_want {P : Program} {ops : Array Oper} {Q : Exit → Act → World → Prop} {a : Act} {w : World} {rest : List Oper} {o : Oper} (hw : Region.wanted o (yielded ops a.tmps) = true)
    (h : ∀ K : Act → World → Prop, (∀ a w, wpList P ops Q rest a w → K a w) → o.wp P a w K Q) : wpList P ops Q (o :: rest) a w := by
  unfold wpList
  rw [if_pos hw]
  exact Or.inl (h _ fun _ _ h => h)
theorem size_n8 : (Tryz.prog.info? 51).map (·.size) = some 13 := by kernel_rfl
theorem size_f8 : (Tryz.prog.info? 53).map (·.size) = some 28 := by kernel_rfl
theorem size_c8 : (Tryz.prog.info? 55).map (·.size) = some 33 := by kernel_rfl
theorem wpList_nmid {ops : Array Oper} {Q : Exit → Act → World → Prop} {a : Act} {w : World} {rest : List Oper} {op : Oper} (hw : Region.wanted op (yielded ops a.tmps) = true) (x : Operand) (ho : op.op = .load 51 x) (b o : Nat) (hx : a.eval x = .pointer (some ⟨b, o, none⟩)) (cs : List Value) (hc : w.rangeAt b o cs) (hl : cs.length = 13)
    (h : wpList Tryz.prog ops Q rest (a.put op.dst (.agg cs.toArray)) w) : wpList Tryz.prog ops Q (op :: rest) a w :=
  wpList_want hw fun _ hK => wp_load_mid 51 x ho b o hx cs _ hc Tryz.underlying51 rfl (by rw [hl]; exact size_n8) (hK _ _ h)
theorem wpList_fmid {ops : Array Oper} {Q : Exit → Act → World → Prop} {a : Act} {w : World} {rest : List Oper} {op : Oper} (hw : Region.wanted op (yielded ops a.tmps) = true) (x : Operand) (ho : op.op = .load 53 x) (b o : Nat) (hx : a.eval x = .pointer (some ⟨b, o, none⟩)) (cs : List Value) (hc : w.rangeAt b o cs) (hl : cs.length = 28)
    (h : wpList Tryz.prog ops Q rest (a.put op.dst (.agg cs.toArray)) w) : wpList Tryz.prog ops Q (op :: rest) a w :=
  wpList_want hw fun _ hK => wp_load_mid 53 x ho b o hx cs _ hc Tryz.underlying53 rfl (by rw [hl]; exact size_f8) (hK _ _ h)
theorem wpList_cmid {ops : Array Oper} {Q : Exit → Act → World → Prop} {a : Act} {w : World} {rest : List Oper} {op : Oper} (hw : Region.wanted op (yielded ops a.tmps) = true) (x : Operand) (ho : op.op = .load 55 x) (b : Nat) (hx : a.eval x = .pointer (some ⟨b, 0, none⟩)) (V : Array Value) (hc : w.heap[b]? = some (.cells V 55 (0, 0))) (hl : V.size = 33)
    (h : wpList Tryz.prog ops Q rest (a.put op.dst (.agg V)) w) : wpList Tryz.prog ops Q (op :: rest) a w :=
  wpList_want hw fun _ hK => wp_load_row 55 x ho b hx 55 _ (0, 0) _ hc Tryz.underlying55 rfl (by rw [hl]; exact size_c8) (hK _ _ h)
/-- A case: a text of users, a user, facts, a name, a permission, a mode. -/
def caseA (text u : ByteArray) (n p : Nd) (tk fl : Bool) (name : ByteArray) (pm mode : Int) : Array Value := #[.string text, .string u, .int .u64 n.path, .int .u64 n.parent, .string n.name, .int .u32 n.mode, .string n.uid, .string n.gid, .string n.muid, .int .u32 n.atime, .int .u32 n.mtime, .int .u32 n.vers, .int .u64 n.length, .int .i64 n.opens, .int .i64 n.kids, .int .u64 p.path, .int .u64 p.parent, .string p.name, .int .u32 p.mode, .string p.uid, .string p.gid, .string p.muid, .int .u32 p.atime, .int .u32 p.mtime, .int .u32 p.vers, .int .u64 p.length, .int .i64 p.opens, .int .i64 p.kids, .bool tk, .bool fl, .string name, .int .u32 pm, .int .u8 mode]
def Bc (w : World) (R : Nat) (text u : ByteArray) (n p : Nd) (tk fl : Bool) (name : ByteArray) (pm mode : Int) : Prop := w.heap[R]? = some (.cells #[.string text, .string u, .int .u64 n.path, .int .u64 n.parent, .string n.name, .int .u32 n.mode, .string n.uid, .string n.gid, .string n.muid, .int .u32 n.atime, .int .u32 n.mtime, .int .u32 n.vers, .int .u64 n.length, .int .i64 n.opens, .int .i64 n.kids, .int .u64 p.path, .int .u64 p.parent, .string p.name, .int .u32 p.mode, .string p.uid, .string p.gid, .string p.muid, .int .u32 p.atime, .int .u32 p.mtime, .int .u32 p.vers, .int .u64 p.length, .int .i64 p.opens, .int .i64 p.kids, .bool tk, .bool fl, .string name, .int .u32 pm, .int .u8 mode] 55 (0, 0))
section
variable {S : List Nat} {w w' : World} {R : Nat} {text u : ByteArray} {n p : Nd} {tk fl : Bool} {name : ByteArray} {pm mode : Int}
theorem Bc.lt (h : Bc w R text u n p tk fl name pm mode) : R < w.heap.size := block_lt h
theorem Bc.kept (h : Bc w R text u n p tk fl name pm mode) (k : Kept S w w') (hn : R ∉ S) : Bc w' R text u n p tk fl name pm mode := (k.block R (block_lt h) hn).trans h
set_option maxRecDepth 100000 in
theorem Bc.five (h : Bc w R text u n p tk fl name pm mode) : w.cell? ⟨R, 0, none⟩ = some (Value.string text) ∧ w.cell? ⟨R, 1, none⟩ = some (Value.string u) ∧ w.cell? ⟨R, 30, none⟩ = some (Value.string name) ∧ w.cell? ⟨R, 31, none⟩ = some (Value.int .u32 pm) ∧ w.cell? ⟨R, 32, none⟩ = some (Value.int .u8 mode) := by
  refine ⟨?_, ?_, ?_, ?_, ?_⟩ <;> (rw [cell_of_row w R _ _ _ (0, 0) h]; rfl)
end
set_option maxRecDepth 100000 in
theorem Bc.facts {w : World} {R : Nat} {text u : ByteArray} {n p : Nd} {tk fl : Bool} {name : ByteArray} {pm mode : Int} (h : Bc w R text u n p tk fl name pm mode) : w.rangeAt R 2 [.int .u64 n.path, .int .u64 n.parent, .string n.name, .int .u32 n.mode, .string n.uid, .string n.gid, .string n.muid, .int .u32 n.atime, .int .u32 n.mtime, .int .u32 n.vers, .int .u64 n.length, .int .i64 n.opens, .int .i64 n.kids, .int .u64 p.path, .int .u64 p.parent, .string p.name, .int .u32 p.mode, .string p.uid, .string p.gid, .string p.muid, .int .u32 p.atime, .int .u32 p.mtime, .int .u32 p.vers, .int .u64 p.length, .int .i64 p.opens, .int .i64 p.kids, .bool tk, .bool fl] := fun j v hj => by
  rw [cell_of_row w R _ _ _ (0, 0) h]
  have : j < 28 := by
    have := (List.getElem?_eq_some_iff.1 hj).1
    simpa using this
  rcases (by omega : j = 0 ∨ j = 1 ∨ j = 2 ∨ j = 3 ∨ j = 4 ∨ j = 5 ∨ j = 6 ∨ j = 7 ∨ j = 8 ∨ j = 9 ∨ j = 10 ∨ j = 11 ∨ j = 12 ∨ j = 13 ∨ j = 14 ∨ j = 15 ∨ j = 16 ∨ j = 17 ∨ j = 18 ∨ j = 19 ∨ j = 20 ∨ j = 21 ∨ j = 22 ∨ j = 23 ∨ j = 24 ∨ j = 25 ∨ j = 26 ∨ j = 27) with rfl | rfl | rfl | rfl | rfl | rfl | rfl | rfl | rfl | rfl | rfl | rfl | rfl | rfl | rfl | rfl | rfl | rfl | rfl | rfl | rfl | rfl | rfl | rfl | rfl | rfl | rfl | rfl <;> exact hj
set_option maxRecDepth 100000 in
theorem Bc.node {w : World} {R : Nat} {text u : ByteArray} {n p : Nd} {tk fl : Bool} {name : ByteArray} {pm mode : Int} (h : Bc w R text u n p tk fl name pm mode) : w.rangeAt R 2 [.int .u64 n.path, .int .u64 n.parent, .string n.name, .int .u32 n.mode, .string n.uid, .string n.gid, .string n.muid, .int .u32 n.atime, .int .u32 n.mtime, .int .u32 n.vers, .int .u64 n.length, .int .i64 n.opens, .int .i64 n.kids] := fun j v hj => by
  rw [cell_of_row w R _ _ _ (0, 0) h]
  have : j < 13 := by
    have := (List.getElem?_eq_some_iff.1 hj).1
    simpa using this
  rcases (by omega : j = 0 ∨ j = 1 ∨ j = 2 ∨ j = 3 ∨ j = 4 ∨ j = 5 ∨ j = 6 ∨ j = 7 ∨ j = 8 ∨ j = 9 ∨ j = 10 ∨ j = 11 ∨ j = 12) with rfl | rfl | rfl | rfl | rfl | rfl | rfl | rfl | rfl | rfl | rfl | rfl | rfl <;> exact hj
set_option maxRecDepth 100000 in
theorem Bc.parent {w : World} {R : Nat} {text u : ByteArray} {n p : Nd} {tk fl : Bool} {name : ByteArray} {pm mode : Int} (h : Bc w R text u n p tk fl name pm mode) : w.rangeAt R 15 [.int .u64 p.path, .int .u64 p.parent, .string p.name, .int .u32 p.mode, .string p.uid, .string p.gid, .string p.muid, .int .u32 p.atime, .int .u32 p.mtime, .int .u32 p.vers, .int .u64 p.length, .int .i64 p.opens, .int .i64 p.kids] := fun j v hj => by
  rw [cell_of_row w R _ _ _ (0, 0) h]
  have : j < 13 := by
    have := (List.getElem?_eq_some_iff.1 hj).1
    simpa using this
  rcases (by omega : j = 0 ∨ j = 1 ∨ j = 2 ∨ j = 3 ∨ j = 4 ∨ j = 5 ∨ j = 6 ∨ j = 7 ∨ j = 8 ∨ j = 9 ∨ j = 10 ∨ j = 11 ∨ j = 12) with rfl | rfl | rfl | rfl | rfl | rfl | rfl | rfl | rfl | rfl | rfl | rfl | rfl <;> exact hj

theorem Bf.whole {w : World} {R : Nat} {n p : Nd} {tk fl : Bool} (h : Bf w R n p tk fl) : w.rangeAt R 0 [.int .u64 n.path, .int .u64 n.parent, .string n.name, .int .u32 n.mode, .string n.uid, .string n.gid, .string n.muid, .int .u32 n.atime, .int .u32 n.mtime, .int .u32 n.vers, .int .u64 n.length, .int .i64 n.opens, .int .i64 n.kids, .int .u64 p.path, .int .u64 p.parent, .string p.name, .int .u32 p.mode, .string p.uid, .string p.gid, .string p.muid, .int .u32 p.atime, .int .u32 p.mtime, .int .u32 p.vers, .int .u64 p.length, .int .i64 p.opens, .int .i64 p.kids, .bool tk, .bool fl] := fun j v hj => by
  rw [Nat.zero_add, cell_of_row w R j _ _ (0, 0) h]
  simpa using hj
set_option maxRecDepth 100000 in
theorem Bf.node {w : World} {R : Nat} {n p : Nd} {tk fl : Bool} (h : Bf w R n p tk fl) : w.rangeAt R 0 [.int .u64 n.path, .int .u64 n.parent, .string n.name, .int .u32 n.mode, .string n.uid, .string n.gid, .string n.muid, .int .u32 n.atime, .int .u32 n.mtime, .int .u32 n.vers, .int .u64 n.length, .int .i64 n.opens, .int .i64 n.kids] := fun j v hj => by
  rw [Nat.zero_add, cell_of_row w R j _ _ (0, 0) h]
  have : j < 13 := by
    have := (List.getElem?_eq_some_iff.1 hj).1
    simpa using this
  rcases (by omega : j = 0 ∨ j = 1 ∨ j = 2 ∨ j = 3 ∨ j = 4 ∨ j = 5 ∨ j = 6 ∨ j = 7 ∨ j = 8 ∨ j = 9 ∨ j = 10 ∨ j = 11 ∨ j = 12) with rfl | rfl | rfl | rfl | rfl | rfl | rfl | rfl | rfl | rfl | rfl | rfl | rfl <;> exact hj
/-- How many bytes a case has. -/
def weightC (text u : ByteArray) (n p : Nd) (name : ByteArray) : Nat := text.size + u.size + name.size + n.name.size + n.uid.size + n.gid.size + n.muid.size + p.name.size + p.uid.size + p.gid.size + p.muid.size
set_option maxHeartbeats 8000000 in
set_option maxRecDepth 100000 in
theorem much_any (w : World) (text u : ByteArray) (n p : Nd) (tk fl : Bool) (name : ByteArray) (pm mode : Int) (h0 : text.size ≤ 140737488355328) (h1 : u.size ≤ 140737488355328) (h2 : name.size ≤ 140737488355328) (n1 : n.name.size ≤ 140737488355328) (n2 : n.uid.size ≤ 140737488355328) (n3 : n.gid.size ≤ 140737488355328) (n4 : n.muid.size ≤ 140737488355328) (p1 : p.name.size ≤ 140737488355328) (p2 : p.uid.size ≤ 140737488355328) (p3 : p.gid.size ≤ 140737488355328) (p4 : p.muid.size ≤ 140737488355328) :
    Calls Tryz.prog 20 #[.agg #[.string text, .string u, .int .u64 n.path, .int .u64 n.parent, .string n.name, .int .u32 n.mode, .string n.uid, .string n.gid, .string n.muid, .int .u32 n.atime, .int .u32 n.mtime, .int .u32 n.vers, .int .u64 n.length, .int .i64 n.opens, .int .i64 n.kids, .int .u64 p.path, .int .u64 p.parent, .string p.name, .int .u32 p.mode, .string p.uid, .string p.gid, .string p.muid, .int .u32 p.atime, .int .u32 p.mtime, .int .u32 p.vers, .int .u64 p.length, .int .i64 p.opens, .int .i64 p.kids, .bool tk, .bool fl, .string name, .int .u32 pm, .int .u8 mode]] w fun e w' => e = .returned (.int .i64 (weightC text u n p name)) ∧ Kept [] w w' := by
  go_enter Tryz.func20, Tryz.ntmps20
  go_wp2_with fail
  go_ret
  refine ⟨?_, (Kept.refl _ _).alloc _⟩
  unfold weightC
  simp only [Int.natCast_add]
  rfl
/-- The table that the laws ask. -/
def tableT (text : ByteArray) : List Acc := match parse text with
  | (some T, _, _) => T
  | _ => peopleT
theorem table_any (w : World) (text : ByteArray) (hm : Ml w) (hs : text.size ≤ 140737488355328) :
    Calls Tryz.prog 25 #[.string text] w fun e w' => ∃ B p, e = .returned (.pointer (some ⟨p, 0, none⟩)) ∧ Tb w' B p (tableT text) ∧ Kept [] w w' := by
  have PAR := Lib.hid (parse_any w text hm hs)
  have PEX : Hid (∀ w', Kept [] w w' → Calls Tryz.prog 16 #[.string ⟨#[103, 108, 101, 110, 100, 97, 58, 58, 58, 10, 115, 121, 115, 58, 103, 108, 101, 110, 100, 97, 58, 98, 111, 98, 58, 10, 98, 111, 98, 58, 58, 58, 10, 101, 118, 101, 58, 58, 58, 10]⟩] w' fun e w'' => ∃ B p, e = .returned (.tuple #[.pointer (some ⟨p, 0, none⟩), .int .i64 0, .int .i64 0]) ∧ Tb w'' B p peopleT ∧ Kept [] w' w'') := fun w' k => parse_example w' (by
    obtain ⟨m, hc⟩ := hm
    exact ⟨m, by rw [← hc]; exact World.cell?_of_block (k.block _ (World.block_lt_of_cell? w _ hc) (by simp))⟩)
  clear hm hs
  go_enter Tryz.func25, Tryz.ntmps25
  go_wp2_with fail
  refine PAR.out.mono ?_
  rintro e w2 (⟨T, B, p, h1, rfl, h3, -, -, h4⟩ | ⟨er, ln, h1, h2, rfl, h4⟩)
  · have HT : Hid (tableT text = T) := by show _ = _; unfold tableT; rw [h1]
    clear h1
    go_wp2_with fail
    go_ret
    exact ⟨B, p, rfl, by rw [HT.out]; exact h3, h4⟩
  · have HT : Hid (tableT text = peopleT) := by show _ = _; unfold tableT; rw [h1]
    have e1 : ((er : Int) == 0) = false := by simp; omega
    have e2 : ((er : Int) != 0) = true := by simp; omega
    have H4 := Lib.hid h4
    clear h1 h2 h4
    go_wp2_with fail
    refine (PEX.out w2 H4.out).mono ?_
    rintro e w3 ⟨B, p, rfl, h3, h5⟩
    go_wp2_with fail
    go_ret
    exact ⟨B, p, rfl, by rw [HT.out]; exact h3, H4.out.trans h5 (fun i hi => by cases hi)⟩
end Ru
end Go.Proofs.YtahjmpfjidijaaaGreatDoor
end
