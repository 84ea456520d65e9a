/- What the small calls of nodes do: what may be; a directory; one more path; a node in new memory. -/
import Derived.Test.YtihkldcdikbinaaLks
import Derived.Test.YtihkldcdikbinaaMpf
import Derived.Test.YtihkldcdikbinaaTxt
import Derived.Test.YtihkldcdikbinaaLaw
import Derived.WalkKit
import Derived.Deep.AppendLies
import Derived.Carry
import Derived.Deep.RegionWith
import Derived.Deep.RegionLaw
import Derived.Deep.Cut
import Derived.Deep.CutRange
import Derived.Lib.Hide
namespace Go.Proofs.Ytihkldcdikbinaa
set_option linter.unusedVariables false
open Go.RowKit
namespace Nd
open Go.Proofs.Ytihkldcdikbinaa.Utf Go.Proofs.Ytihkldcdikbinaa.Txt Go.PlainAid

theorem ret_bool {a b : Bool} (h : a = b) : Ending.returned (.bool a) = .returned (.bool b) := by rw [h]
/-- May a mode be? -/
def modeOk (m : Nat) : Bool := bits .andNot .u32 (m : Int) 3825205759 == 0
theorem isMode_any (w : World) (m : Nat) : Calls Try.prog 86 #[.int .u32 m] w fun e w' => e = .returned (.bool (modeOk m)) ∧ w' = w := by
  go_enter Try.func86, Try.ntmps86
  go_wp2_with fail
  go_ret
  exact ⟨rfl, rfl⟩
/-- May somebody be called so? -/
def userOk (s : ByteArray) : Bool := decide (s.size ≤ 32) && good s
theorem isUser_any (w : World) (s : ByteArray) (hs : s.size ≤ 140737488355328) : Calls Try.prog 59 #[.string s] w fun e w' => e = .returned (.bool (userOk s)) ∧ Kept [] w w' := by
  have GOOD := Lib.hid (fun w => good_any s w hs)
  by_cases h : s.size ≤ 32
  · have hi : (s.size : Int) ≤ 32 := by omega
    have hv : userOk s = good s := by unfold userOk; rw [decide_eq_true h, Bool.true_and]
    rw [hv]
    obtain ⟨q, hq⟩ : ∃ q, q = good s := ⟨_, rfl⟩
    rw [← hq] at GOOD ⊢
    clear hq hv
    go_enter Try.func59, Try.ntmps59
    go_wp2_with (go_at_call 76; refine (GOOD.out _).mono ?_; rintro e w2 ⟨rfl, kb⟩)
    go_ret
    exact ⟨rfl, Kept.of_below kb []⟩
  · have hi : ¬ (s.size : Int) ≤ 32 := by omega
    have hv : userOk s = false := by unfold userOk; rw [decide_eq_false h, Bool.false_and]
    rw [hv]
    go_enter Try.func59, Try.ntmps59
    go_wp2_with fail
    go_ret
    exact ⟨rfl, Kept.refl _ _⟩
def bodyOk (s : ByteArray) : Bool := !(s.toList == []) && userOk s
theorem isSomebody_any (w : World) (s : ByteArray) (hs : s.size ≤ 140737488355328) : Calls Try.prog 34 #[.string s] w fun e w' => e = .returned (.bool (bodyOk s)) ∧ Kept [] w w' := by
  have US := Lib.hid (fun w => isUser_any w s hs)
  by_cases h : (s.toList == []) = true
  · have hv : bodyOk s = false := by unfold bodyOk; rw [h]; rfl
    rw [hv]
    have h1 : s.toList = [] := by simpa using h
    have h2 : s.toList.isEmpty = true := by rw [h1]; rfl
    go_enter Try.func34, Try.ntmps34
    go_wp2_with fail
    go_ret
    exact ⟨rfl, Kept.refl _ _⟩
  · have h0 : (s.toList == []) = false := by simpa using h
    have hv : bodyOk s = userOk s := by unfold bodyOk; rw [h0]; rfl
    have h2 : s.toList.isEmpty = false := by simpa using h0
    rw [hv]
    obtain ⟨q, hq⟩ : ∃ q, q = userOk s := ⟨_, rfl⟩
    rw [← hq] at US ⊢
    clear hq hv h
    go_enter Try.func34, Try.ntmps34
    go_wp2_with (go_at_call 59; refine (US.out _).mono ?_; rintro e w2 ⟨rfl, kb⟩)
    go_ret
    exact ⟨rfl, kb⟩

theorem alloc_new (w : World) (o : Obj) (n : Nat) (h : w.heap.size = n) : (w.alloc o).heap[n]? = some o := by rw [← h]; exact (MapKept.heap_alloc w o).1
/-- A block that is known whole. -/
def Bx (w : World) (B : Nat) (t : TypeId) (cs : Array Value) : Prop := w.heap[B]? = some (.cells cs t (0, 0))
theorem Bx.made (w : World) (t : TypeId) (cs : Array Value) : Bx (w.alloc (.cells cs t)) w.heap.size t cs := alloc_new _ _ _ rfl
theorem Bx.lt {w : World} {B : Nat} {t : TypeId} {cs : Array Value} (h : Bx w B t cs) : B < w.heap.size := block_lt h
theorem Bx.kept {S : List Nat} {w w' : World} {B : Nat} {t : TypeId} {cs : Array Value} (h : Bx w B t cs) (k : Kept S w w') (hn : B ∉ S) : Bx w' B t cs := (k.block B h.lt hn).trans h
theorem Bx.alloc {w : World} {B : Nat} {t : TypeId} {cs : Array Value} (h : Bx w B t cs) (o : Obj) : Bx (w.alloc o) B t cs := (Below.heap_alloc _ _ _ h.lt).trans h
theorem Bx.drew {w : World} {B : Nat} {t : TypeId} {cs : Array Value} (h : Bx w B t cs) : Bx w.drew B t cs := h
theorem Bx.other {w : World} {B : Nat} {t : TypeId} {cs : Array Value} (h : Bx w B t cs) {a : Addr} (ha : a.block ≠ B) (u : Value) : Bx (w.setCell a u) B t cs := (Below.heap_setCell _ _ _ _ (fun e => ha e.symm)).trans h
theorem Bx.set {w : World} {B : Nat} {t : TypeId} {cs : Array Value} (h : Bx w B t cs) (i : Nat) (u : Value) : Bx (w.setCell ⟨B, i, none⟩ u) B t (cs.setIfInBounds i u) := heap_set u h
theorem Bx.cell {w : World} {B : Nat} {t : TypeId} {cs : Array Value} (h : Bx w B t cs) (i : Nat) {v : Value} (hv : cs[i]? = some v) : w.cell? ⟨B, i, none⟩ = some v := by rw [cell_of_row w B i cs t (0, 0) h]; exact hv
theorem Bx.frozen {w : World} {B : Nat} {t : TypeId} {cs : Array Value} (h : Bx w B t cs) (i : Nat) : w.frozen? ⟨B, i, none⟩ = false := by simp [World.frozen?, show w.heap[B]? = _ from h]
/-- A node's fields as they lie, Kids apart. -/
structure Is where
  path : Nat
  parent : Nat
  name : ByteArray
  mode : Nat
  uid : ByteArray
  gid : ByteArray
  muid : ByteArray
  atime : Nat
  mtime : Nat
  vers : Nat
  length : Nat
  opens : Int
def isL (d : Is) (k : Int) : List Value := [.int .u64 d.path, .int .u64 d.parent, .string d.name, .int .u32 d.mode, .string d.uid, .string d.gid, .string d.muid, .int .u32 d.atime, .int .u32 d.mtime, .int .u32 d.vers, .int .u64 d.length, .int .i64 d.opens, .int .i64 k]
def nums (l : List Nat) : List Value := l.map fun n : Nat => .int .u64 (n : Int)
theorem nums_one (l : List Nat) : ∀ u ∈ nums l, u.oneCell' = true := by
  intro u hu
  obtain ⟨n, _, rfl⟩ := List.mem_map.1 hu
  rfl

theorem info_u64 : (Try.prog.info? 30).map (fun i => (i.zero, i.size, i.bytes)) = some (some (.int .u64 0), 1, 8) := by kernel_rfl
set_option maxRecDepth 100000 in
/-- One more path. -/
theorem with_any (w : World) (v : Value) (n x : Nat) (xs : List Value) (h : w.ownsRow 0 30 1 v n xs) (hn : n < 1000000000) :
    Calls Try.prog 61 #[v, .int .u64 x] w fun e w' => ∃ g cap, e = .returned (.slice (some ⟨g, 0, none⟩) (n + 1) cap) ∧ w'.ownsRow 0 30 1 (.slice (some ⟨g, 0, none⟩) (n + 1) cap) (n + 1) (xs ++ [.int .u64 x]) ∧ Kept v.ownBlock.toList w w' ∧ (v.ownBlock = some g ∨ w.heap.size ≤ g) ∧ g < w'.heap.size := by
  obtain ⟨i0, hi, hz0, hz1, hz2⟩ := info_parts info_u64
  have ho := Lib.hid h
  clear h
  go_enter Try.func61, Try.ntmps61
  go_wp2_with (at_builtin; refine wpList_append_lies _ rfl _ _ 91 rfl 0 30 i0 (.int .u64 0) 1 8 Try.underlying91 hi hz0 hz1 hz2 rfl (by decide) v n xs rfl (ho.out.alloc _) ⟨w.heap.size, 0, none⟩ 1 1 [.int .u64 x] rfl rfl (cell_one_new _ _ _) (by intro u hu; simp only [List.mem_singleton] at hu; subst hu; rfl) (by decide) (by unfold maxLen; omega) (by omega) (by simp) (w.heap.size + 1) (by simp) ?_; intro g cap w' ho' hg' hl hlt)
  go_ret
  refine ⟨g, cap, rfl, ho', ?_, ?_, hlt⟩
  · refine ((Kept.refl _ w).alloc _).grown hg' ?_
    intro k hk
    exact Or.inl (by simp [hk])
  · rcases hl with hl | rfl
    · exact Or.inl hl
    · exact Or.inr (Nat.le_succ _)

theorem cells_node : Try.prog.cellsOf 105 = 17 := by kernel_rfl
/-- A node in memory: its cells. -/
def nodeC (d : Is) (lk : Int) (ks : Value) (m : Nat) : Array Value := ([Value.int .i32 lk, Value.int .u32 0] ++ isL d 0 ++ [ks, Value.map (some m)]).toArray
theorem zero_rs (w : World) : (zeroValue 91).run Try.prog w = .ok (.slice none 0 0) w := by kernel_rfl
set_option maxRecDepth 100000 in
/-- A node in new memory. -/
theorem newNode_any (w : World) (d : Is) : Calls Try.prog 60 #[.agg (isL d 0).toArray] w fun e w' => ∃ b m, e = .returned (.pointer (some ⟨b, 0, none⟩)) ∧ w'.heap[b]? = some (.cells (nodeC d 0 (.slice none 0 0) m) 105 (0, 0)) ∧ w'.heap[m]? = some (.map #[] 0) ∧ w.heap.size ≤ b ∧ w.heap.size ≤ m ∧ b ≠ m ∧ Kept [] w w' := by
  have hmm := @run_makeMap Try.prog
  unfold isL
  go_enter Try.func60, Try.ntmps60
  go_wp2_with fail
  go_ret
  refine ⟨_, _, rfl, ?_, ?_, Nat.le_trans (Nat.le_succ _) (Nat.le_succ _), Nat.le_succ _, Nat.succ_ne_self _, (((Kept.refl _ w).alloc _).alloc _).alloc _⟩
  · exact alloc_new _ _ _ (by simp)
  · exact (Below.heap_alloc _ _ _ (by simp)).trans (alloc_new _ _ _ (by simp))
end Nd
end Go.Proofs.Ytihkldcdikbinaa
