/- rules: Create, whatever comes of it. -/
import Derived.Test.YtondjodfkgefgaaDoorRmb
namespace Go.Proofs.YtondjodfkgefgaaDoor
set_option linter.unusedVariables false
open Go.RowKit Go.Shelf
attribute [local go_sem] Oper.semAt_some
namespace Ru
open Go.Proofs.YtondjodfkgefgaaDoor.Utf Go.Proofs.YtondjodfkgefgaaDoor.Txt Go.PlainAid Go.Proofs.YtondjodfkgefgaaDoor.Mpf Go.Proofs.YtondjodfkgefgaaDoor.Us

/-- What Create makes. -/
def createA (T : List Acc) (u : ByteArray) (n : Nd) (tk fl : Bool) (name : ByteArray) (pm mode : Int) : Array Value :=
  if makeE T u n tk fl name pm mode = 0 then #[.int .u64 0, .int .u64 n.path, .string name, .int .u32 (modeInV n.mode pm), .string u, .string n.gid, .string u, .int .u32 0, .int .u32 0, .int .u32 0, .int .u64 0, .int .i64 0, .int .i64 0] else #[.int .u64 0, .int .u64 0, .string ⟨#[]⟩, .int .u32 0, .string ⟨#[]⟩, .string ⟨#[]⟩, .string ⟨#[]⟩, .int .u32 0, .int .u32 0, .int .u32 0, .int .u64 0, .int .i64 0, .int .i64 0]
theorem createA_ok (T : List Acc) (u : ByteArray) (n : Nd) (tk fl : Bool) (name : ByteArray) (pm mode : Int) : (createA T u n tk fl name pm mode).size = 13 ∧ (createA T u n tk fl name pm mode).all (·.oneCell') = true := by
  unfold createA
  split
  · exact ⟨rfl, by simp [Value.oneCell']⟩
  · exact ⟨rfl, by simp [Value.oneCell']⟩
theorem Create_any {w : World} {B q : Nat} {T : List Acc} (h : Tb w B q T) (u : ByteArray) (n p : Nd) (tk fl : Bool) (name : ByteArray) (pm mode : Int) (hu : u.size ≤ maxLen) (hg : n.gid.size ≤ maxLen) (hn : name.size ≤ 140737488355328) :
    Calls Tryd.prog 9 #[.pointer (some ⟨q, 0, none⟩), .string u, .agg #[.int .u64 n.path, .int .u64 n.parent, .string n.name, .int .u32 n.mode, .string n.uid, .string n.gid, .string n.muid, .int .u32 n.atime, .int .u32 n.mtime, .int .u32 n.vers, .int .u64 n.length, .int .i64 n.opens, .int .i64 n.kids, .int .u64 p.path, .int .u64 p.parent, .string p.name, .int .u32 p.mode, .string p.uid, .string p.gid, .string p.muid, .int .u32 p.atime, .int .u32 p.mtime, .int .u32 p.vers, .int .u64 p.length, .int .i64 p.opens, .int .i64 p.kids, .bool tk, .bool fl], .string name, .int .u32 pm, .int .u8 mode] w fun e w' => e = .returned (.tuple #[.agg (createA T u n tk fl name pm mode), .int .i64 (makeE T u n tk fl name pm mode)]) ∧ Kept [] w w' := by
  by_cases hz : makeE T u n tk fl name pm mode = 0
  · have := Create_ok h u n p tk fl name pm mode hu hg hn hz (modeInV n.mode pm) rfl
    unfold createA
    rw [if_pos hz, hz]
    exact this
  · have := Create_no h u n p tk fl name pm mode hu hg hn _ rfl hz
    unfold createA
    rw [if_neg hz]
    exact this
theorem Bf.made (w : World) (n p : Nd) (tk fl : Bool) : Bf (w.alloc (.cells #[.int .u64 n.path, .int .u64 n.parent, .string n.name, .int .u32 n.mode, .string n.uid, .string n.gid, .string n.muid, .int .u32 n.atime, .int .u32 n.mtime, .int .u32 n.vers, .int .u64 n.length, .int .i64 n.opens, .int .i64 n.kids, .int .u64 p.path, .int .u64 p.parent, .string p.name, .int .u32 p.mode, .string p.uid, .string p.gid, .string p.muid, .int .u32 p.atime, .int .u32 p.mtime, .int .u32 p.vers, .int .u64 p.length, .int .i64 p.opens, .int .i64 p.kids, .bool tk, .bool fl] 28)) w.heap.size n p tk fl := (MapKept.heap_alloc w _).1
theorem wpList_sfacts {w : World} {ops : Array Oper} {rest : List Oper} {o : Oper} {a : Act} {Q : Exit → Act → World → Prop} (hgd : o.guard = none) (x y : Operand) (ho : o.op = .store 28 x y) (g : Nat) (hx : a.eval x = .pointer (some ⟨g, 0, none⟩)) (old cs : Array Value)
    (hy : a.eval y = .agg cs) (hg : w.heap[g]? = some (.cells old 28 (0, 0))) (hs : old.size = 28) (hc : cs.size = 28) (h1 : cs.all (·.oneCell') = true)
    (h : ∀ w', w'.heap[g]? = some (.cells cs 28 (0, 0)) → Kept [g] w w' → wpList Tryd.prog ops Q rest (a.put o.dst undef) w') : wpList Tryd.prog ops Q (o :: rest) a w :=
  wpList_plain hgd fun K hK => by
    have := run_storeVar_row (P := Tryd.prog) w g 28 28 old cs hg (by rw [hc]; exact size_f8) (by rw [hs, hc]) h1
    unfold Oper.wp execOp
    simp only [ho, hx, hy, Instr.storeAt, Instr.sureAddr, Sem.run_bind, Sem.run_pure, Result.andThen_ok, this]
    exact hK _ _ (h _ (setRow_heap w g old cs 28 (0, 0) hg) ⟨rfl, rfl, rfl, by simp [World.setRow], fun k _ hk => setRow_other w g k _ (by simpa using hk)⟩)
theorem ml_kept {w w' : World} (h : Ml w) (k : Kept [] w w') : Ml w' := by
  obtain ⟨m, hc⟩ := h
  exact ⟨m, by rw [← hc]; exact World.cell?_of_block (k.block _ (World.block_lt_of_cell? w _ hc) (by simp))⟩
end Ru
end Go.Proofs.YtondjodfkgefgaaDoor
