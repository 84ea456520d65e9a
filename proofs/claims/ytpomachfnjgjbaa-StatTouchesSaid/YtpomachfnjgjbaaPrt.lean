/- What parts does: a record's fields, one by one. -/
import Derived.Test.YtpomachfnjgjbaaRre
namespace Go.Proofs.Ytpomachfnjgjbaa
set_option linter.unusedVariables false
open Go.RowKit
def Rec.ns (s : Rec) : Array Value := #[.int .u64 s.ty, .int .u64 s.dev, .int .u64 s.kind, .int .u64 s.vers, .int .u64 s.path, .int .u64 s.mode, .int .u64 s.atime, .int .u64 s.mtime, .int .u64 s.len, .int .u64 0, .int .u64 0, .int .u64 0, .int .u64 0]
def Rec.ts (s : Rec) : Array Value := #[.string ⟨#[]⟩, .string ⟨#[]⟩, .string ⟨#[]⟩, .string ⟨#[]⟩, .string ⟨#[]⟩, .string ⟨#[]⟩, .string ⟨#[]⟩, .string ⟨#[]⟩, .string ⟨#[]⟩, .string s.name, .string s.uid, .string s.gid, .string s.muid]
namespace Stt
open Go.Proofs.Ytpomachfnjgjbaa.Txt
set_option maxHeartbeats 2000000 in
set_option maxRecDepth 100000 in
theorem parts_any (w : World) (s : Rec) (so : s.Ok) : Calls Try.prog 23 #[s.val] w fun e w' => e = .returned (.tuple #[.slice (some ⟨w.heap.size + 1, 0, none⟩) 13 13, .slice (some ⟨w.heap.size + 2, 0, none⟩) 13 13]) ∧ Hid (w'.heap[w.heap.size + 1]? = some (.cells s.ns 27 (0, 0))) ∧ Hid (w'.heap[w.heap.size + 2]? = some (.cells s.ts 9 (0, 0))) ∧ Kept [] w w' := by
  obtain ⟨o1, o2, o3, o4, o5, o6, o7, o8, o9, -, -, -, -⟩ := so
  unfold Rec.val Rec.cells Rec.ns Rec.ts
  clear o5 o9
  go_enter Try.func23, Try.ntmps23
  go_wp2_with fail
  go_ret2
  have e : w.heap.size + 2 = ((w.alloc (.cells #[.int .u16 s.ty, .int .u32 s.dev, .int .u8 s.kind, .int .u32 s.vers, .int .u64 s.path, .int .u32 s.mode, .int .u32 s.atime, .int .u32 s.mtime, .int .u64 s.len, .string s.name, .string s.uid, .string s.gid, .string s.muid] 31 (0, 0))).alloc (.cells #[.int .u64 s.ty, .int .u64 s.dev, .int .u64 s.kind, .int .u64 s.vers, .int .u64 s.path, .int .u64 s.mode, .int .u64 s.atime, .int .u64 s.mtime, .int .u64 s.len, .int .u64 0, .int .u64 0, .int .u64 0, .int .u64 0] 27 (0, 0))).heap.size := by simp
  refine ⟨rfl, ?_, ?_, (((Kept.refl [] _).alloc _).alloc _).alloc _⟩
  · exact (((Kept.refl [] _).alloc _).block _ (by simp) (by simp)).trans (two_new w _ _)
  · rw [e]
    exact heap_alloc_new _ _
end Stt
end Go.Proofs.Ytpomachfnjgjbaa
