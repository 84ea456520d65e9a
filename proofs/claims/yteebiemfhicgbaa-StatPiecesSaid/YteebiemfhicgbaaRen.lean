/- What Encode of a record gives, and Size. -/
import Derived.Test.YteebiemfhicgbaaRpt
import Derived.Deep.Onto
namespace Go.Proofs.Yteebiemfhicgbaa
set_option linter.unusedVariables false
open Go.RowKit

theorem Goes.nums {a : WS} (h : a.Ok) (f : a.Fit) (s : Rec) : Goes a (a.nums s) := by
  have g1 := Goes.raw h f (le 2 s.ty)
  have g2 := Goes.raw g1.ok g1.fit (le 4 s.dev)
  have g3 := Goes.qid g2.ok g2.fit s.kind s.vers s.path
  have g4 := Goes.raw g3.ok g3.fit (le 4 s.mode)
  have g5 := Goes.raw g4.ok g4.fit (le 4 s.atime)
  have g6 := Goes.raw g5.ok g5.fit (le 4 s.mtime)
  have g7 := Goes.raw g6.ok g6.fit (le 8 s.len)
  exact ⟨g7.ok, g7.fit⟩
theorem Goes.put {a : WS} (h : a.Ok) (f : a.Fit) (s : Rec) : Goes a (a.put s) := by
  have g1 := Goes.opened h f
  have g2 := Goes.nums g1.ok g1.fit s
  have g3 := Goes.text g2.ok g2.fit s.name
  have g4 := Goes.text g3.ok g3.fit s.uid
  have g5 := Goes.text g4.ok g4.fit s.gid
  have g6 := Goes.text g5.ok g5.fit s.muid
  have g7 := Goes.shut g6.ok g6.fit a.place
  exact ⟨g7.ok, g7.fit⟩
/-- The bytes and the error that Encode tells. -/
def Rec.bytes (s : Rec) : List UInt8 := if s.err = 0 then s.enc else []
theorem Rec.bytes_length (s : Rec) : s.bytes.length ≤ 65537 := by
  unfold Rec.bytes
  split
  · rename_i h
    rw [s.enc_length]; exact (Rec.err_zero h).2.2.2.2
  · simp
/-- A record lies in a block. -/
def Lies (w : World) (b : Nat) (s : Rec) : Prop := w.heap[b]? = some (.cells s.cells 30 (0, 0))
theorem Lies.cells {w : World} {b : Nat} {s : Rec} (h : Lies w b s) : w.cell? ⟨b, 0, none⟩ = some (.int .u16 s.ty) ∧ w.cell? ⟨b, 1, none⟩ = some (.int .u32 s.dev) ∧ w.cell? ⟨b, 2, none⟩ = some (.int .u8 s.kind) ∧ w.cell? ⟨b, 3, none⟩ = some (.int .u32 s.vers) ∧ w.cell? ⟨b, 4, none⟩ = some (.int .u64 s.path) ∧
    w.cell? ⟨b, 5, none⟩ = some (.int .u32 s.mode) ∧ w.cell? ⟨b, 6, none⟩ = some (.int .u32 s.atime) ∧ w.cell? ⟨b, 7, none⟩ = some (.int .u32 s.mtime) ∧ w.cell? ⟨b, 8, none⟩ = some (.int .u64 s.len) ∧ w.cell? ⟨b, 9, none⟩ = some (.string s.name) ∧ w.cell? ⟨b, 10, none⟩ = some (.string s.uid) ∧
    w.cell? ⟨b, 11, none⟩ = some (.string s.gid) ∧ w.cell? ⟨b, 12, none⟩ = some (.string s.muid) := by
  have g := fun i => cell_of_row w b i s.cells 30 (0, 0) h
  exact ⟨g 0, g 1, g 2, g 3, g 4, g 5, g 6, g 7, g 8, g 9, g 10, g 11, g 12⟩
theorem Lies.kept {w w' : World} {b : Nat} {s : Rec} {T : List Nat} (h : Lies w b s) (hk : Kept T w w') (hb : b ∉ T) : Lies w' b s := by
  unfold Lies at h ⊢
  rw [hk.block b (block_lt h) hb]; exact h

namespace Stt
open Go.Proofs.Yteebiemfhicgbaa.Txt

set_option maxHeartbeats 1000000 in
theorem encode_any (w : World) (s : Rec) (so : s.Ok) : Calls Try.prog 10 #[s.val] w (DoneOut w s.bytes s.err) := by
  have L0 : Hid (Lies (w.alloc (.cells s.cells 30 (0, 0))) w.heap.size s) := heap_alloc_new w _
  have K0 : Hid (Kept [] w (w.alloc (.cells s.cells 30 (0, 0)))) := (Kept.refl [] _).alloc _
  have PUT := fun (w : World) (p : Nat) (S : List Nat) (h : Hid (Wr 107 w p S w0)) => put_any w p S w0 s so w0_ok w0_fit h
  have E := Rec.written s
  obtain ⟨st, hst⟩ : ∃ st, st = w0.put s := ⟨_, rfl⟩
  have G : Goes w0 st := by rw [hst]; exact Goes.put w0_ok w0_fit s
  rw [← hst] at PUT E
  have EB : Hid (st.toldB = s.bytes) := E.1
  have EE : Hid (st.toldE = s.err) := E.2
  have PUT' := Lib.hid PUT
  have OK : Hid st.Ok := G.ok
  have HS := Lib.hid hst
  clear PUT E G hst
  rw [← EB.out, ← EE.out]
  clear EB EE HS
  have hw0 : Hid (w0 = ⟨16777216, [], [], 0⟩) := rfl
  obtain ⟨ty, dev, kind, vers, path, mode, atime, mtime, len, name, uid, gid, muid⟩ := s
  unfold Rec.val Rec.cells at *
  simp only [] at *
  go_enter Try.func10, Try.ntmps10
  go_wp2_with fail
  refine (Wrt.new_good _ _ 16777216 rfl (Nat.le_refl _)).mono ?_
  rintro e w1 ⟨rfl, ha, k1⟩
  have K1 := Lib.hid k1
  have L1 := L0.out.kept k1 (by simp)
  obtain ⟨c0, c1, c2, c3, c4, c5, c6, c7, c8, c9, c10, c11, c12⟩ := L1.cells
  clear L1 L0 k1
  simp only [] at c0 c1 c2 c3 c4 c5 c6 c7 c8 c9 c10 c11 c12
  go_wp2_with fail
  have ez : ∀ o, (w.alloc o).heap.size = w.heap.size + 1 := fun o => by simp
  rw [ez, ← hw0.out] at ha
  have ha2 := ha
  clear ez
  have P := PUT'.out _ _ _ ha2
  clear PUT' ha ha2 hw0
  refine P.mono ?_
  rintro e w2 ⟨rfl, S2, h2, k2, n2⟩
  have K2 := Lib.hid k2
  clear k2 c0 c1 c2 c3 c4 c5 c6 c7 c8 c9 c10 c11 c12 n2
  go_wp2_with fail
  refine (Wrt.done_any _ _ S2 st OK h2).mono ?_
  rintro e w3 ⟨v, rfl, h3, k3⟩
  go_wp2_with fail
  go_ret2
  have z0 := K0.out.size
  have z1 := K1.out.size
  have z2 := K2.out.size
  have K := ((K0.out.trans K1.out (fun i hi => by simp at hi)).trans K2.out (fun i hi => by simp at hi; right; simp at z0; omega)).trans k3.out (fun i hi => by simp at hi)
  exact ⟨v, rfl, World.ownsRow.mono h3.out (by omega), K⟩
end Stt
end Go.Proofs.Yteebiemfhicgbaa
