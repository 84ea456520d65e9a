/- What Put and PutQid of a record do to a writer. -/
import Derived.Test.YteebiemfhicgbaaRec
import Derived.Test.YteebiemfhicgbaaWnu
namespace Go.Proofs.Yteebiemfhicgbaa
set_option linter.unusedVariables false
open Go.RowKit

def Rec.cells (s : Rec) : Array Value := #[.int .u16 s.ty, .int .u32 s.dev, .int .u8 s.kind, .int .u32 s.vers, .int .u64 s.path, .int .u32 s.mode, .int .u32 s.atime, .int .u32 s.mtime, .int .u64 s.len, .string s.name, .string s.uid, .string s.gid, .string s.muid]

def Rec.val (s : Rec) : Value := .agg s.cells
/-- A writer, and a box beside it that stays. -/
structure Beside (w0 : World) (S0 : List Nat) (b : Nat) (cs : Array Value) (t : TypeId) (w : World) (p : Nat) (S : List Nat) (st : WS) : Prop where
  wr : Wr 107 w p S st
  box : w.heap[b]? = some (.cells cs t (0, 0))
  kept : Kept S0 w0 w
  sub : ∀ k ∈ S, k ∈ S0 ∨ w0.heap.size ≤ k
  far : b ∉ S
  ok : st.Ok
  fit : st.Fit
theorem Beside.first {w0 : World} {p : Nat} {S0 : List Nat} {cs : Array Value} {t : TypeId} {st : WS} (h : Wr 107 w0 p S0 st) (ok : st.Ok) (fit : st.Fit) :
    Beside w0 S0 w0.heap.size cs t (w0.alloc (.cells cs t (0, 0))) p S0 st :=
  ⟨h.kept ((Kept.refl [] _).alloc _) (fun _ _ hm => by simp at hm), heap_alloc_new w0 _, (Kept.refl S0 _).alloc _, fun k hk => Or.inl hk, fun hm => Nat.lt_irrefl _ (h.lt _ hm), ok, fit⟩
theorem Beside.next {w0 w w' : World} {S0 S : List Nat} {b p : Nat} {cs : Array Value} {t : TypeId} {st st' : WS} (h : Beside w0 S0 b cs t w p S st) (ho : Out 107 w p S st' w') (hg : Goes st st') : ∃ S', Hid (Beside w0 S0 b cs t w' p S' st') := by
  obtain ⟨S', h1, h2, h3⟩ := ho
  have hb := block_lt h.box
  refine ⟨S', h1.out, ?_, h.kept.trans h2 h.sub, fun k hk => ?_, fun hm => ?_, hg.ok, hg.fit⟩
  · rw [h2.block b hb h.far]; exact h.box
  · rcases h3 k hk with q | q
    · exact h.sub k q
    · right; have := h.kept.size; omega
  · rcases h3 b hm with q | q
    · exact h.far q
    · omega
theorem Beside.end' {w0 w : World} {S0 S : List Nat} {b p : Nat} {cs : Array Value} {t : TypeId} {st : WS} (h : Beside w0 S0 b cs t w p S st) : Out 107 w0 p S0 st w := ⟨S, h.wr, h.kept, h.sub⟩
theorem Beside.cell {w0 w : World} {S0 S : List Nat} {b p : Nat} {cs : Array Value} {t : TypeId} {st : WS} (h : Beside w0 S0 b cs t w p S st) (i : Nat) : w.cell? ⟨b, i, none⟩ = cs[i]? := cell_of_row w b i cs t (0, 0) h.box

theorem Goes.qid {a : WS} (h : a.Ok) (f : a.Fit) (k v q : Nat) : Goes a (a.qid k v q) := by
  have g1 := Goes.raw h f (le 1 k)
  have g2 := Goes.raw g1.ok g1.fit (le 4 v)
  have g3 := Goes.raw g2.ok g2.fit (le 8 q)
  exact ⟨g3.ok, g3.fit⟩

namespace Stt
open Go.Proofs.Yteebiemfhicgbaa.Txt

set_option maxHeartbeats 1000000 in
theorem putqid_any (w : World) (p : Nat) (S : List Nat) (st : WS) (k v q : Nat) (hk : k ≤ 255) (hv : v ≤ 4294967295) (hq : q ≤ 18446744073709551615) (ok : Hid st.Ok) (fit : Hid st.Fit) (h : Hid (Wr 107 w p S st)) :
    Calls Try.prog 94 #[.pointer (some ⟨p, 0, none⟩), .agg #[.int .u8 k, .int .u32 v, .int .u64 q]] w fun e w' => e = .returned (.tuple #[]) ∧ Out 107 w p S (st.qid k v q) w' := by
  have HQ := Lib.hid hq
  clear hq
  obtain ⟨x, hx⟩ : ∃ x : Int, x = (q : Int) := ⟨_, rfl⟩
  rw [← hx]
  have HX := Lib.hid hx
  clear hx
  have B0 := Lib.hid (Beside.first (cs := #[.int .u8 k, .int .u32 v, .int .u64 x]) (t := 28) h.out ok.out fit.out)
  go_enter Try.func94, Try.ntmps94
  go_wp2_with fail
  refine (Wrt.u8_any _ p S st _ k rfl hk ok B0.out.wr).mono ?_
  rintro e w1 ⟨rfl, ho⟩
  obtain ⟨S1, B1⟩ := B0.out.next ho (Goes.raw ok.out fit.out _)
  have c1 : w1.cell? ⟨w.heap.size, 1, none⟩ = some (.int .u32 v) := B1.out.cell 1
  clear ho B0
  go_wp2_with fail
  refine (Wrt.u32_any _ p S1 _ _ v rfl hv B1.out.ok B1.out.wr).mono ?_
  rintro e w2 ⟨rfl, ho⟩
  obtain ⟨S2, B2⟩ := B1.out.next ho (Goes.raw B1.out.ok B1.out.fit _)
  have c2 : w2.cell? ⟨w.heap.size, 2, none⟩ = some (.int .u64 x) := B2.out.cell 2
  clear ho B1 c1
  go_wp2_with fail
  refine (Wrt.u64_any _ p S2 _ _ q HX.out HQ.out B2.out.ok B2.out.wr).mono ?_
  rintro e w3 ⟨rfl, ho⟩
  obtain ⟨S3, B3⟩ := B2.out.next ho (Goes.raw B2.out.ok B2.out.fit _)
  clear ho B2 c2
  go_wp2_with fail
  go_returns
  exact ⟨rfl, B3.out.end'⟩

set_option maxHeartbeats 2000000 in
theorem put_any (w : World) (p : Nat) (S : List Nat) (st : WS) (s : Rec) (so : s.Ok) (ok : Hid st.Ok) (fit : Hid st.Fit) (h : Hid (Wr 107 w p S st)) :
    Calls Try.prog 45 #[.pointer (some ⟨p, 0, none⟩), s.val] w fun e w' => e = .returned (.tuple #[]) ∧ Out 107 w p S (st.put s) w' := by
  have B0 := Lib.hid (Beside.first (cs := s.cells) (t := 30) h.out ok.out fit.out)
  obtain ⟨o1, o2, o3, o4, o5, o6, o7, o8, o9, z1, z2, z3, z4⟩ := so
  have O5 := Lib.hid o5
  have O9 := Lib.hid o9
  clear o5 o9
  unfold WS.put
  obtain ⟨pl, hpl⟩ : ∃ pl, pl = st.place := ⟨_, rfl⟩
  rw [← hpl]
  have HPL := Lib.hid hpl
  clear hpl
  obtain ⟨ty, dev, kind, vers, path, mode, atime, mtime, len, name, uid, gid, muid⟩ := s
  simp only at o1 o2 o3 o4 O5 o6 o7 o8 O9 z1 z2 z3 z4
  obtain ⟨path', hp'⟩ : ∃ x : Int, x = (path : Int) := ⟨_, rfl⟩
  obtain ⟨len', hl'⟩ : ∃ x : Int, x = (len : Int) := ⟨_, rfl⟩
  unfold Rec.val Rec.cells
  unfold Rec.cells at B0
  simp only [] at B0 ⊢
  unfold WS.nums WS.texts
  simp only []
  rw [← hp', ← hl']
  rw [← hp', ← hl'] at B0
  have HP := Lib.hid hp'
  have HL := Lib.hid hl'
  clear hp' hl'
  go_enter Try.func45, Try.ntmps45
  go_wp2_with fail
  refine (Wrt.open_any _ p S st ok B0.out.wr).mono ?_
  rintro e w1 ⟨rfl, ho⟩
  rw [← HPL.out]
  obtain ⟨S1, B1⟩ := B0.out.next ho (Goes.opened ok.out fit.out)
  clear ho B0
  have c : w1.cell? ⟨w.heap.size, 0, none⟩ = some (.int .u16 ty) := B1.out.cell 0
  go_wp2_with fail
  refine (Wrt.u16_any _ p S1 _ _ ty rfl o1 B1.out.ok B1.out.wr).mono ?_
  rintro e w2 ⟨rfl, ho⟩
  obtain ⟨S2, B2⟩ := B1.out.next ho (Goes.raw B1.out.ok B1.out.fit _)
  clear ho B1 c
  have c : w2.cell? ⟨w.heap.size, 1, none⟩ = some (.int .u32 dev) := B2.out.cell 1
  go_wp2_with fail
  refine (Wrt.u32_any _ p S2 _ _ dev rfl o2 B2.out.ok B2.out.wr).mono ?_
  rintro e w3 ⟨rfl, ho⟩
  obtain ⟨S3, B3⟩ := B2.out.next ho (Goes.raw B2.out.ok B2.out.fit _)
  clear ho B2 c
  have c2 : w3.cell? ⟨w.heap.size, 2, none⟩ = some (.int .u8 kind) := B3.out.cell 2
  have c3 : w3.cell? ⟨w.heap.size, 3, none⟩ = some (.int .u32 vers) := B3.out.cell 3
  have c4 : w3.cell? ⟨w.heap.size, 4, none⟩ = some (.int .u64 path') := B3.out.cell 4
  go_wp2_with fail
  have PQ := putqid_any w3 p S3 _ kind vers path o3 o4 O5.out B3.out.ok B3.out.fit B3.out.wr
  rw [← HP.out] at PQ
  refine PQ.mono ?_
  rintro e w4 ⟨rfl, ho⟩
  obtain ⟨S4, B4⟩ := B3.out.next ho (Goes.qid B3.out.ok B3.out.fit _ _ _)
  clear ho B3 c2 c3 c4 PQ
  have c : w4.cell? ⟨w.heap.size, 5, none⟩ = some (.int .u32 mode) := B4.out.cell 5
  go_wp2_with fail
  refine (Wrt.u32_any _ p S4 _ _ mode rfl o6 B4.out.ok B4.out.wr).mono ?_
  rintro e w5 ⟨rfl, ho⟩
  obtain ⟨S5, B5⟩ := B4.out.next ho (Goes.raw B4.out.ok B4.out.fit _)
  clear ho B4 c
  have c : w5.cell? ⟨w.heap.size, 6, none⟩ = some (.int .u32 atime) := B5.out.cell 6
  go_wp2_with fail
  refine (Wrt.u32_any _ p S5 _ _ atime rfl o7 B5.out.ok B5.out.wr).mono ?_
  rintro e w6 ⟨rfl, ho⟩
  obtain ⟨S6, B6⟩ := B5.out.next ho (Goes.raw B5.out.ok B5.out.fit _)
  clear ho B5 c
  have c : w6.cell? ⟨w.heap.size, 7, none⟩ = some (.int .u32 mtime) := B6.out.cell 7
  go_wp2_with fail
  refine (Wrt.u32_any _ p S6 _ _ mtime rfl o8 B6.out.ok B6.out.wr).mono ?_
  rintro e w7 ⟨rfl, ho⟩
  obtain ⟨S7, B7⟩ := B6.out.next ho (Goes.raw B6.out.ok B6.out.fit _)
  clear ho B6 c
  have c : w7.cell? ⟨w.heap.size, 8, none⟩ = some (.int .u64 len') := B7.out.cell 8
  go_wp2_with fail
  refine (Wrt.u64_any _ p S7 _ _ len HL.out O9.out B7.out.ok B7.out.wr).mono ?_
  rintro e w8 ⟨rfl, ho⟩
  obtain ⟨S8, B8⟩ := B7.out.next ho (Goes.raw B7.out.ok B7.out.fit _)
  clear ho B7 c
  have c : w8.cell? ⟨w.heap.size, 9, none⟩ = some (.string name) := B8.out.cell 9
  go_wp2_with fail
  refine (Wrt.text_any _ p S8 _ name z1 B8.out.ok B8.out.wr).mono ?_
  rintro e w9 ⟨rfl, ho⟩
  obtain ⟨S9, B9⟩ := B8.out.next ho (Goes.text B8.out.ok B8.out.fit _)
  clear ho B8 c
  have c : w9.cell? ⟨w.heap.size, 10, none⟩ = some (.string uid) := B9.out.cell 10
  go_wp2_with fail
  refine (Wrt.text_any _ p S9 _ uid z2 B9.out.ok B9.out.wr).mono ?_
  rintro e w10 ⟨rfl, ho⟩
  obtain ⟨S10, B10⟩ := B9.out.next ho (Goes.text B9.out.ok B9.out.fit _)
  clear ho B9 c
  have c : w10.cell? ⟨w.heap.size, 11, none⟩ = some (.string gid) := B10.out.cell 11
  go_wp2_with fail
  refine (Wrt.text_any _ p S10 _ gid z3 B10.out.ok B10.out.wr).mono ?_
  rintro e w11 ⟨rfl, ho⟩
  obtain ⟨S11, B11⟩ := B10.out.next ho (Goes.text B10.out.ok B10.out.fit _)
  clear ho B10 c
  have c : w11.cell? ⟨w.heap.size, 12, none⟩ = some (.string muid) := B11.out.cell 12
  go_wp2_with fail
  refine (Wrt.text_any _ p S11 _ muid z4 B11.out.ok B11.out.wr).mono ?_
  rintro e w12 ⟨rfl, ho⟩
  obtain ⟨S12, B12⟩ := B11.out.next ho (Goes.text B11.out.ok B11.out.fit _)
  clear ho B11 c
  go_wp2_with fail
  refine (Wrt.shut_any _ p S12 _ _ B12.out.ok B12.out.fit B12.out.wr).mono ?_
  rintro e w13 ⟨rfl, ho⟩
  obtain ⟨S13, B13⟩ := B12.out.next ho (Goes.shut B12.out.ok B12.out.fit _)
  clear ho B12
  go_wp2_with fail
  go_returns
  exact ⟨rfl, B13.out.end'⟩
end Stt
end Go.Proofs.Yteebiemfhicgbaa
