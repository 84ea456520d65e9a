/- fids: a fid as it stands, bytes that can be read for good; copied. -/
import Derived.Test.YthiojjmmcdoiiaaByt
import Derived.Test.YthiojjmmcdoiiaaMpf
import Derived.Test.YthiojjmmcdoiiaaLaw
import Derived.WalkKit
import Derived.Deep.Cut
import Derived.Deep.CutRange
import Derived.PlainAid
import Derived.Deep.RegionHeld3
import Derived.Deep.RegionLaw
namespace Go.Proofs.Ythiojjmmcdoiiaa
set_option linter.unusedVariables false
open Go.RowKit
namespace Fi
open Go.Proofs.Ythiojjmmcdoiiaa.Mpf Go.PlainAid

/-- A fid: its numbers and texts; the bytes of its Talk. -/
structure Fd where
  state : Int
  node : Int
  user : ByteArray
  mode : Int
  remove : Bool
  last : Int
  told : Int
  tuser : ByteArray
  ttree : ByteArray
  ours : Int
  theirs : Int
  step : Int
  said : Int
  heard : List UInt8
def Fd.L (d : Fd) (s : Value) : List Value := [.int .u8 d.state, .int .u64 d.node, .string d.user, .int .u8 d.mode, .bool d.remove, .int .u64 d.last, .int .u64 d.told, .string d.tuser, .string d.ttree, .int .u64 d.ours, .int .u64 d.theirs, .int .u8 d.step, .int .i64 d.said, s]
def Fd.V (d : Fd) (s : Value) : Value := .agg (d.L s).toArray
/-- A block of bytes. -/
def U8 (w : World) (k : Nat) : Prop := ∃ cs z, w.heap[k]? = some (.cells cs 5 z)
theorem U8.lt {w : World} {k : Nat} (h : U8 w k) : k < w.heap.size := by obtain ⟨cs, z, h⟩ := h; exact (Array.getElem?_eq_some_iff.1 h).1
theorem U8.kept {S : List Nat} {w w' : World} {k : Nat} (h : U8 w k) (hk : Kept S w w') (hn : k ∉ S) : U8 w' k := by obtain ⟨cs, z, h⟩ := h; exact ⟨cs, z, (hk.block k (Array.getElem?_eq_some_iff.1 h).1 hn).trans h⟩
/-- No block of S is one of bytes. -/
def No8 (S : List Nat) (w : World) : Prop := ∀ i ∈ S, ¬ U8 w i
theorem No8.nil (w : World) : No8 [] w := fun i hi => by cases hi
/-- A list of bytes that nobody writes. -/
def Rd8 (w : World) (s : Value) (bs : List UInt8) : Prop := ∃ T, Src w s bs T ∧ ∀ k ∈ T, U8 w k
theorem Rd8.kept {S : List Nat} {w w' : World} {s : Value} {bs : List UInt8} (h : Rd8 w s bs) (hk : Kept S w w') (hS : No8 S w) : Rd8 w' s bs := by
  obtain ⟨T, h, hT⟩ := h
  exact ⟨T, h.kept hk (fun k hk' hm => hS k hm (hT k hk')), fun k hk' => (hT k hk').kept hk (fun hm => hS k hm (hT k hk'))⟩
theorem Rd8.of_own {w : World} {B : Nat} {s : Value} {bs : List UInt8} (h : Own w B s bs) : Rd8 w s bs := by
  refine ⟨_, Src.of_own h, fun k hk => ?_⟩
  rcases h.2 with ⟨rfl, h0⟩ | ⟨g, cap, cur, rfl, _, hg, _⟩
  · simp [Value.ownBlock] at hk
  · simp [Value.ownBlock] at hk
    subst hk
    exact ⟨_, _, hg⟩
theorem Rd8.none (w : World) : Rd8 w (.slice none 0 0) [] := ⟨[], (Seg.empty w []).src, fun k hk => by cases hk⟩
theorem own_base {w : World} {B B' : Nat} {s : Value} {bs : List UInt8} (h : Own w B s bs) (hb : B' ≤ B) : Own w B' s bs := by
  refine ⟨h.1, ?_⟩
  rcases h.2 with h2 | ⟨g, cap, cur, h2, a1, r⟩
  · exact Or.inl h2
  · exact Or.inr ⟨g, cap, cur, h2, Nat.le_trans hb a1, r⟩
/-- A block known whole. -/
def Bx (w : World) (B : Nat) (t : TypeId) (cs : Array Value) : Prop := w.heap[B]? = some (.cells cs t (0, 0))
theorem Bx.lt {w : World} {B : Nat} {t : TypeId} {cs : Array Value} (h : Bx w B t cs) : B < w.heap.size := block_lt h
theorem Bx.kept {S : List Nat} {w w' : World} {B : Nat} {t : TypeId} {cs : Array Value} (h : Bx w B t cs) (k : Kept S w w') (hn : B ∉ S) : Bx w' B t cs := (k.block B h.lt hn).trans h
theorem Bx.alloc {w : World} {B : Nat} {t : TypeId} {cs : Array Value} (h : Bx w B t cs) (o : Obj) : Bx (w.alloc o) B t cs := (Below.heap_alloc _ _ _ h.lt).trans h
theorem Bx.made (w : World) (t : TypeId) (cs : Array Value) : Bx (w.alloc (.cells cs t)) w.heap.size t cs := (MapKept.heap_alloc w _).1
theorem Bx.drew {w : World} {B : Nat} {t : TypeId} {cs : Array Value} (h : Bx w B t cs) : Bx w.drew B t cs := h
theorem Bx.cell {w : World} {B : Nat} {t : TypeId} {cs : Array Value} (h : Bx w B t cs) (i : Nat) {v : Value} (hv : cs[i]? = some v) : w.cell? ⟨B, i, none⟩ = some v := by rw [cell_of_row w B i cs t (0, 0) h]; exact hv
theorem Bx.frozen {w : World} {B : Nat} {t : TypeId} {cs : Array Value} (h : Bx w B t cs) (i : Nat) : w.frozen? ⟨B, i, none⟩ = false := by simp [World.frozen?, show w.heap[B]? = _ from h]
theorem Bx.no8 {w : World} {B : Nat} {t : TypeId} {cs : Array Value} (h : Bx w B t cs) (ht : t ≠ 5) : ¬ U8 w B := fun ⟨cs', z, h'⟩ => by
  rw [show w.heap[B]? = _ from h] at h'
  simp at h'
  exact ht h'.2.1

theorem cells_fid : Try.prog.cellsOf 51 = 14 := by kernel_rfl
theorem size_fid : (Try.prog.info? 51).map (·.size) = some 14 := by kernel_rfl
theorem wpList_lrow {w : World} {ops : Array Oper} {rest : List Oper} {o : Oper} {a : Act} {Q : Exit → Act → World → Prop} (hgd : o.guard = none) (x : Operand) (ho : o.op = .load 51 x) (B : Nat) (V : Array Value) (hs : V.size = 14) (h : Bx w B 51 V) (hx : a.eval x = .pointer (some ⟨B, 0, none⟩))
    (hK : wpList Try.prog ops Q rest (a.put o.dst (.agg V)) w) : wpList Try.prog ops Q (o :: rest) a w :=
  wpList_plain hgd fun K hK' => wp_load_row 51 x ho B hx 51 _ (0, 0) _ h Try.underlying51 rfl (by rw [hs]; exact size_fid) (hK' _ _ hK)
theorem wpList_srow {w : World} {ops : Array Oper} {rest : List Oper} {o : Oper} {a : Act} {Q : Exit → Act → World → Prop} (hgd : o.guard = none) (x y : Operand) (ho : o.op = .store 51 x y) (g : Nat) (hx : a.eval x = .pointer (some ⟨g, 0, none⟩)) (old cs : Array Value)
    (hy : a.eval y = .agg cs) (hg : Bx w g 51 old) (hs : old.size = 14) (hc : cs.size = 14) (h1 : cs.all (·.oneCell') = true)
    (h : ∀ w', Bx w' g 51 cs → Kept [g] w w' → wpList Try.prog ops Q rest (a.put o.dst undef) w') : wpList Try.prog ops Q (o :: rest) a w :=
  wpList_plain hgd fun K hK => by
    have := run_storeVar_row (P := Try.prog) w g 51 51 old cs hg (by rw [hc]; exact size_fid) (by rw [hs, hc]) h1
    unfold Oper.wp execOp
    simp only [ho, hx, hy, Instr.storeAt, Instr.sureAddr, Sem.run_bind, Sem.run_pure, Result.andThen_ok, this]
    exact hK _ _ (h _ (setRow_heap w g old cs 51 (0, 0) hg) ⟨rfl, rfl, rfl, by simp [World.setRow], fun k _ hk => setRow_other w g k _ (by simpa using hk)⟩)
theorem A_size (d : Fd) (s : Value) : (d.L s).toArray.size = 14 := rfl
theorem A_one (d : Fd) (a : Option Addr) (n c : Nat) : (d.L (.slice a n c)).toArray.all (·.oneCell') = true := by simp [Fd.L, Value.oneCell']
theorem A_set (d : Fd) (s s' : Value) : (d.L s).toArray.setIfInBounds 13 s' = (d.L s').toArray := by simp [Fd.L]
def zeroFd : Fd := ⟨0, 0, ⟨#[]⟩, 0, false, 0, 0, ⟨#[]⟩, ⟨#[]⟩, 0, 0, 0, 0, []⟩
/-- A copy came out. -/
def Copied (w : World) (d : Fd) (e : Ending) (w' : World) : Prop := ∃ s', e = .returned (d.V s') ∧ Hid (Own w' w.heap.size s' d.heard) ∧ Kept [] w w'
set_option maxRecDepth 100000 in
theorem copied_any (w : World) (d : Fd) (s : Value) (T : List Nat) (hs : Src w s d.heard T) (hl : d.heard.length ≤ 1152921504606) :
    Calls Try.prog 53 #[d.V s] w (Copied w d) := by
  have hT : ∀ k ∈ T, k ∉ ([] : List Nat) := fun k _ h => by cases h
  have CL : Hid (∀ w2, Kept [] w w2 → Calls Try.prog 70 #[s] w2 (Fresh w2 d.heard)) := fun w2 k => clone_any w2 s d.heard T hl (hs.kept k hT)
  obtain ⟨V, hV⟩ : ∃ V, V = (d.L s).toArray := ⟨_, rfl⟩
  have DV : d.V s = .agg V := by rw [hV]; rfl
  have VS : Hid (V.size = 14 ∧ V[13]? = some s ∧ (∀ s', V.setIfInBounds 13 s' = (d.L s').toArray)) := by rw [hV]; exact ⟨rfl, rfl, A_set d s⟩
  rw [DV]
  clear DV hs hl hT hV
  obtain ⟨Z, hZ⟩ : ∃ Z : Array Value, Z = #[.int .u8 0, .int .u64 0, .string ⟨#[]⟩, .int .u8 0, .bool false, .int .u64 0, .int .u64 0, .string ⟨#[]⟩, .string ⟨#[]⟩, .int .u64 0, .int .u64 0, .int .u8 0, .int .i64 0, .slice none 0 0] := ⟨_, rfl⟩
  have HZ := Lib.hid hZ
  have hv13 : ∀ w2 : World, Bx w2 w.heap.size 51 V → w2.cell? ⟨w.heap.size, 13, none⟩ = some s := fun w2 h => h.cell 13 VS.out.2.1
  have HV13 := Lib.hid hv13
  have B1' : Hid (Bx (w.alloc (.cells V 51)) w.heap.size 51 V) := Bx.made w _ _
  have hz13 : ((w.alloc (.cells V 51)).alloc (.cells Z 51)).cell? ⟨w.heap.size, 13, none⟩ = some s := HV13.out _ (B1'.out.alloc _)
  have B2' : Hid (Bx ((w.alloc (.cells V 51)).alloc (.cells Z 51)) (w.heap.size + 1) 51 Z) := by
    have := Bx.made (w.alloc (.cells V 51)) 51 Z
    rwa [World.size_alloc] at this
  rw [hZ] at hz13
  clear hZ hv13
  go_enter Try.func53, Try.ntmps53
  go_wp2_with fail
  refine (CL.out _ (((Kept.refl _ _).alloc _).alloc _)).mono ?_
  rintro e w2 ⟨s', rfl, own, k2⟩
  rw [← HZ.out] at own k2
  have e1 : ((w.alloc (.cells V 51)).alloc (.cells Z 51)).heap.size = w.heap.size + 2 := by simp
  have b1 : Bx w2 w.heap.size 51 V := (B1'.out.alloc _).kept k2 (by simp)
  have b2 : Bx w2 (w.heap.size + 1) 51 Z := B2'.out.kept k2 (by simp)
  have OWN : Hid (Own w2 w.heap.size s' d.heard) := own_base own.out (by rw [e1]; omega)
  have K2 : Hid (Kept [] w w2) := (((Kept.refl _ _).alloc _).alloc _).trans k2 (fun i hi => by cases hi)
  have HB2 := Lib.hid b2
  have HB1 := Lib.hid b1
  obtain ⟨R, hR⟩ : ∃ R, R = w.heap.size + 1 := ⟨_, rfl⟩
  obtain ⟨R0, hR0⟩ : ∃ R0, R0 = w.heap.size := ⟨_, rfl⟩
  have ne : Hid (R0 ≠ R ∧ w.heap.size ≤ R0 ∧ w.heap.size ≤ R) := ⟨by omega, by omega, by omega⟩
  rw [← hR] at HB2 ⊢
  rw [← hR0] at HB1 ⊢
  clear b1 b2 own k2 e1 hR hR0 B1' B2' HV13 hz13
  obtain ⟨a, c, hs'⟩ := own_slice OWN.out
  subst hs'
  obtain ⟨c1, hc1⟩ : ∃ c1, c1 = w2.setCell ⟨R0, 13, none⟩ (.slice a d.heard.length c) := ⟨_, rfl⟩
  have o1 := HB1.out.cell 13 VS.out.2.1
  have f1 := HB1.out.frozen 13
  have B1 : Hid (Bx c1 R0 51 (d.L (.slice a d.heard.length c)).toArray) := by rw [hc1, ← VS.out.2.2]; exact heap_set _ HB1.out
  have B2 : Hid (Bx c1 R 51 Z) := by rw [hc1]; exact (Below.heap_setCell _ _ _ _ (fun e => ne.out.1 e.symm)).trans HB2.out
  have KC : Hid (Kept [R0] w2 c1) := by rw [hc1]; exact (Kept.refl _ _).setCell (Or.inl (by simp)) _
  have HC1 := Lib.hid hc1
  clear hc1
  go_wp2_with (first | (refine wpList_lrow rfl (.tmp 1) rfl R0 (d.L (.slice a d.heard.length c)).toArray rfl (by rw [← HC1.out]; exact B1.out) rfl ?_; rw [← HC1.out]) | (refine wpList_srow rfl (.tmp 2) (.tmp 9) rfl R rfl Z (d.L (.slice a d.heard.length c)).toArray rfl B2.out (by rw [HZ.out]; rfl) rfl (A_one _ _ _ _) ?_; intro w4 b4 k4))
  have KB : Kept [R0, R] w2 w4 := (KC.out.mono (T := [R0, R]) (fun i hi => Or.inl (by simp at hi; simp [hi]))).trans k4 (fun i hi => Or.inl (by simp at hi; simp [hi]))
  have K4 : Kept [] w w4 := K2.out.trans KB (fun i hi => Or.inr (by have := ne.out.2; simp at hi; rcases hi with rfl | rfl; exact this.1; exact this.2))
  have O4 : Own w4 w.heap.size (.slice a d.heard.length c) d.heard := ownsRow_kept OWN.out KB (fun k hk hm => by
    simp at hm
    rcases hm with rfl | rfl
    · exact own_neB OWN.out HB1.out (by decide) _ hk rfl
    · exact own_neB OWN.out HB2.out (by decide) _ hk rfl)
  have hl := run_loadVar_row (P := Try.prog) w4 R 51 51 _ (0, 0) _ b4 Try.underlying51 rfl size_fid
  refine bodyPost_ret (v := d.V (.slice a d.heard.length c)) (by simp [results, Try.results53, asAddr, hl, Act.put, Array.setIfInBounds]; rfl) rfl ⟨_, rfl, O4, K4⟩
end Fi
end Go.Proofs.Ythiojjmmcdoiiaa
