/- Records: all records of these bytes, one behind the other. -/
import Derived.Test.YteebiemfhicgbaaEac
import Derived.Test.YteebiemfhicgbaaRre
namespace Go.Proofs.Yteebiemfhicgbaa
set_option linter.unusedVariables false
open Go.RowKit Go.Shelf
attribute [local go_sem] Oper.semAt_some

/-- The cells of a row of records. -/
def rowOf : List (Nat × Rec) → List Value
  | [] => []
  | p :: l => p.2.cells.toList ++ rowOf l
theorem rowOf_append : ∀ l m, rowOf (l ++ m) = rowOf l ++ rowOf m
  | [], m => rfl
  | p :: l, m => by
    show p.2.cells.toList ++ rowOf (l ++ m) = (p.2.cells.toList ++ rowOf l) ++ rowOf m
    rw [rowOf_append l m, List.append_assoc]
theorem rowOf_one (p : Nat × Rec) : rowOf [p] = p.2.cells.toList := by
  show p.2.cells.toList ++ [] = _
  rw [List.append_nil]

/-- What stands while Records goes on: the list so far in its box, where it ends in another one. -/
structure RecsI (w : World) (D : Nat) (Rs : List Nat) (pre : List (Nat × Rec)) (W : World) : Prop where
  box : ∃ vl, W.heap[w.heap.size]? = some (.cells #[vl] 36 (0, 0)) ∧ W.ownsRow w.heap.size 30 13 vl pre.length (rowOf pre) ∧ (∀ g, vl.ownBlock = some g → g ∉ Rs ∧ g ≠ D ∧ g ≠ D + 1 ∧ g ≠ w.heap.size ∧ g ≠ w.heap.size + 1 ∧ g < W.heap.size)
  tail : W.heap[w.heap.size + 1]? = some (.cells #[.int .i64 (endOf pre : Nat)] 3 (0, 0))
  kept : Kept [] w W
  far : w.heap.size + 2 ≤ D
  rs : ∀ i ∈ Rs, D + 2 ≤ i ∧ i < W.heap.size
theorem RecsI.stays {w A B : World} {D : Nat} {Rs : List Nat} {pre : List (Nat × Rec)} (h : RecsI w D Rs pre A) (hk : Kept (D :: (D + 1) :: Rs) A B) : RecsI w D Rs pre B := by
  obtain ⟨vl, h1, h2, h3⟩ := h.box
  have hf := h.far
  have hs := hk.size
  have n0 : w.heap.size ∉ D :: (D + 1) :: Rs := fun hm => by
    rcases List.mem_cons.1 hm with e | hm
    · omega
    · rcases List.mem_cons.1 hm with e | hm
      · omega
      · have := (h.rs _ hm).1; omega
  have n1 : w.heap.size + 1 ∉ D :: (D + 1) :: Rs := fun hm => by
    rcases List.mem_cons.1 hm with e | hm
    · omega
    · rcases List.mem_cons.1 hm with e | hm
      · omega
      · have := (h.rs _ hm).1; omega
  refine ⟨⟨vl, (hk.block _ (block_lt h1) n0).trans h1, ownsRow_kept h2 hk (fun k e hm => ?_), fun g e => ?_⟩, (hk.block _ (block_lt h.tail) n1).trans h.tail, h.kept.trans hk (fun i hi => Or.inr ?_), hf, fun i hi => ?_⟩
  · obtain ⟨a1, a2, a3, -⟩ := h3 k e
    rcases List.mem_cons.1 hm with e | hm
    · exact a2 e
    · rcases List.mem_cons.1 hm with e | hm
      · exact a3 e
      · exact a1 hm
  · obtain ⟨a1, a2, a3, a4, a5, a6⟩ := h3 g e
    exact ⟨a1, a2, a3, a4, a5, by omega⟩
  · rcases List.mem_cons.1 hi with e | hm
    · omega
    · rcases List.mem_cons.1 hm with e | hm
      · omega
      · have := (h.rs _ hm).1; omega
  · obtain ⟨a1, a2⟩ := h.rs i hi
    exact ⟨a1, by omega⟩

/-- What Records tells. -/
def RecsOut (w : World) (bs : List UInt8) (e : Ending) (w' : World) : Prop :=
  (endOf (allRecs bs) = bs.length ∧ ∃ vl, e = .returned (.tuple #[vl, .int .i64 0]) ∧ Hid (w'.ownsRow w.heap.size 30 13 vl (allRecs bs).length (rowOf (allRecs bs))) ∧ Kept [] w w') ∨
  (endOf (allRecs bs) ≠ bs.length ∧ e = .returned (.tuple #[.slice none 0 0, .int .i64 20]) ∧ Kept [] w w')

namespace Stt
open Go.Proofs.Yteebiemfhicgbaa.Txt
theorem info30 : (Try.prog.info? 30).map (fun i => (i.zero, i.size, i.bytes)) = some (some (.agg #[.int .u16 0, .int .u32 0, .int .u8 0, .int .u32 0, .int .u64 0, .int .u32 0, .int .u32 0, .int .u32 0, .int .u64 0, .string ⟨#[]⟩, .string ⟨#[]⟩, .string ⟨#[]⟩, .string ⟨#[]⟩]), 13, 112) := by kernel_rfl

/-- What a round's append, and its store, leave. -/
theorem body_step {w Wb W w1 : World} {D Bx g cap n : Nat} {vl tl : Value} {x' : Obj} {cs : Array Value} {Rs : List Nat} {rows : List Value}
    (hL : W.heap[w.heap.size]? = some (.cells #[vl] 36 (0, 0))) (hE : W.heap[w.heap.size + 1]? = some (.cells #[tl] 3 (0, 0))) (hX : W.heap[Bx]? = some (.cells cs 30 (0, 0)))
    (hown : ∀ g, vl.ownBlock = some g → g ∉ Rs ∧ g ≠ D ∧ g ≠ D + 1 ∧ g ≠ w.heap.size ∧ g ≠ w.heap.size + 1 ∧ g < Wb.heap.size)
    (hwW : w.heap.size ≤ W.heap.size) (hfar : w.heap.size + 2 ≤ D) (hW2 : D + 2 ≤ Wb.heap.size) (hsb : Wb.heap.size ≤ W.heap.size) (hBx : Wb.heap.size ≤ Bx)
    (hr1 : w1.ownsRow w.heap.size 30 13 (.slice (some ⟨g, 0, none⟩) (n + 1) cap) (n + 1) rows) (hg1 : (W.alloc x').grownBy w1 vl.ownBlock) (hgb : vl.ownBlock = some g ∨ g = (W.alloc x').heap.size) (hgl : g < w1.heap.size) :
    (Hid (Kept (w.heap.size :: vl.ownBlock.toList) W (w1.setCell ⟨w.heap.size, 0, none⟩ (.slice (some ⟨g, 0, none⟩) (n + 1) cap))) ∧
    Hid ((w1.setCell ⟨w.heap.size, 0, none⟩ (.slice (some ⟨g, 0, none⟩) (n + 1) cap)).heap[w.heap.size]? = some (.cells #[.slice (some ⟨g, 0, none⟩) (n + 1) cap] 36 (0, 0))) ∧
    Hid ((w1.setCell ⟨w.heap.size, 0, none⟩ (.slice (some ⟨g, 0, none⟩) (n + 1) cap)).heap[w.heap.size + 1]? = some (.cells #[tl] 3 (0, 0))) ∧
    Hid ((w1.setCell ⟨w.heap.size, 0, none⟩ (.slice (some ⟨g, 0, none⟩) (n + 1) cap)).heap[Bx]? = some (.cells cs 30 (0, 0))) ∧
    Hid ((w1.setCell ⟨w.heap.size, 0, none⟩ (.slice (some ⟨g, 0, none⟩) (n + 1) cap)).ownsRow w.heap.size 30 13 (.slice (some ⟨g, 0, none⟩) (n + 1) cap) (n + 1) rows) ∧
    Hid ((vl.ownBlock = some g ∨ Wb.heap.size < g) ∧ g < w1.heap.size)) ∧
    w1.cell? ⟨w.heap.size, 0, none⟩ = some vl ∧ w1.frozen? ⟨w.heap.size, 0, none⟩ = false := by
  have K1 : Kept vl.ownBlock.toList W w1 := ((Kept.refl vl.ownBlock.toList W).alloc _).grown hg1 (fun k e => Or.inl (by simp [e]))
  have nL : w.heap.size ∉ vl.ownBlock.toList := fun hm => (hown _ (by simpa using hm)).2.2.2.1 rfl
  have nE : w.heap.size + 1 ∉ vl.ownBlock.toList := fun hm => (hown _ (by simpa using hm)).2.2.2.2.1 rfl
  have nX : Bx ∉ vl.ownBlock.toList := fun hm => by have := (hown _ (by simpa using hm)).2.2.2.2.2; omega
  have L1 := (K1.block _ (block_lt hL) nL).trans hL
  have E1 := (K1.block _ (block_lt hE) nE).trans hE
  have X1 := (K1.block _ (block_lt hX) nX).trans hX
  have k2 : Kept [w.heap.size] w1 (w1.setCell ⟨w.heap.size, 0, none⟩ (.slice (some ⟨g, 0, none⟩) (n + 1) cap)) := (Kept.refl _ _).setCell (Or.inl (by simp)) _
  have hL2 := heap_set (i := 0) (.slice (some ⟨g, 0, none⟩) (n + 1) cap) L1
  have gL : g ≠ w.heap.size := by
    rcases hgb with h | h
    · exact (hown _ h).2.2.2.1
    · simp at h; omega
  refine ⟨⟨(K1.mono (T := w.heap.size :: vl.ownBlock.toList) (fun i hi => Or.inl (by simp at hi; simp [hi]))).trans k2 (fun i hi => Or.inl (by simp at hi; simp [hi])), ?_, (k2.block _ (block_lt E1) (by simp)).trans E1, (k2.block _ (block_lt X1) (by simp; omega)).trans X1, ownsRow_kept hr1 k2 (fun k e hm => ?_), ?_, hgl⟩, ?_, ?_⟩
  · simp at hL2
    exact hL2
  · simp [Value.ownBlock] at e hm
    omega
  · rcases hgb with h | h
    · exact Or.inl h
    · simp at h; right; omega
  · rw [cell_of_row w1 w.heap.size 0 _ 36 (0, 0) L1]; rfl
  · simp [World.frozen?, L1]

/-- What a round leaves. -/
theorem body_end {w Wb W w2 w4 : World} {D g cap : Nat} {vl tl : Value} {Rs : List Nat} {pre : List (Nat × Rec)} {p : Nat × Rec} {z : Int} {news : List Value} {a : Act}
    (K2 : Kept (w.heap.size :: vl.ownBlock.toList) W w2) (L2 : w2.heap[w.heap.size]? = some (.cells #[.slice (some ⟨g, 0, none⟩) (pre.length + 1) cap] 36 (0, 0)))
    (E4 : w4.heap[w.heap.size + 1]? = some (.cells #[tl] 3 (0, 0))) (hr2 : w2.ownsRow w.heap.size 30 13 (.slice (some ⟨g, 0, none⟩) (pre.length + 1) cap) (pre.length + 1) (rowOf pre ++ news)) {s1 : Nat} (hgq : (vl.ownBlock = some g ∨ Wb.heap.size < g) ∧ g < s1)
    (k4 : Kept [] w2 w4) (hown : ∀ g, vl.ownBlock = some g → g ∉ Rs ∧ g ≠ D ∧ g ≠ D + 1 ∧ g ≠ w.heap.size ∧ g ≠ w.heap.size + 1 ∧ g < Wb.heap.size)
    (hfar : w.heap.size + 2 ≤ D) (hW2 : D + 2 ≤ Wb.heap.size) (hsb : Wb.heap.size ≤ W.heap.size) (hR : ∀ i ∈ Rs, D + 2 ≤ i) (hrs : ∀ i ∈ Rs, D + 2 ≤ i ∧ i < Wb.heap.size) (hKW : Kept [] w W) (hrowW : W.ownsRow w.heap.size 30 13 vl pre.length (rowOf pre)) (hnews : news = rowOf [p]) (hz : z = ((p.1 + p.2.size : Nat) : Int)) :
    rgPost (RecsI w D) Rs D (pre ++ [p]) W .normal a (w4.setCell ⟨w.heap.size + 1, 0, none⟩ (.int .i64 z)) := by
  subst hnews
  have k5 : Kept [w.heap.size + 1] w4 (w4.setCell ⟨w.heap.size + 1, 0, none⟩ (.int .i64 z)) := (Kept.refl _ _).setCell (Or.inl (by simp)) _
  have k24 : Kept [w.heap.size + 1] w2 (w4.setCell ⟨w.heap.size + 1, 0, none⟩ (.int .i64 z)) := (k4.mono (fun i hi => by simp at hi)).trans k5 (fun i hi => Or.inl hi)
  have k : Kept (w.heap.size :: (w.heap.size + 1) :: vl.ownBlock.toList) W (w4.setCell ⟨w.heap.size + 1, 0, none⟩ (.int .i64 z)) :=
    (K2.mono (fun i hi => Or.inl (by simp at hi ⊢; rcases hi with h | h; exact Or.inl h; exact Or.inr (Or.inr h)))).trans k24 (fun i hi => Or.inl (by simp at hi; simp [hi]))
  have hE5 := heap_set (i := 0) (.int .i64 z) E4
  have hgg : g ∉ Rs ∧ g ≠ D ∧ g ≠ D + 1 ∧ g ≠ w.heap.size ∧ g ≠ w.heap.size + 1 := by
    rcases hgq.1 with h | h
    · obtain ⟨a1, a2, a3, a4, a5, -⟩ := hown _ h
      exact ⟨a1, a2, a3, a4, a5⟩
    · exact ⟨fun hm => by have := (hrs _ hm).2; omega, by omega, by omega, by omega, by omega⟩
  have L5 := (k24.block _ (block_lt L2) (by simp)).trans L2
  have r5 := ownsRow_kept hr2 k24 (fun k e hm => by simp [Value.ownBlock] at e hm; omega)
  have hsW := k.size
  have hgw : g < (w4.setCell ⟨w.heap.size + 1, 0, none⟩ (.int .i64 z)).heap.size := by
    rcases r5.2 with ⟨h, _⟩ | ⟨g', c', cur, h, -, h2, -⟩
    · cases h
    · cases h; exact block_lt h2
  refine ⟨⟨_, k, fun i hi => ?_⟩, ⟨⟨_, L5, ?_, fun g' e => ?_⟩, ?_, hKW.trans k (fun i hi => Or.inr ?_), hfar, fun i hi => ⟨(hrs i hi).1, by have := (hrs i hi).2; omega⟩⟩⟩
  · rcases List.mem_cons.1 hi with rfl | hi
    · exact ⟨fun hm => by have := hR _ hm; omega, by omega, by omega⟩
    · rcases List.mem_cons.1 hi with rfl | hi
      · exact ⟨fun hm => by have := hR _ hm; omega, by omega, by omega⟩
      · obtain ⟨a1, a2, a3, -⟩ := hown i (by simpa using hi)
        exact ⟨a1, a2, a3⟩
  · rw [rowOf_append, List.length_append]
    exact r5
  · simp [Value.ownBlock] at e
    subst e
    exact ⟨hgg.1, hgg.2.1, hgg.2.2.1, hgg.2.2.2.1, hgg.2.2.2.2, hgw⟩
  · rw [endOf_snoc, ← hz]
    simp at hE5
    exact hE5
  · have hbase : ∀ i, vl.ownBlock = some i → w.heap.size ≤ i := fun i e => by
      rcases hrowW.2 with ⟨h, _⟩ | ⟨g', c', cur, h, h2, -⟩
      · rw [h] at e; cases e
      · rw [h] at e
        simp [Value.ownBlock] at e
        omega
    rcases List.mem_cons.1 hi with rfl | hi
    · exact Nat.le_refl _
    · rcases List.mem_cons.1 hi with rfl | hi
      · omega
      · exact hbase i (by simpa using hi)

set_option maxHeartbeats 1000000 in
set_option maxRecDepth 100000 in
theorem records_any (w : World) (v : Value) (bs : List UInt8) (T : List Nat) (hsz : bs.length ≤ 1152921504606) (hb : Hid (Src w v bs T)) (hT : Hid (∀ k ∈ T, k < w.heap.size)) :
    Calls Try.prog 11 #[v] w (RecsOut w bs) := by
  obtain ⟨av, cv, rfl, -⟩ := id hb.out
  refine (callsIn_wide (n := 4)).1 ?_
  refine callsIn_of_wp_marks Try.func11 rfl trivial ?_ rfl
  simp only [Try.ntmps11, List.size_toArray, List.length_cons, List.length_nil, Nat.reduceAdd, Nat.reduceSub, Array.replicate_succ, Array.replicate_zero, List.push_toArray, List.append_toArray, List.nil_append, List.cons_append]
  have hb2 : Hid (Src ((w.alloc (.cells #[.slice none 0 0] 36)).alloc (.cells #[.int .i64 0] 3)) (.slice av bs.length cv) bs T) := hb.out.kept (((Kept.refl [] w).alloc _).alloc _) (fun _ _ hm => by simp at hm)
  have EACH := each_any _ _ bs T hsz hb2
  gi_wp2_with fail
  refine ⟨trivial, (callsIn_wide.2 EACH).mono ?_⟩
  rintro e w3 ⟨B, v', T', rfl, hB, hs3, k3, hB3, hT3⟩
  gi_wp2_with fail
  have hT3' : Hid (∀ k ∈ T', k < w3.heap.size) := fun k hk => (hT3.out k hk).2
  have hlen := allRecs_length bs
  have K0 : Kept [] w ((w.alloc (.cells #[.slice none 0 0] 36)).alloc (.cells #[.int .i64 0] 3)) := ((Kept.refl [] w).alloc _).alloc _
  have L0 : ((w.alloc (.cells #[.slice none 0 0] 36)).alloc (.cells #[.int .i64 0] 3)).heap[w.heap.size]? = some (.cells #[.slice none 0 0] 36 (0, 0)) := (((Kept.refl [] (w.alloc (.cells #[.slice none 0 0] 36))).alloc (.cells #[.int .i64 0] 3)).block _ (by simp) (by simp)).trans (heap_alloc_new w _)
  have E0 : ((w.alloc (.cells #[.slice none 0 0] 36)).alloc (.cells #[.int .i64 0] 3)).heap[w.heap.size + 1]? = some (.cells #[.int .i64 0] 3 (0, 0)) := by
    have := heap_alloc_new (w.alloc (.cells #[.slice none 0 0] 36)) (.cells #[.int .i64 0] 3)
    rwa [World.size_alloc] at this
  have hsz2 : ((w.alloc (.cells #[.slice none 0 0] 36)).alloc (.cells #[.int .i64 0] 3)).heap.size = w.heap.size + 2 := by simp
  have hsz3 : w.heap.size + 2 ≤ w3.heap.size := by have := k3.size; omega
  have L3 := (k3.block _ (block_lt L0) (by simp)).trans L0
  have E3 := (k3.block _ (block_lt E0) (by simp)).trans E0
  have K3 : Kept [] w w3 := K0.trans k3 (fun i hi => by simp at hi)
  clear L0 E0 K0 hsz2 EACH hb2 k3
  obtain ⟨D, hD⟩ : ∃ D, D = w3.heap.size := ⟨_, rfl⟩
  refine wpIn_rangeFunc_kept (n := 4) rfl (by omega) (gf := 95) (lb := #[.pointer (some ⟨B, 0, none⟩)]) rfl trivial (enters_of Try.func95 (by kernel_rfl) rfl)
    (each1_iter w3 B v' bs T' hsz hB hs3 hT3') (Kept.refl [] w3) (fun _ => rfl)
    (RecsI w w3.heap.size) (fun Rs s A B h hk => h.stays hk) ?start
    (fun m p a' W => ∃ Bx, w3.heap.size + 2 ≤ m ∧ m ≤ Bx ∧ W.heap[Bx]? = some (.cells p.2.cells 30 (0, 0)) ∧ a' = { tmps := #[.slice av bs.length cv, undef, .slice none 0 0, .int .i64 0, .pointer (some ⟨w.heap.size, 0, none⟩), .pointer (some ⟨w.heap.size + 1, 0, none⟩), .int .i64 p.1, .pointer (some ⟨Bx, 0, none⟩), .slice av bs.length cv, .func (.func 95) #[] #[.pointer (some ⟨B, 0, none⟩)], .int .i64 p.1, p.2.val, undef, undef, undef, undef, undef, undef, undef, undef, undef, undef, undef, undef, undef], defers := [] })
    ?ax ?assign ?body ?done
  case start =>
    intro Rs W' hRs hk
    refine ⟨⟨.slice none 0 0, (hk.block _ (block_lt L3) (by simp)).trans L3, World.ownsRow_nil _ _ _ _, fun g e => by cases e⟩, (hk.block _ (block_lt E3) (by simp)).trans E3, K3.trans hk (fun i hi => by simp at hi), hsz3, hRs⟩
  case ax =>
    rintro m p a' A C ⟨Bx, h0, h1, h2, h3⟩ hk
    exact ⟨Bx, h0, h1, (hk.block _ (block_lt h2) (by simp; omega)).trans h2, h3⟩
  case assign =>
    rintro l ⟨at', s⟩ W K hle hK
    obtain ⟨ty, dev, kind, vers, path, mode, atime, mtime, len, name, uid, gid, muid⟩ := s
    have hK2 := Lib.hid (hK _ _ ((Kept.refl [] W).alloc (.cells #[.int .u16 ty, .int .u32 dev, .int .u8 kind, .int .u32 vers, .int .u64 path, .int .u32 mode, .int .u32 atime, .int .u32 mtime, .int .u64 len, .string name, .string uid, .string gid, .string muid] 30 (0, 0))) ⟨W.heap.size, hle, Nat.le_refl _, heap_alloc_new W _, rfl⟩)
    simp only [Rec.val, Rec.cells]
    gi_wp2_with fail
    exact hK2.out
  case body =>
    rintro l Rs pre ⟨at', s⟩ a' Wb W hR hW2 hI hkb ⟨Bx, -, hBx, hX, rfl⟩ hpre
    have hmem : (at', s) ∈ allRecs bs := hpre.subset (by simp)
    have hpos := allRecs_pos hmem
    have hok := (allRecs_ok hmem).1
    have hll : pre.length + 1 ≤ (allRecs bs).length := by have := hpre.length_le; rwa [List.length_append] at this
    obtain ⟨i0, hi, hz0, hz1, hz2⟩ := info_parts info30
    obtain ⟨vl, hLb, hrowb, hownb⟩ := hI.box
    have hfar := hI.far
    have hsb := hkb.size
    have hL : W.heap[w.heap.size]? = some (.cells #[vl] 36 (0, 0)) := (hkb.block _ (block_lt hLb) (by simp; omega)).trans hLb
    have hE : W.heap[w.heap.size + 1]? = some (.cells #[.int .i64 (endOf pre : Nat)] 3 (0, 0)) := (hkb.block _ (block_lt hI.tail) (by simp; omega)).trans hI.tail
    have hrow := ownsRow_kept hrowb hkb (fun k e hm => by simp at hm; exact (hownb k e).2.2.1 hm)
    have hKW : Kept [] w W := hI.kept.trans hkb (fun i hi => Or.inr (by simp at hi; omega))
    have hrs : Hid (∀ i ∈ Rs, w3.heap.size + 2 ≤ i ∧ i < Wb.heap.size) := hI.rs
    have SIZE := fun w1 => size_any w1 s hok
    obtain ⟨sz, hszs⟩ : ∃ n : Nat, n = s.size := ⟨_, rfl⟩
    rw [← hszs] at SIZE
    have hpos' : at' + sz ≤ bs.length := by rw [hszs]; exact hpos
    have hbl : w.heap.size ≤ W.heap.size := by omega
    have hsh := Lib.hid hszs
    have hb1 : pre.length + 1 ≤ maxLen := by
      have hml : maxLen = 9223372036854775807 := rfl
      omega
    have hb2 : (pre.length + 1) * 112 ≤ 140737488355328 := by omega
    obtain ⟨ty, dev, kind, vers, path, mode, atime, mtime, len, name, uid, gid, muid⟩ := s
    simp only [Rec.val, Rec.cells] at hX SIZE ⊢
    have hXh := Lib.hid hX
    have SIZEh := Lib.hid SIZE
    have hLh := Lib.hid hL
    have hEh := Lib.hid hE
    have hrowh := Lib.hid hrow
    have hownh := Lib.hid hownb
    have hKh := Lib.hid hKW
    have hmemh := Lib.hid hmem
    have hRh := Lib.hid hR
    obtain ⟨c0, c1, c2, c3, c4, c5, c6, c7, c8, c9, c10, c11, c12, -⟩ := thirteen hX
    have cL : W.cell? ⟨w.heap.size, 0, none⟩ = some vl := by rw [cell_of_row W w.heap.size 0 _ 36 (0, 0) hL]; rfl
    clear hX SIZE hL hE hrow hownb hrowb hLb hKW hI hmem hpre hok hszs hpos hR hkb
    gi_wp2_with (gi_at_builtin; refine wpListIn_append_lies _ rfl _ _ 36 rfl w.heap.size 30 i0 _ 13 112 Try.underlying36 hi hz0 hz1 hz2 rfl (by decide) vl pre.length (rowOf pre) rfl (hrowh.out.alloc _) ⟨W.heap.size, 0, none⟩ 1 1 [.int .u16 ty, .int .u32 dev, .int .u8 kind, .int .u32 vers, .int .u64 path, .int .u32 mode, .int .u32 atime, .int .u32 mtime, .int .u64 len, .string name, .string uid, .string gid, .string muid] rfl rfl (World.news_of_block (heap_alloc_new W (.cells #[.int .u16 ty, .int .u32 dev, .int .u8 kind, .int .u32 vers, .int .u64 path, .int .u32 mode, .int .u32 atime, .int .u32 mtime, .int .u64 len, .string name, .string uid, .string gid, .string muid] 30 (0, 0)))) (by simp [Value.oneCell']) (by omega) hb1 hb2 (by simp; omega) ?_; intro g cap w1 hr1 hg1 hgb hgl; obtain ⟨⟨K2, L2, E2, X2, hr2, hgq⟩, cL1, fL1⟩ := body_step hLh.out hEh.out hXh.out hownh.out hKh.out.size hfar hW2 hsb hBx hr1 hg1 hgb hgl; obtain ⟨c0, c1, c2, c3, c4, c5, c6, c7, c8, c9, c10, c11, c12, -⟩ := thirteen X2.out)
    refine ⟨trivial, (CallsIn.inRound l (callsIn_wide.2 (SIZEh.out _))).mono ?_⟩
    rintro e w4 ⟨rfl, k4⟩
    have E4 := (k4.block _ (block_lt E2.out) (by simp)).trans E2.out
    have cE : w4.cell? ⟨w.heap.size + 1, 0, none⟩ = some (.int .i64 (endOf pre : Nat)) := by rw [cell_of_row w4 (w.heap.size + 1) 0 _ 3 (0, 0) E4]; rfl
    have fE : w4.frozen? ⟨w.heap.size + 1, 0, none⟩ = false := by simp [World.frozen?, E4]
    have E4h := Lib.hid E4
    clear E4
    gi_wp2_with fail
    exact body_end K2.out L2.out E4h.out hr2.out hgq.out k4 hownh.out hfar hW2 hsb hRh.out hrs.out hKh.out hrowh.out rfl (by rw [← hsh.out]; omega)
  case done =>
    rintro Rs W hI hK
    obtain ⟨vl, hL, hrow, hown⟩ := hI.box
    have hE := hI.tail
    have cL : W.cell? ⟨w.heap.size, 0, none⟩ = some vl := by rw [cell_of_row W w.heap.size 0 _ 36 (0, 0) hL]; rfl
    have cE : W.cell? ⟨w.heap.size + 1, 0, none⟩ = some (.int .i64 (endOf (allRecs bs) : Nat)) := by rw [cell_of_row W (w.heap.size + 1) 0 _ 3 (0, 0) hE]; rfl
    have hrowh := Lib.hid hrow
    have hownh := Lib.hid hown
    have hKh := Lib.hid hI.kept
    obtain ⟨n, hn⟩ : ∃ n : Nat, n = endOf (allRecs bs) := ⟨_, rfl⟩
    rw [← hn] at cE
    have hfar := hI.far
    have kD : Kept [w3.heap.size] W (W.putObj w3.heap.size (.deferred none)) := (Kept.refl _ W).putObj _ (Or.inl (by simp))
    by_cases hend : n = bs.length
    · have hout : Hid (RecsOut w bs (.returned (.tuple #[vl, .int .i64 0])) (W.putObj w3.heap.size (.deferred none))) := Or.inl ⟨by rw [← hn]; exact hend, vl, rfl, ownsRow_kept hrow kD (fun k e hm => by simp at hm; exact (hown k e).2.1 hm), hKh.out.trans kD (fun i hi => Or.inr (by simp at hi; omega))⟩
      rw [hend] at cE
      clear hE hI hL hrow hown
      gi_wp2_with fail
      refine ⟨by simp, .inl ⟨_, _, rfl, run_takeDeferred hK, ?_⟩⟩
      refine ⟨.tuple #[vl, .int .i64 0], ?_, hout.out⟩
      simp [results, Try.f11, go_sem]
    · have hout : Hid (RecsOut w bs (.returned (.tuple #[.slice none 0 0, .int .i64 20])) (W.putObj w3.heap.size (.deferred none))) := Or.inr ⟨by rw [← hn]; exact hend, rfl, hKh.out.trans kD (fun i hi => Or.inr (by simp at hi; omega))⟩
      have hne : ((n : Int) = (bs.length : Int)) = False := by simp; omega
      clear hE hI hL hrow hown
      gi_wp2_with fail
      refine ⟨by simp, .inl ⟨_, _, rfl, run_takeDeferred hK, ?_⟩⟩
      refine ⟨.tuple #[.slice none 0 0, .int .i64 20], ?_, hout.out⟩
      simp [results, Try.f11, go_sem]
end Stt
end Go.Proofs.Yteebiemfhicgbaa
