/- What the law's writes does, the other kinds. -/
import Derived.Test.YtfdbpbhihccgbaaGoe
import Derived.Test.YtfdbpbhihccgbaaChw
import Derived.StillTailTactics

section
namespace Go.Proofs.Ytfdbpbhihccgbaa
set_option linter.unusedVariables false
open Go.RowKit

/-- A step as it comes in: its bytes lie in the blocks of T. -/
structure StpOk (w : World) (o : Stp) (bs : List UInt8) (T : List Nat) : Prop where
  n : o.n ≤ 18446744073709551615
  k1 : -9223372036854775808 ≤ o.k
  k2 : o.k ≤ 9223372036854775807
  s : o.s.size ≤ 140737488355328
  b : Src w o.b bs T
  bl : bs.length ≤ 1152921504
  t : ∀ i ∈ T, i < w.heap.size
def WritesOut (w : World) (p q : Nat) (S R : List Nat) (st sv : WS) (k : Nat) (B : List Nat) (n : Nat) (e : Ending) (w' : World) : Prop :=
  ∃ (x : Bool) (st' sv' : WS) (n' : Nat), e = .returned (.bool x) ∧ Hid (PlayOut w p q S R k B st' sv' n' w') ∧ Hid (Goes st st') ∧ Hid (Goes sv sv') ∧ n' ≤ n + 2 ∧ Hid (st = sv → x = true ∧ st' = sv')
theorem WritesOut.mk {w w' : World} {p q : Nat} {S R : List Nat} {st st' sv sv' : WS} {k : Nat} {B : List Nat} {n n' : Nat} {v : Value} {x : Bool} (hv : v = .bool x) (h : PlayOut w p q S R k B st' sv' n' w') (hg : Goes st st') (hgv : Goes sv sv') (hn : n' ≤ n + 2) (he : st = sv → x = true ∧ st' = sv') : WritesOut w p q S R st sv k B n (.returned v) w' := ⟨x, st', sv', n', by rw [hv], h, hg, hgv, hn, he⟩

/-- The step's own copy, and the writers with it. -/
def Stp.cells (o : Stp) : Array Value := #[.int .i64 o.who, .int .i64 o.kind, .int .u64 o.n, .int .i64 o.k, o.b, .string o.s]

theorem WS.numbered_other {st : WS} {k : Int} {n : Nat} (h : ¬ (k = 1 ∨ k = 2 ∨ k = 3 ∨ k = 4)) : st.numbered k n = st := by
  unfold WS.numbered
  rw [if_neg (fun e => h (by simp [e])), if_neg (fun e => h (by simp [e])), if_neg (fun e => h (by simp [e])), if_neg (fun e => h (by simp [e]))]

/-- Behind numbers: the writers and the book, the step's own copy, its bytes. -/
structure After (w : World) (p q : Nat) (S R : List Nat) (k : Nat) (B : List Nat) (n : Nat) (o : Stp) (bs : List UInt8) (T S1 R1 B1 : List Nat) (st sv : WS) (w1 : World) : Prop where
  play : Play w1 p q S1 R1 st sv k B1 n
  kept : Kept ((S ++ R) ++ B) w w1
  sub : ∀ i ∈ (S1 ++ R1) ++ B1, i ∈ (S ++ R) ++ B ∨ w.heap.size ≤ i
  no : ∀ i ∈ (S1 ++ R1) ++ B1, i ≠ w.heap.size
  cells : w1.heap[w.heap.size]? = some (.cells o.cells 43 (0, 0))
  b : Src w1 o.b bs T
  t : ∀ i ∈ T, i ∉ (S1 ++ R1) ++ B1
  tl : ∀ i ∈ T, i < w.heap.size

theorem After.start {w w1 : World} {p q : Nat} {S R : List Nat} {st st' sv sv' : WS} {k : Nat} {B : List Nat} {n : Nat} {o : Stp} {bs : List UInt8} {T : List Nat} (h : Play w p q S R st sv k B n) (so : StpOk w o bs T) (hT : ∀ i ∈ T, i ∉ (S ++ R) ++ B)
    (ho : TwoOut (w.alloc (.cells o.cells 43 (0, 0))) p q S R st' sv' w1) : ∃ S1 R1 B1, Hid (After w p q S R k B n o bs T S1 R1 B1 st' sv' w1) := by
  have hk0 : Kept [] w (w.alloc (.cells o.cells 43 (0, 0))) := (Kept.refl _ _).alloc _
  have h0 := h.kept hk0 (fun i _ hm => by simp at hm)
  obtain ⟨S1, R1, B1, h1, h2, h3⟩ := h0.of_two ho
  have hsz : (w.alloc (.cells o.cells 43 (0, 0))).heap.size = w.heap.size + 1 := by simp
  have hl := h.lt
  have hk := hk0.mono (T := (S ++ R) ++ B) (fun i hi => by simp at hi)
  have hkk : Kept ((S ++ R) ++ B) w w1 := hk.trans h2.out (fun i hi => Or.inl hi)
  refine ⟨S1, R1, B1, h1.out, hkk, fun i hi => ?_, fun i hi e => ?_, ?_, so.b.kept hkk hT, fun i hi hm => ?_, so.t⟩
  · rcases h3.out i hi with x | x
    · exact Or.inl x
    · right; omega
  · rcases h3.out i hi with x | x
    · have := hl i x; omega
    · omega
  · rw [h2.out.block w.heap.size (by omega) (fun m => by have := hl _ m; omega)]
    exact heap_alloc_new w _
  · rcases h3.out i hm with x | x
    · exact hT i hi x
    · have := so.t i hi; omega
theorem After.cell {w w1 : World} {p q : Nat} {S R : List Nat} {st sv : WS} {k : Nat} {B : List Nat} {n : Nat} {o : Stp} {bs : List UInt8} {T S1 R1 B1 : List Nat} (h : After w p q S R k B n o bs T S1 R1 B1 st sv w1) (i : Nat) : w1.cell? ⟨w.heap.size, i, none⟩ = o.cells[i]? := cell_of_row w1 w.heap.size i _ 43 (0, 0) h.cells
theorem After.out {w w1 w2 : World} {p q : Nat} {S R : List Nat} {st st' sv sv' : WS} {k : Nat} {B : List Nat} {n n' : Nat} {o : Stp} {bs : List UInt8} {T S1 R1 B1 : List Nat} (h : After w p q S R k B n o bs T S1 R1 B1 st sv w1) (ho : PlayOut w1 p q S1 R1 k B1 st' sv' n' w2) : PlayOut w p q S R k B st' sv' n' w2 := PlayOut.trans h.kept h.sub ho

theorem After.next {w w1 w2 : World} {p q : Nat} {S R : List Nat} {st st' sv sv' : WS} {k : Nat} {B : List Nat} {n : Nat} {o : Stp} {bs : List UInt8} {T S1 R1 B1 : List Nat} (h : After w p q S R k B n o bs T S1 R1 B1 st sv w1) (ho : TwoOut w1 p q S1 R1 st' sv' w2) :
    ∃ S2 R2 B2, Hid (After w p q S R k B n o bs T S2 R2 B2 st' sv' w2) := by
  obtain ⟨S2, R2, B2, h1, h2, h3⟩ := h.play.of_two ho
  have hb := block_lt h.cells
  have hz := h.kept.size
  refine ⟨S2, R2, B2, h1.out, h.kept.trans h2.out h.sub, fun i hi => ?_, fun i hi e => ?_, ?_, h.b.kept h2.out h.t, fun i hi hm => ?_, h.tl⟩
  · rcases h3.out i hi with x | x
    · exact h.sub i x
    · right; omega
  · rcases h3.out i hi with x | x
    · exact h.no i x e
    · omega
  · rw [h2.out.block w.heap.size hb (fun m => h.no _ m rfl)]
    exact h.cells
  · rcases h3.out i hm with x | x
    · exact h.t i hi x
    · have := h.tl i hi; omega

namespace Two
open Go.Proofs.Ytfdbpbhihccgbaa.Txt

set_option maxHeartbeats 1000000 in
theorem writes_5 (w : World) (p q : Nat) (S R : List Nat) (st sv : WS) (k : Nat) (B : List Nat) (n : Nat) (o : Stp) (bs : List UInt8) (T : List Nat) (hkind : o.kind = 5) (hnn : n ≤ 150000000) (so : Hid (StpOk w o bs T)) (hT : Hid (∀ i ∈ T, i ∉ (S ++ R) ++ B)) (ok : Hid st.Ok) (fit : Hid st.Fit) (okv : Hid sv.Ok) (fitv : Hid sv.Fit) (h : Hid (Play w p q S R st sv k B n)) :
    Calls Try.prog 10 #[.pointer (some ⟨p, 0, none⟩), .pointer (some ⟨q, 0, none⟩), o.val, .pointer (some ⟨k, 0, none⟩)] w (WritesOut w p q S R st sv k B n) := by
  have h0 : Hid (Two (w.alloc (.cells o.cells 43 (0, 0))) p q S R st sv) := h.out.two.kept ((Kept.refl [] _).alloc _) (fun i _ hm => by simp at hm)
  have NUM := Lib.hid (numbers_any (w.alloc (.cells o.cells 43 (0, 0))) p q S R st sv o so.out.n ok okv h0)
  have hnum : Hid (st.numbered o.kind o.n = st) := WS.numbered_other (by rw [hkind]; decide)
  have hnumv : Hid (sv.numbered o.kind o.n = sv) := WS.numbered_other (by rw [hkind]; decide)
  obtain ⟨who, kind, nn, kk, b, s⟩ := o
  simp only [] at hkind
  subst hkind
  unfold Stp.val
  simp only []
  go_enter Try.func10, Try.ntmps10
  go_wp2_with fail
  refine NUM.out.mono ?_
  rintro e w1 ⟨rfl, ho⟩
  rw [hnum.out, hnumv.out] at ho
  obtain ⟨S1, R1, B1, A⟩ := After.start h.out so.out hT.out ho
  have c1 : w1.cell? ⟨w.heap.size, 1, none⟩ = some (.int .i64 5) := A.out.cell 1
  have c4 : w1.cell? ⟨w.heap.size, 4, none⟩ = some b := A.out.cell 4
  have h1 : Hid (Two w1 p q S1 R1 st sv) := A.out.play.two
  have ha : Hid (Wr 77 w1 p S1 st) := h1.out.a
  clear ho
  go_wp2_with fail
  have hb1 : Hid (Src w1 b bs T) := A.out.b
  have hd1 : Hid (∀ i ∈ T, i ∉ S1 ++ R1) := fun i hi hm => A.out.t i hi (List.mem_append_left _ hm)
  refine (raw_any _ p q S1 R1 T st sv b bs so.out.bl hb1 hd1 ok okv h1).mono ?_
  rintro e w2 ⟨rfl, ho⟩
  have O := Lib.hid (A.out.out (A.out.play.of_two ho))
  clear ho
  go_wp2_with fail
  go_ret
  exact WritesOut.mk rfl O.out (Goes.raw ok.out fit.out _) (Goes.raw okv.out fitv.out _) (by omega) (fun e => ⟨rfl, by rw [e]⟩)

set_option maxHeartbeats 1000000 in
theorem writes_6 (w : World) (p q : Nat) (S R : List Nat) (st sv : WS) (k : Nat) (B : List Nat) (n : Nat) (o : Stp) (bs : List UInt8) (T : List Nat) (hkind : o.kind = 6) (hnn : n ≤ 150000000) (so : Hid (StpOk w o bs T)) (hT : Hid (∀ i ∈ T, i ∉ (S ++ R) ++ B)) (ok : Hid st.Ok) (fit : Hid st.Fit) (okv : Hid sv.Ok) (fitv : Hid sv.Fit) (h : Hid (Play w p q S R st sv k B n)) :
    Calls Try.prog 10 #[.pointer (some ⟨p, 0, none⟩), .pointer (some ⟨q, 0, none⟩), o.val, .pointer (some ⟨k, 0, none⟩)] w (WritesOut w p q S R st sv k B n) := by
  have h0 : Hid (Two (w.alloc (.cells o.cells 43 (0, 0))) p q S R st sv) := h.out.two.kept ((Kept.refl [] _).alloc _) (fun i _ hm => by simp at hm)
  have NUM := Lib.hid (numbers_any (w.alloc (.cells o.cells 43 (0, 0))) p q S R st sv o so.out.n ok okv h0)
  have hnum : Hid (st.numbered o.kind o.n = st) := WS.numbered_other (by rw [hkind]; decide)
  have hnumv : Hid (sv.numbered o.kind o.n = sv) := WS.numbered_other (by rw [hkind]; decide)
  obtain ⟨who, kind, nn, kk, b, s⟩ := o
  simp only [] at hkind
  subst hkind
  unfold Stp.val
  simp only []
  go_enter Try.func10, Try.ntmps10
  go_wp2_with fail
  refine NUM.out.mono ?_
  rintro e w1 ⟨rfl, ho⟩
  rw [hnum.out, hnumv.out] at ho
  obtain ⟨S1, R1, B1, A⟩ := After.start h.out so.out hT.out ho
  have c1 : w1.cell? ⟨w.heap.size, 1, none⟩ = some (.int .i64 6) := A.out.cell 1
  have c5 : w1.cell? ⟨w.heap.size, 5, none⟩ = some (.string s) := A.out.cell 5
  have h1 : Hid (Two w1 p q S1 R1 st sv) := A.out.play.two
  have ha : Hid (Wr 77 w1 p S1 st) := h1.out.a
  clear ho
  go_wp2_with fail
  refine (Wrt.text_any _ p S1 st s so.out.s ok ha).mono ?_
  rintro e w2 ⟨rfl, ho⟩
  obtain ⟨S2, H⟩ := h1.out.half ho
  have hb : Hid (Wr 79 w2 q R1 sv) := H.out.b
  have d5 : w2.cell? ⟨w.heap.size, 5, none⟩ = some (.string s) := by
    rw [← c5]; exact World.cell?_of_block (H.out.kept.block _ (World.block_lt_of_cell? w1 _ c5) (fun m => A.out.no _ (List.mem_append_left _ (List.mem_append_left _ m)) rfl))
  clear ho
  go_wp2_with fail
  refine (Vrt.text_any _ q R1 sv s okv hb).mono ?_
  rintro e w3 ⟨rfl, ho⟩
  have O := Lib.hid (A.out.out (A.out.play.of_two (H.out.whole ho)))
  clear ho
  go_wp2_with fail
  go_ret
  exact WritesOut.mk rfl O.out (Goes.text ok.out fit.out _) (Goes.text okv.out fitv.out _) (by omega) (fun e => ⟨rfl, by rw [e]⟩)

set_option maxHeartbeats 1000000 in
theorem writes_7 (w : World) (p q : Nat) (S R : List Nat) (st sv : WS) (k : Nat) (B : List Nat) (n : Nat) (o : Stp) (bs : List UInt8) (T : List Nat) (hkind : o.kind = 7) (hnn : n ≤ 150000000) (so : Hid (StpOk w o bs T)) (hT : Hid (∀ i ∈ T, i ∉ (S ++ R) ++ B)) (ok : Hid st.Ok) (fit : Hid st.Fit) (okv : Hid sv.Ok) (fitv : Hid sv.Fit) (h : Hid (Play w p q S R st sv k B n)) :
    Calls Try.prog 10 #[.pointer (some ⟨p, 0, none⟩), .pointer (some ⟨q, 0, none⟩), o.val, .pointer (some ⟨k, 0, none⟩)] w (WritesOut w p q S R st sv k B n) := by
  have h0 : Hid (Two (w.alloc (.cells o.cells 43 (0, 0))) p q S R st sv) := h.out.two.kept ((Kept.refl [] _).alloc _) (fun i _ hm => by simp at hm)
  have NUM := Lib.hid (numbers_any (w.alloc (.cells o.cells 43 (0, 0))) p q S R st sv o so.out.n ok okv h0)
  have hnum : Hid (st.numbered o.kind o.n = st) := WS.numbered_other (by rw [hkind]; decide)
  have hnumv : Hid (sv.numbered o.kind o.n = sv) := WS.numbered_other (by rw [hkind]; decide)
  obtain ⟨who, kind, nn, kk, b, s⟩ := o
  simp only [] at hkind
  subst hkind
  unfold Stp.val
  simp only []
  go_enter Try.func10, Try.ntmps10
  go_wp2_with fail
  refine NUM.out.mono ?_
  rintro e w1 ⟨rfl, ho⟩
  rw [hnum.out, hnumv.out] at ho
  obtain ⟨S1, R1, B1, A⟩ := After.start h.out so.out hT.out ho
  have c1 : w1.cell? ⟨w.heap.size, 1, none⟩ = some (.int .i64 7) := A.out.cell 1
  have h1 : Hid (Two w1 p q S1 R1 st sv) := A.out.play.two
  have ha : Hid (Wr 77 w1 p S1 st) := h1.out.a
  clear ho
  go_wp2_with fail
  refine (opens_any _ p q S1 R1 st sv ok okv h1).mono ?_
  rintro e w2 ⟨rfl, ho⟩
  have O := Lib.hid (A.out.out (A.out.play.of_two ho))
  clear ho
  go_wp2_with fail
  go_ret
  exact WritesOut.mk rfl O.out (Goes.opened ok.out fit.out) (Goes.opened okv.out fitv.out) (by omega) (fun e => ⟨by simp [e], by rw [e]⟩)

set_option maxHeartbeats 1000000 in
theorem writes_8 (w : World) (p q : Nat) (S R : List Nat) (st sv : WS) (k : Nat) (B : List Nat) (n : Nat) (o : Stp) (bs : List UInt8) (T : List Nat) (hkind : o.kind = 8) (hnn : n ≤ 150000000) (so : Hid (StpOk w o bs T)) (hT : Hid (∀ i ∈ T, i ∉ (S ++ R) ++ B)) (ok : Hid st.Ok) (fit : Hid st.Fit) (okv : Hid sv.Ok) (fitv : Hid sv.Fit) (h : Hid (Play w p q S R st sv k B n)) :
    Calls Try.prog 10 #[.pointer (some ⟨p, 0, none⟩), .pointer (some ⟨q, 0, none⟩), o.val, .pointer (some ⟨k, 0, none⟩)] w (WritesOut w p q S R st sv k B n) := by
  have h0 : Hid (Two (w.alloc (.cells o.cells 43 (0, 0))) p q S R st sv) := h.out.two.kept ((Kept.refl [] _).alloc _) (fun i _ hm => by simp at hm)
  have NUM := Lib.hid (numbers_any (w.alloc (.cells o.cells 43 (0, 0))) p q S R st sv o so.out.n ok okv h0)
  have hnum : Hid (st.numbered o.kind o.n = st) := WS.numbered_other (by rw [hkind]; decide)
  have hnumv : Hid (sv.numbered o.kind o.n = sv) := WS.numbered_other (by rw [hkind]; decide)
  obtain ⟨who, kind, nn, kk, b, s⟩ := o
  simp only [] at hkind
  subst hkind
  unfold Stp.val
  simp only []
  go_enter Try.func10, Try.ntmps10
  go_wp2_with fail
  refine NUM.out.mono ?_
  rintro e w1 ⟨rfl, ho⟩
  rw [hnum.out, hnumv.out] at ho
  obtain ⟨S1, R1, B1, A⟩ := After.start h.out so.out hT.out ho
  have c1 : w1.cell? ⟨w.heap.size, 1, none⟩ = some (.int .i64 8) := A.out.cell 1
  have c3 : w1.cell? ⟨w.heap.size, 3, none⟩ = some (.int .i64 kk) := A.out.cell 3
  have h1 : Hid (Two w1 p q S1 R1 st sv) := A.out.play.two
  have ha : Hid (Wr 77 w1 p S1 st) := h1.out.a
  clear ho
  go_wp2_with fail
  refine (Wrt.shut_any _ p S1 st kk ok fit ha).mono ?_
  rintro e w2 ⟨rfl, ho⟩
  obtain ⟨S2, H⟩ := h1.out.half ho
  have hb : Hid (Wr 79 w2 q R1 sv) := H.out.b
  have d3 : w2.cell? ⟨w.heap.size, 3, none⟩ = some (.int .i64 kk) := by
    rw [← c3]; exact World.cell?_of_block (H.out.kept.block _ (World.block_lt_of_cell? w1 _ c3) (fun m => A.out.no _ (List.mem_append_left _ (List.mem_append_left _ m)) rfl))
  clear ho
  go_wp2_with fail
  refine (Vrt.shut_any _ q R1 sv kk okv fitv hb).mono ?_
  rintro e w3 ⟨rfl, ho⟩
  have O := Lib.hid (A.out.out (A.out.play.of_two (H.out.whole ho)))
  clear ho
  go_wp2_with fail
  go_ret
  exact WritesOut.mk rfl O.out (Goes.shut ok.out fit.out _) (Goes.shut okv.out fitv.out _) (by omega) (fun e => ⟨rfl, by rw [e]⟩)

set_option maxHeartbeats 1000000 in
theorem writes_10 (w : World) (p q : Nat) (S R : List Nat) (st sv : WS) (k : Nat) (B : List Nat) (n : Nat) (o : Stp) (bs : List UInt8) (T : List Nat) (hkind : o.kind = 10) (hnn : n ≤ 150000000) (so : Hid (StpOk w o bs T)) (hT : Hid (∀ i ∈ T, i ∉ (S ++ R) ++ B)) (ok : Hid st.Ok) (fit : Hid st.Fit) (okv : Hid sv.Ok) (fitv : Hid sv.Fit) (h : Hid (Play w p q S R st sv k B n)) :
    Calls Try.prog 10 #[.pointer (some ⟨p, 0, none⟩), .pointer (some ⟨q, 0, none⟩), o.val, .pointer (some ⟨k, 0, none⟩)] w (WritesOut w p q S R st sv k B n) := by
  have h0 : Hid (Two (w.alloc (.cells o.cells 43 (0, 0))) p q S R st sv) := h.out.two.kept ((Kept.refl [] _).alloc _) (fun i _ hm => by simp at hm)
  have NUM := Lib.hid (numbers_any (w.alloc (.cells o.cells 43 (0, 0))) p q S R st sv o so.out.n ok okv h0)
  have hnum : Hid (st.numbered o.kind o.n = st) := WS.numbered_other (by rw [hkind]; decide)
  have hnumv : Hid (sv.numbered o.kind o.n = sv) := WS.numbered_other (by rw [hkind]; decide)
  obtain ⟨who, kind, nn, kk, b, s⟩ := o
  simp only [] at hkind
  subst hkind
  unfold Stp.val
  simp only []
  go_enter Try.func10, Try.ntmps10
  go_wp2_with fail
  refine NUM.out.mono ?_
  rintro e w1 ⟨rfl, ho⟩
  rw [hnum.out, hnumv.out] at ho
  obtain ⟨S1, R1, B1, A⟩ := After.start h.out so.out hT.out ho
  have c1 : w1.cell? ⟨w.heap.size, 1, none⟩ = some (.int .i64 10) := A.out.cell 1
  have h1 : Hid (Two w1 p q S1 R1 st sv) := A.out.play.two
  have ha : Hid (Wr 77 w1 p S1 st) := h1.out.a
  clear ho
  go_wp2_with fail
  refine (Wrt.len_any _ p S1 st ha).mono ?_
  rintro e w2 ⟨rfl, rfl⟩
  have hb : Hid (Wr 79 w1 q R1 sv) := h1.out.b
  go_wp2_with fail
  refine (Vrt.len_any _ q R1 sv hb).mono ?_
  rintro e w3 ⟨rfl, rfl⟩
  have O := Lib.hid (A.out.out (A.out.play.same (Kept.refl [] _)))
  go_wp2_with fail
  go_ret
  exact WritesOut.mk rfl O.out (Goes.refl ok.out fit.out) (Goes.refl okv.out fitv.out) (by omega) (fun e => ⟨by simp [e], e⟩)

set_option maxHeartbeats 1000000 in
theorem writes_11 (w : World) (p q : Nat) (S R : List Nat) (st sv : WS) (k : Nat) (B : List Nat) (n : Nat) (o : Stp) (bs : List UInt8) (T : List Nat) (hkind : o.kind = 11) (hnn : n ≤ 150000000) (so : Hid (StpOk w o bs T)) (hT : Hid (∀ i ∈ T, i ∉ (S ++ R) ++ B)) (ok : Hid st.Ok) (fit : Hid st.Fit) (okv : Hid sv.Ok) (fitv : Hid sv.Fit) (h : Hid (Play w p q S R st sv k B n)) :
    Calls Try.prog 10 #[.pointer (some ⟨p, 0, none⟩), .pointer (some ⟨q, 0, none⟩), o.val, .pointer (some ⟨k, 0, none⟩)] w (WritesOut w p q S R st sv k B n) := by
  have h0 : Hid (Two (w.alloc (.cells o.cells 43 (0, 0))) p q S R st sv) := h.out.two.kept ((Kept.refl [] _).alloc _) (fun i _ hm => by simp at hm)
  have NUM := Lib.hid (numbers_any (w.alloc (.cells o.cells 43 (0, 0))) p q S R st sv o so.out.n ok okv h0)
  have hnum : Hid (st.numbered o.kind o.n = st) := WS.numbered_other (by rw [hkind]; decide)
  have hnumv : Hid (sv.numbered o.kind o.n = sv) := WS.numbered_other (by rw [hkind]; decide)
  obtain ⟨who, kind, nn, kk, b, s⟩ := o
  simp only [] at hkind
  subst hkind
  unfold Stp.val
  simp only []
  go_enter Try.func10, Try.ntmps10
  go_wp2_with fail
  refine NUM.out.mono ?_
  rintro e w1 ⟨rfl, ho⟩
  rw [hnum.out, hnumv.out] at ho
  obtain ⟨S1, R1, B1, A⟩ := After.start h.out so.out hT.out ho
  have c1 : w1.cell? ⟨w.heap.size, 1, none⟩ = some (.int .i64 11) := A.out.cell 1
  have h1 : Hid (Two w1 p q S1 R1 st sv) := A.out.play.two
  have ha : Hid (Wr 77 w1 p S1 st) := h1.out.a
  clear ho
  go_wp2_with fail
  have hp1 : Hid (Play w1 p q S1 R1 st sv k B1 n) := A.out.play
  refine (done_any _ p q S1 R1 st sv k B1 n (by omega) ok okv hp1).mono ?_
  rintro e w2 ⟨x, rfl, hx, ho⟩
  have O := Lib.hid (A.out.out ho)
  clear ho
  go_wp2_with fail
  go_ret
  exact WritesOut.mk rfl O.out (Goes.refl ok.out fit.out) (Goes.refl okv.out fitv.out) (by omega) (fun e => ⟨hx e, e⟩)

end Two
end Go.Proofs.Ytfdbpbhihccgbaa
end

namespace Go.Proofs.Ytfdbpbhihccgbaa
set_option linter.unusedVariables false
open Go.RowKit
theorem Play.fresh {w w2 : World} {p q : Nat} {S R : List Nat} {st sv : WS} {k : Nat} {B : List Nat} {n : Nat} {l : List UInt8} {e : Ending} (h : Play w p q S R st sv k B n) (hf : Wrt.Fresh w l e w2) :
    ∃ v, e = .returned v ∧ ∃ T, Hid (Seg w2 v l T) ∧ Hid (∀ i ∈ T, i ∉ S ++ R) ∧ Hid (Play w2 p q S R st sv k B n) ∧ Hid (Kept ((S ++ R) ++ B) w w2) := by
  obtain ⟨v, rfl, hown, k2⟩ := hf
  have hl := h.lt
  exact ⟨v, rfl, v.ownBlock.toList, Seg.of_own hown.out, fun i hi hm => by
    have h1 := (hown.out.lt i (by simpa using hi)).1
    have h2 := hl i (List.mem_append_left _ hm)
    omega, h.kept k2 (fun i _ hm => by simp at hm), k2.mono (fun i hi => by simp at hi)⟩
namespace Two
open Go.Proofs.Ytfdbpbhihccgbaa.Txt

set_option maxHeartbeats 1000000 in
theorem writes_13 (w : World) (p q : Nat) (S R : List Nat) (st sv : WS) (k : Nat) (B : List Nat) (n : Nat) (o : Stp) (bs : List UInt8) (T : List Nat) (hkind : o.kind = 13) (hnn : n ≤ 150000000) (so : Hid (StpOk w o bs T)) (hT : Hid (∀ i ∈ T, i ∉ (S ++ R) ++ B)) (ok : Hid st.Ok) (fit : Hid st.Fit) (okv : Hid sv.Ok) (fitv : Hid sv.Fit) (h : Hid (Play w p q S R st sv k B n)) :
    Calls Try.prog 10 #[.pointer (some ⟨p, 0, none⟩), .pointer (some ⟨q, 0, none⟩), o.val, .pointer (some ⟨k, 0, none⟩)] w (WritesOut w p q S R st sv k B n) := by
  have h0 : Hid (Two (w.alloc (.cells o.cells 43 (0, 0))) p q S R st sv) := h.out.two.kept ((Kept.refl [] _).alloc _) (fun i _ hm => by simp at hm)
  have NUM := Lib.hid (numbers_any (w.alloc (.cells o.cells 43 (0, 0))) p q S R st sv o so.out.n ok okv h0)
  have hnum : Hid (st.numbered o.kind o.n = st) := WS.numbered_other (by rw [hkind]; decide)
  have hnumv : Hid (sv.numbered o.kind o.n = sv) := WS.numbered_other (by rw [hkind]; decide)
  obtain ⟨who, kind, nn, kk, b, s⟩ := o
  simp only [] at hkind
  subst hkind
  unfold Stp.val
  simp only []
  go_enter Try.func10, Try.ntmps10
  go_wp2_with fail
  refine NUM.out.mono ?_
  rintro e w1 ⟨rfl, ho⟩
  rw [hnum.out, hnumv.out] at ho
  obtain ⟨S1, R1, B1, A⟩ := After.start h.out so.out hT.out ho
  have c1 : w1.cell? ⟨w.heap.size, 1, none⟩ = some (.int .i64 13) := A.out.cell 1
  have c3 : w1.cell? ⟨w.heap.size, 3, none⟩ = some (.int .i64 kk) := A.out.cell 3
  have h1 : Hid (Two w1 p q S1 R1 st sv) := A.out.play.two
  have ha : Hid (Wr 77 w1 p S1 st) := h1.out.a
  clear ho
  go_wp2_with fail
  refine (Mad.pick_any kk _ 70000 _ rfl (by decide) (by decide) so.out.k1 so.out.k2).mono ?_
  rintro e w2 ⟨rfl, rfl⟩
  have hpk := Mad.pk_lt kk 70000 (by decide)
  obtain ⟨j, hj⟩ : ∃ j, j = Mad.pk kk 70000 := ⟨_, rfl⟩
  rw [← hj] at hpk ⊢
  clear hj
  go_wp2_with fail
  refine (Lst.fill_any _ _ _ j 120 rfl rfl (by omega)).mono ?_
  rintro e w2 ⟨v, rfl, hown, k2⟩
  obtain ⟨l, hl⟩ : ∃ l, l = List.replicate j (120 : UInt8) := ⟨_, rfl⟩
  have hll : l.length ≤ 70000 := by rw [hl, List.length_replicate]; omega
  rw [← hl] at hown
  have hss := Rdr.str_size l
  have hcv : (convert 37 9 v).run Try.prog w2 = .ok (.string (str l)) w2 := Rdr.conv_seg (Seg.of_own hown.out)
  obtain ⟨x, hx⟩ : ∃ x, x = str l := ⟨_, rfl⟩
  rw [← hx] at hcv hss
  have hxs : x.size ≤ 140737488355328 := by omega
  have P2 : Hid (Play w2 p q S1 R1 st sv k B1 n) := A.out.play.kept k2 (fun i _ hm => by simp at hm)
  have K2 : Hid (Kept ((S1 ++ R1) ++ B1) w1 w2) := k2.mono (fun i hi => by simp at hi)
  have h2 : Hid (Two w2 p q S1 R1 st sv) := P2.out.two
  have ha2 : Hid (Wr 77 w2 p S1 st) := h2.out.a
  clear hl hll hss hx hown k2
  go_wp2_with fail
  refine (Wrt.text_any _ p S1 st x hxs ok ha2).mono ?_
  rintro e w3 ⟨rfl, ho⟩
  obtain ⟨S2, H⟩ := h2.out.half ho
  have hb : Hid (Wr 79 w3 q R1 sv) := H.out.b
  clear ho
  go_wp2_with fail
  refine (Vrt.text_any _ q R1 sv x okv hb).mono ?_
  rintro e w4 ⟨rfl, ho⟩
  have O := Lib.hid (A.out.out (PlayOut.trans K2.out (fun i hi => Or.inl hi) (P2.out.of_two (H.out.whole ho))))
  clear ho
  go_wp2_with fail
  go_ret
  exact WritesOut.mk rfl O.out (Goes.text ok.out fit.out _) (Goes.text okv.out fitv.out _) (by omega) (fun e => ⟨rfl, by rw [e]⟩)

set_option maxHeartbeats 1000000 in
theorem writes_rest (w : World) (p q : Nat) (S R : List Nat) (st sv : WS) (k : Nat) (B : List Nat) (n : Nat) (o : Stp) (bs : List UInt8) (T : List Nat) (hne : ∀ j : Nat, 5 ≤ j → j ≤ 14 → o.kind ≠ j) (hnn : n ≤ 150000000) (so : Hid (StpOk w o bs T)) (hT : Hid (∀ i ∈ T, i ∉ (S ++ R) ++ B)) (ok : Hid st.Ok) (fit : Hid st.Fit) (okv : Hid sv.Ok) (fitv : Hid sv.Fit) (h : Hid (Play w p q S R st sv k B n)) :
    Calls Try.prog 10 #[.pointer (some ⟨p, 0, none⟩), .pointer (some ⟨q, 0, none⟩), o.val, .pointer (some ⟨k, 0, none⟩)] w (WritesOut w p q S R st sv k B n) := by
  have h0 : Hid (Two (w.alloc (.cells o.cells 43 (0, 0))) p q S R st sv) := h.out.two.kept ((Kept.refl [] _).alloc _) (fun i _ hm => by simp at hm)
  have NUM := Lib.hid (numbers_any (w.alloc (.cells o.cells 43 (0, 0))) p q S R st sv o so.out.n ok okv h0)
  obtain ⟨who, kind, nn, kk, b, s⟩ := o
  simp only [] at hne
  have n5 : (kind == 5) = false := beq_eq_false_iff_ne.2 (hne 5 (by decide) (by decide))
  have n6 : (kind == 6) = false := beq_eq_false_iff_ne.2 (hne 6 (by decide) (by decide))
  have n7 : (kind == 7) = false := beq_eq_false_iff_ne.2 (hne 7 (by decide) (by decide))
  have n8 : (kind == 8) = false := beq_eq_false_iff_ne.2 (hne 8 (by decide) (by decide))
  have n9 : (kind == 9) = false := beq_eq_false_iff_ne.2 (hne 9 (by decide) (by decide))
  have n10 : (kind == 10) = false := beq_eq_false_iff_ne.2 (hne 10 (by decide) (by decide))
  have n11 : (kind == 11) = false := beq_eq_false_iff_ne.2 (hne 11 (by decide) (by decide))
  have n12 : (kind == 12) = false := beq_eq_false_iff_ne.2 (hne 12 (by decide) (by decide))
  have n13 : (kind == 13) = false := beq_eq_false_iff_ne.2 (hne 13 (by decide) (by decide))
  have n14 : (kind == 14) = false := beq_eq_false_iff_ne.2 (hne 14 (by decide) (by decide))
  clear hne
  unfold Stp.val
  simp only []
  go_enter Try.func10, Try.ntmps10
  go_wp2_with fail
  refine NUM.out.mono ?_
  rintro e w1 ⟨rfl, ho⟩
  obtain ⟨S1, R1, B1, A⟩ := After.start h.out so.out hT.out ho
  have c1 : w1.cell? ⟨w.heap.size, 1, none⟩ = some (.int .i64 kind) := A.out.cell 1
  have O := Lib.hid (A.out.out (A.out.play.same (Kept.refl [] _)))
  clear ho
  go_wp2_with fail
  go_ret
  exact WritesOut.mk rfl O.out (Goes.numbered ok.out fit.out _ _) (Goes.numbered okv.out fitv.out _ _) (by omega) (fun e => ⟨rfl, by rw [e]⟩)

set_option maxHeartbeats 1000000 in
theorem writes_14 (w : World) (p q : Nat) (S R : List Nat) (st sv : WS) (k : Nat) (B : List Nat) (n : Nat) (o : Stp) (bs : List UInt8) (T : List Nat) (hkind : o.kind = 14) (hnn : n ≤ 150000000) (so : Hid (StpOk w o bs T)) (hT : Hid (∀ i ∈ T, i ∉ (S ++ R) ++ B)) (ok : Hid st.Ok) (fit : Hid st.Fit) (okv : Hid sv.Ok) (fitv : Hid sv.Fit) (h : Hid (Play w p q S R st sv k B n)) :
    Calls Try.prog 10 #[.pointer (some ⟨p, 0, none⟩), .pointer (some ⟨q, 0, none⟩), o.val, .pointer (some ⟨k, 0, none⟩)] w (WritesOut w p q S R st sv k B n) := by
  have h0 : Hid (Two (w.alloc (.cells o.cells 43 (0, 0))) p q S R st sv) := h.out.two.kept ((Kept.refl [] _).alloc _) (fun i _ hm => by simp at hm)
  have NUM := Lib.hid (numbers_any (w.alloc (.cells o.cells 43 (0, 0))) p q S R st sv o so.out.n ok okv h0)
  have hnum : Hid (st.numbered o.kind o.n = st) := WS.numbered_other (by rw [hkind]; decide)
  have hnumv : Hid (sv.numbered o.kind o.n = sv) := WS.numbered_other (by rw [hkind]; decide)
  obtain ⟨who, kind, nn, kk, b, s⟩ := o
  simp only [] at hkind
  subst hkind
  unfold Stp.val
  simp only []
  go_enter Try.func10, Try.ntmps10
  go_wp2_with fail
  refine NUM.out.mono ?_
  rintro e w1 ⟨rfl, ho⟩
  rw [hnum.out, hnumv.out] at ho
  obtain ⟨S1, R1, B1, A⟩ := After.start h.out so.out hT.out ho
  have c1 : w1.cell? ⟨w.heap.size, 1, none⟩ = some (.int .i64 14) := A.out.cell 1
  have c3 : w1.cell? ⟨w.heap.size, 3, none⟩ = some (.int .i64 kk) := A.out.cell 3
  have h1 : Hid (Two w1 p q S1 R1 st sv) := A.out.play.two
  have ha : Hid (Wr 77 w1 p S1 st) := h1.out.a
  clear ho
  have hpk := Mad.pk_lt kk 40 (by decide)
  have PK := fun w => Mad.pick_any kk 40 40 w rfl (by decide) (by decide) so.out.k1 so.out.k2
  obtain ⟨j, hj⟩ : ∃ j, j = Mad.pk kk 40 := ⟨_, rfl⟩
  rw [← hj] at hpk PK
  have PK' := Lib.hid PK
  clear hj PK c3
  have G0 : Hid (Goes st st) := Goes.refl ok.out fit.out
  have V0 : Hid (Goes sv sv) := Goes.refl okv.out fitv.out
  go_wp2_with fail
  go_loopw [10] (fun v wr => ∃ (i : Nat) (s2 t2 : WS) (S2 R2 B2 : List Nat), i ≤ j ∧ v = .int .i64 i ∧ Hid (After w p q S R k B n ⟨who, 14, nn, kk, b, s⟩ bs T S2 R2 B2 s2 t2 wr) ∧ Hid (Goes st s2) ∧ Hid (Goes sv t2) ∧ Hid (st = sv → s2 = t2)) (fun v _ => j - (intOf v).toNat)
  case atStart => exact ⟨0, st, sv, S1, R1, B1, by omega, rfl, A, G0, V0, fun e => e⟩
  case round =>
    obtain ⟨i, s2, t2, S2, R2, B2, hij, rfl, A2, G2, V2, E2⟩ := hrel
    have c3 : wr.cell? ⟨w.heap.size, 3, none⟩ = some (.int .i64 kk) := A2.out.cell 3
    have h2 : Hid (Two wr p q S2 R2 s2 t2) := A2.out.play.two
    have ok2 : Hid s2.Ok := G2.out.ok
    have okt : Hid t2.Ok := V2.out.ok
    by_cases hlt : i < j
    · go_wp2_with fail
      refine (PK'.out _).mono ?_
      rintro e w3 ⟨rfl, rfl⟩
      go_wp2_with fail
      refine (opens_any _ p q S2 R2 s2 t2 ok2 okt h2).mono ?_
      rintro e w3 ⟨rfl, ho⟩
      obtain ⟨S3, R3, B3, A3⟩ := A2.out.next ho
      have G3 : Hid (Goes st s2.opened) := G2.out.trans (Goes.opened G2.out.ok G2.out.fit)
      have V3 : Hid (Goes sv t2.opened) := V2.out.trans (Goes.opened V2.out.ok V2.out.fit)
      have O3 := Lib.hid (A2.out.out (A2.out.play.of_two ho))
      have E3 : Hid (st = sv → ((s2.place : Int) == t2.place) = true ∧ s2.opened = t2.opened) := fun e => by rw [E2.out e]; exact ⟨by simp, rfl⟩
      obtain ⟨x, hx⟩ : ∃ x : Bool, x = ((s2.place : Int) == t2.place) := ⟨_, rfl⟩
      rw [← hx] at E3 ⊢
      clear ho hx
      cases x with
      | true =>
        go_wp2_with fail
        go_roundw
        case rel => exact ⟨i + 1, _, _, S3, R3, B3, by omega, by go_num, A3, G3, V3, fun e => (E3.out e).2⟩
        case measure => simp [intOf]; omega
      | false =>
        go_wp2_with fail
        go_ret
        exact WritesOut.mk rfl O3.out G3.out V3.out (by omega) (fun e => ⟨(E3.out e).1, (E3.out e).2⟩)
    · have O := Lib.hid (A2.out.out (A2.out.play.same (Kept.refl [] _)))
      go_wp2_with fail
      refine (PK'.out _).mono ?_
      rintro e w3 ⟨rfl, rfl⟩
      go_wp2_with fail
      go_ret
      exact WritesOut.mk rfl O.out G2.out V2.out (by omega) (fun e => ⟨rfl, E2.out e⟩)

set_option maxHeartbeats 1000000 in
theorem writes_9a (w : World) (p q : Nat) (S R : List Nat) (st sv : WS) (k : Nat) (B : List Nat) (n : Nat) (o : Stp) (bs : List UInt8) (T : List Nat) (q0 : Nat) (os : List Nat) (hkind : o.kind = 9) (hos : Hid (sv.os = os ++ [q0])) (hnn : n ≤ 150000000) (so : Hid (StpOk w o bs T)) (hT : Hid (∀ i ∈ T, i ∉ (S ++ R) ++ B)) (ok : Hid st.Ok) (fit : Hid st.Fit) (okv : Hid sv.Ok) (fitv : Hid sv.Fit) (h : Hid (Play w p q S R st sv k B n)) :
    Calls Try.prog 10 #[.pointer (some ⟨p, 0, none⟩), .pointer (some ⟨q, 0, none⟩), o.val, .pointer (some ⟨k, 0, none⟩)] w (WritesOut w p q S R st sv k B n) := by
  have h0 : Hid (Two (w.alloc (.cells o.cells 43 (0, 0))) p q S R st sv) := h.out.two.kept ((Kept.refl [] _).alloc _) (fun i _ hm => by simp at hm)
  have NUM := Lib.hid (numbers_any (w.alloc (.cells o.cells 43 (0, 0))) p q S R st sv o so.out.n ok okv h0)
  have hnum : Hid (st.numbered o.kind o.n = st) := WS.numbered_other (by rw [hkind]; decide)
  have hnumv : Hid (sv.numbered o.kind o.n = sv) := WS.numbered_other (by rw [hkind]; decide)
  obtain ⟨who, kind, nn, kk, b, s⟩ := o
  simp only [] at hkind
  subst hkind
  unfold Stp.val
  simp only []
  go_enter Try.func10, Try.ntmps10
  go_wp2_with fail
  refine NUM.out.mono ?_
  rintro e w1 ⟨rfl, ho⟩
  rw [hnum.out, hnumv.out] at ho
  obtain ⟨S1, R1, B1, A⟩ := After.start h.out so.out hT.out ho
  have c1 : w1.cell? ⟨w.heap.size, 1, none⟩ = some (.int .i64 9) := A.out.cell 1
  have h1 : Hid (Two w1 p q S1 R1 st sv) := A.out.play.two
  have ha : Hid (Wr 77 w1 p S1 st) := h1.out.a
  clear ho
  have hb1 : Hid (Wr 79 w1 q R1 sv) := h1.out.b
  obtain ⟨vv, u, f0, f1, f2, f3, fz, hv, hu, hp, hS⟩ := hb1.out.parts
  obtain ⟨g, c, rfl, hu2, hcell, hcap⟩ := Wrt.last_place (os := os) (q := q0) (by rw [hos.out]) (by rw [hos.out]) hu.out
  have hol : os.length ≤ 16777216 := by
    have h5 := okv.out.os
    have h6 := okv.out.bs
    have h7 := okv.out.lim
    rw [hos.out] at h5
    simp at h5
    omega
  have i1 : ((os.length : Int) + 1 - 1) = os.length := by omega
  have i2 : (0 : Int) < (os.length : Int) + 1 := by omega
  clear hv hu hp hS hu2 f0 f1 f3
  go_wp2_with fail
  go_quiet (fail)
  go_wp2_with fail
  have hk9 : Kept [] w1 (w1.drewN nq) := (Kept.refl [] w1).drewN nq
  have h2 : Hid (Two (w1.drewN nq) p q S1 R1 st sv) := h1.out.kept hk9 (fun i _ hm => by simp at hm)
  have P2 : Hid (Play (w1.drewN nq) p q S1 R1 st sv k B1 n) := A.out.play.kept hk9 (fun i _ hm => by simp at hm)
  have K2 : Hid (Kept ((S1 ++ R1) ++ B1) w1 (w1.drewN nq)) := hk9.mono (fun i hi => by simp at hi)
  have ha2 : Hid (Wr 77 (w1.drewN nq) p S1 st) := h2.out.a
  refine (Wrt.shut_any _ p S1 st q0 ok fit ha2).mono ?_
  rintro e w3 ⟨rfl, ho⟩
  obtain ⟨S2, H⟩ := h2.out.half ho
  have hb : Hid (Wr 79 w3 q R1 sv) := H.out.b
  clear ho
  go_wp2_with fail
  refine (Vrt.shut_any _ q R1 sv q0 okv fitv hb).mono ?_
  rintro e w4 ⟨rfl, ho⟩
  have O := Lib.hid (A.out.out (PlayOut.trans K2.out (fun i hi => Or.inl hi) (P2.out.of_two (H.out.whole ho))))
  clear ho
  go_wp2_with fail
  go_ret
  exact WritesOut.mk rfl O.out (Goes.shut ok.out fit.out _) (Goes.shut okv.out fitv.out _) (by omega) (fun e => ⟨rfl, by rw [e]⟩)

set_option maxHeartbeats 1000000 in
theorem writes_9b (w : World) (p q : Nat) (S R : List Nat) (st sv : WS) (k : Nat) (B : List Nat) (n : Nat) (o : Stp) (bs : List UInt8) (T : List Nat) (hkind : o.kind = 9) (hos : Hid (sv.os = [])) (hnn : n ≤ 150000000) (so : Hid (StpOk w o bs T)) (hT : Hid (∀ i ∈ T, i ∉ (S ++ R) ++ B)) (ok : Hid st.Ok) (fit : Hid st.Fit) (okv : Hid sv.Ok) (fitv : Hid sv.Fit) (h : Hid (Play w p q S R st sv k B n)) :
    Calls Try.prog 10 #[.pointer (some ⟨p, 0, none⟩), .pointer (some ⟨q, 0, none⟩), o.val, .pointer (some ⟨k, 0, none⟩)] w (WritesOut w p q S R st sv k B n) := by
  have h0 : Hid (Two (w.alloc (.cells o.cells 43 (0, 0))) p q S R st sv) := h.out.two.kept ((Kept.refl [] _).alloc _) (fun i _ hm => by simp at hm)
  have NUM := Lib.hid (numbers_any (w.alloc (.cells o.cells 43 (0, 0))) p q S R st sv o so.out.n ok okv h0)
  have hnum : Hid (st.numbered o.kind o.n = st) := WS.numbered_other (by rw [hkind]; decide)
  have hnumv : Hid (sv.numbered o.kind o.n = sv) := WS.numbered_other (by rw [hkind]; decide)
  obtain ⟨who, kind, nn, kk, b, s⟩ := o
  simp only [] at hkind
  subst hkind
  unfold Stp.val
  simp only []
  go_enter Try.func10, Try.ntmps10
  go_wp2_with fail
  refine NUM.out.mono ?_
  rintro e w1 ⟨rfl, ho⟩
  rw [hnum.out, hnumv.out] at ho
  obtain ⟨S1, R1, B1, A⟩ := After.start h.out so.out hT.out ho
  have c1 : w1.cell? ⟨w.heap.size, 1, none⟩ = some (.int .i64 9) := A.out.cell 1
  have h1 : Hid (Two w1 p q S1 R1 st sv) := A.out.play.two
  have ha : Hid (Wr 77 w1 p S1 st) := h1.out.a
  clear ho
  have hb1 : Hid (Wr 79 w1 q R1 sv) := h1.out.b
  obtain ⟨vv, u, f0, f1, f2, f3, fz, hv, hu, hp, hS⟩ := hb1.out.parts
  have hu2 : w1.ownsRow 0 3 1 u 0 [] := by have := hu.out; rw [hos.out] at this; exact this
  obtain ⟨a, c, rfl⟩ := own_slice hu2
  clear hv hu hp hS hu2 f0 f1 f3
  have O := Lib.hid (A.out.out (A.out.play.same (Kept.refl [] _)))
  go_wp2_with fail
  go_ret
  exact WritesOut.mk rfl O.out (Goes.refl ok.out fit.out) (Goes.refl okv.out fitv.out) (by omega) (fun e => ⟨rfl, e⟩)

set_option maxHeartbeats 1000000 in
theorem writes_12 (w : World) (p q : Nat) (S R : List Nat) (st sv : WS) (k : Nat) (B : List Nat) (n : Nat) (o : Stp) (bs : List UInt8) (T : List Nat) (hkind : o.kind = 12) (hnn : n ≤ 150000000) (so : Hid (StpOk w o bs T)) (hT : Hid (∀ i ∈ T, i ∉ (S ++ R) ++ B)) (ok : Hid st.Ok) (fit : Hid st.Fit) (okv : Hid sv.Ok) (fitv : Hid sv.Fit) (h : Hid (Play w p q S R st sv k B n)) :
    Calls Try.prog 10 #[.pointer (some ⟨p, 0, none⟩), .pointer (some ⟨q, 0, none⟩), o.val, .pointer (some ⟨k, 0, none⟩)] w (WritesOut w p q S R st sv k B n) := by
  have h0 : Hid (Two (w.alloc (.cells o.cells 43 (0, 0))) p q S R st sv) := h.out.two.kept ((Kept.refl [] _).alloc _) (fun i _ hm => by simp at hm)
  have NUM := Lib.hid (numbers_any (w.alloc (.cells o.cells 43 (0, 0))) p q S R st sv o so.out.n ok okv h0)
  have hnum : Hid (st.numbered o.kind o.n = st) := WS.numbered_other (by rw [hkind]; decide)
  have hnumv : Hid (sv.numbered o.kind o.n = sv) := WS.numbered_other (by rw [hkind]; decide)
  obtain ⟨who, kind, nn, kk, b, s⟩ := o
  simp only [] at hkind
  subst hkind
  unfold Stp.val
  simp only []
  go_enter Try.func10, Try.ntmps10
  go_wp2_with fail
  refine NUM.out.mono ?_
  rintro e w1 ⟨rfl, ho⟩
  rw [hnum.out, hnumv.out] at ho
  obtain ⟨S1, R1, B1, A⟩ := After.start h.out so.out hT.out ho
  have c1 : w1.cell? ⟨w.heap.size, 1, none⟩ = some (.int .i64 12) := A.out.cell 1
  have c3 : w1.cell? ⟨w.heap.size, 3, none⟩ = some (.int .i64 kk) := A.out.cell 3
  have c2 : w1.cell? ⟨w.heap.size, 2, none⟩ = some (.int .u64 nn) := A.out.cell 2
  have h1 : Hid (Two w1 p q S1 R1 st sv) := A.out.play.two
  have ha : Hid (Wr 77 w1 p S1 st) := h1.out.a
  clear ho
  have PK := Lib.hid (fun w => Mad.pick_any kk 70000 70000 w rfl (by decide) (by decide) so.out.k1 so.out.k2)
  have hpk := Mad.pk_lt kk 70000 (by decide)
  obtain ⟨j, hj⟩ : ∃ j, j = Mad.pk kk 70000 := ⟨_, rfl⟩
  rw [← hj] at hpk PK
  clear hj
  have FL := Lib.hid (fun w => Lst.fill_any w (j : Int) (IntKind.u8.wrap (nn : Int)) j (UInt8.ofNat nn) rfl (by rw [IntKind.wrap_u8]; simp) (by omega))
  have hll : (List.replicate j (UInt8.ofNat nn)).length ≤ 1152921504 := by rw [List.length_replicate]; omega
  have HL := Lib.hid hll
  obtain ⟨l, hl⟩ : ∃ l, l = List.replicate j (UInt8.ofNat nn) := ⟨_, rfl⟩
  rw [← hl] at FL HL
  clear hl hll hpk
  have P1 : Hid (Play w1.drew p q S1 R1 st sv k B1 n) := A.out.play.kept (Kept.refl [] w1).drew (fun i _ hm => by simp at hm)
  have K1 : Hid (Kept ((S1 ++ R1) ++ B1) w1 w1.drew) := (Kept.refl _ _).drew
  go_wp2_with fail
  go_region_with (first | (go_at_call 9; refine (PK.out _).mono ?_; rintro e w9 ⟨rfl, rfl⟩) | (go_at_call 39; refine (FL.out _).mono ?_; rintro e w2 hfr; obtain ⟨v, rfl, T2, hsg, hdd, P2, K2⟩ := Play.fresh P1.out hfr) | (go_at_call 38; refine (raw_any _ p q S1 R1 T2 st sv v l HL.out hsg.out.src hdd ok okv P2.out.two).mono ?_; rintro e w3 ⟨rfl, ho⟩; have O := Lib.hid (A.out.out (PlayOut.trans K1.out (fun i hi => Or.inl hi) (PlayOut.trans K2.out (fun i hi => Or.inl hi) (P2.out.of_two ho))))))
  all_goals
    go_wp2_with fail
    go_ret
    exact WritesOut.mk rfl O.out (Goes.raw ok.out fit.out _) (Goes.raw okv.out fitv.out _) (by omega) (fun e => ⟨rfl, by rw [e]⟩)

/-- One step of both writers, whatever its kind. -/
theorem writes_any (w : World) (p q : Nat) (S R : List Nat) (st sv : WS) (k : Nat) (B : List Nat) (n : Nat) (o : Stp) (bs : List UInt8) (T : List Nat) (hnn : n ≤ 150000000) (so : Hid (StpOk w o bs T)) (hT : Hid (∀ i ∈ T, i ∉ (S ++ R) ++ B)) (ok : Hid st.Ok) (fit : Hid st.Fit) (okv : Hid sv.Ok) (fitv : Hid sv.Fit) (h : Hid (Play w p q S R st sv k B n)) :
    Calls Try.prog 10 #[.pointer (some ⟨p, 0, none⟩), .pointer (some ⟨q, 0, none⟩), o.val, .pointer (some ⟨k, 0, none⟩)] w (WritesOut w p q S R st sv k B n) := by
  by_cases h5 : o.kind = 5
  · exact writes_5 w p q S R st sv k B n o bs T h5 (by omega) so hT ok fit okv fitv h
  by_cases h6 : o.kind = 6
  · exact writes_6 w p q S R st sv k B n o bs T h6 (by omega) so hT ok fit okv fitv h
  by_cases h7 : o.kind = 7
  · exact writes_7 w p q S R st sv k B n o bs T h7 (by omega) so hT ok fit okv fitv h
  by_cases h8 : o.kind = 8
  · exact writes_8 w p q S R st sv k B n o bs T h8 (by omega) so hT ok fit okv fitv h
  by_cases h10 : o.kind = 10
  · exact writes_10 w p q S R st sv k B n o bs T h10 (by omega) so hT ok fit okv fitv h
  by_cases h11 : o.kind = 11
  · exact writes_11 w p q S R st sv k B n o bs T h11 (by omega) so hT ok fit okv fitv h
  by_cases h12 : o.kind = 12
  · exact writes_12 w p q S R st sv k B n o bs T h12 (by omega) so hT ok fit okv fitv h
  by_cases h13 : o.kind = 13
  · exact writes_13 w p q S R st sv k B n o bs T h13 (by omega) so hT ok fit okv fitv h
  by_cases h14 : o.kind = 14
  · exact writes_14 w p q S R st sv k B n o bs T h14 (by omega) so hT ok fit okv fitv h
  by_cases h9 : o.kind = 9
  · by_cases hos : sv.os = []
    · exact writes_9b w p q S R st sv k B n o bs T h9 hos hnn so hT ok fit okv fitv h
    · exact writes_9a w p q S R st sv k B n o bs T (sv.os.getLast hos) sv.os.dropLast h9 (List.dropLast_concat_getLast hos).symm hnn so hT ok fit okv fitv h
  exact writes_rest w p q S R st sv k B n o bs T (fun j j1 j2 e => by omega) hnn so hT ok fit okv fitv h
end Two
end Go.Proofs.Ytfdbpbhihccgbaa
