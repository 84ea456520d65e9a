/- What the law's writes does: one step of both writers. -/
import Derived.Test.YtfdbpbhihccgbaaGoe
import Derived.Test.YtfdbpbhihccgbaaChw
namespace Go.Proofs.Ytfdbpbhihccgbaa
set_option linter.unusedVariables false
open Go.RowKit

/-- A step as it comes in: its bytes lie in the blocks of T. -/
structure StpOk (w : World) (o : Stp) (bs : List UInt8) (T : List Nat) : Prop where
  n : o.n ≤ 18446744073709551615
  k1 : -9223372036854775808 ≤ o.k
  k2 : o.k ≤ 9223372036854775807
  s : o.s.size ≤ 140737488355328
  b : Src w o.b bs T
  bl : bs.length ≤ 1152921504
  t : ∀ i ∈ T, i < w.heap.size
def WritesOut (w : World) (p q : Nat) (S R : List Nat) (st sv : WS) (k : Nat) (B : List Nat) (n : Nat) (e : Ending) (w' : World) : Prop :=
  ∃ (x : Bool) (st' sv' : WS) (n' : Nat), e = .returned (.bool x) ∧ Hid (PlayOut w p q S R k B st' sv' n' w') ∧ Hid (Goes st st') ∧ Hid (Goes sv sv') ∧ n' ≤ n + 2 ∧ Hid (st = sv → x = true ∧ st' = sv')
theorem WritesOut.mk {w w' : World} {p q : Nat} {S R : List Nat} {st st' sv sv' : WS} {k : Nat} {B : List Nat} {n n' : Nat} {v : Value} {x : Bool} (hv : v = .bool x) (h : PlayOut w p q S R k B st' sv' n' w') (hg : Goes st st') (hgv : Goes sv sv') (hn : n' ≤ n + 2) (he : st = sv → x = true ∧ st' = sv') : WritesOut w p q S R st sv k B n (.returned v) w' := ⟨x, st', sv', n', by rw [hv], h, hg, hgv, hn, he⟩

/-- The step's own copy, and the writers with it. -/
def Stp.cells (o : Stp) : Array Value := #[.int .i64 o.who, .int .i64 o.kind, .int .u64 o.n, .int .i64 o.k, o.b, .string o.s]

theorem WS.numbered_other {st : WS} {k : Int} {n : Nat} (h : ¬ (k = 1 ∨ k = 2 ∨ k = 3 ∨ k = 4)) : st.numbered k n = st := by
  unfold WS.numbered
  rw [if_neg (fun e => h (by simp [e])), if_neg (fun e => h (by simp [e])), if_neg (fun e => h (by simp [e])), if_neg (fun e => h (by simp [e]))]

/-- Behind numbers: the writers and the book, the step's own copy, its bytes. -/
structure After (w : World) (p q : Nat) (S R : List Nat) (k : Nat) (B : List Nat) (n : Nat) (o : Stp) (bs : List UInt8) (T S1 R1 B1 : List Nat) (st sv : WS) (w1 : World) : Prop where
  play : Play w1 p q S1 R1 st sv k B1 n
  kept : Kept ((S ++ R) ++ B) w w1
  sub : ∀ i ∈ (S1 ++ R1) ++ B1, i ∈ (S ++ R) ++ B ∨ w.heap.size ≤ i
  no : ∀ i ∈ (S1 ++ R1) ++ B1, i ≠ w.heap.size
  cells : w1.heap[w.heap.size]? = some (.cells o.cells 43 (0, 0))
  b : Src w1 o.b bs T
  t : ∀ i ∈ T, i ∉ (S1 ++ R1) ++ B1
  tl : ∀ i ∈ T, i < w.heap.size

theorem After.start {w w1 : World} {p q : Nat} {S R : List Nat} {st st' sv sv' : WS} {k : Nat} {B : List Nat} {n : Nat} {o : Stp} {bs : List UInt8} {T : List Nat} (h : Play w p q S R st sv k B n) (so : StpOk w o bs T) (hT : ∀ i ∈ T, i ∉ (S ++ R) ++ B)
    (ho : TwoOut (w.alloc (.cells o.cells 43 (0, 0))) p q S R st' sv' w1) : ∃ S1 R1 B1, Hid (After w p q S R k B n o bs T S1 R1 B1 st' sv' w1) := by
  have hk0 : Kept [] w (w.alloc (.cells o.cells 43 (0, 0))) := (Kept.refl _ _).alloc _
  have h0 := h.kept hk0 (fun i _ hm => by simp at hm)
  obtain ⟨S1, R1, B1, h1, h2, h3⟩ := h0.of_two ho
  have hsz : (w.alloc (.cells o.cells 43 (0, 0))).heap.size = w.heap.size + 1 := by simp
  have hl := h.lt
  have hk := hk0.mono (T := (S ++ R) ++ B) (fun i hi => by simp at hi)
  have hkk : Kept ((S ++ R) ++ B) w w1 := hk.trans h2.out (fun i hi => Or.inl hi)
  refine ⟨S1, R1, B1, h1.out, hkk, fun i hi => ?_, fun i hi e => ?_, ?_, so.b.kept hkk hT, fun i hi hm => ?_, so.t⟩
  · rcases h3.out i hi with x | x
    · exact Or.inl x
    · right; omega
  · rcases h3.out i hi with x | x
    · have := hl i x; omega
    · omega
  · rw [h2.out.block w.heap.size (by omega) (fun m => by have := hl _ m; omega)]
    exact heap_alloc_new w _
  · rcases h3.out i hm with x | x
    · exact hT i hi x
    · have := so.t i hi; omega
theorem After.cell {w w1 : World} {p q : Nat} {S R : List Nat} {st sv : WS} {k : Nat} {B : List Nat} {n : Nat} {o : Stp} {bs : List UInt8} {T S1 R1 B1 : List Nat} (h : After w p q S R k B n o bs T S1 R1 B1 st sv w1) (i : Nat) : w1.cell? ⟨w.heap.size, i, none⟩ = o.cells[i]? := cell_of_row w1 w.heap.size i _ 43 (0, 0) h.cells
theorem After.out {w w1 w2 : World} {p q : Nat} {S R : List Nat} {st st' sv sv' : WS} {k : Nat} {B : List Nat} {n n' : Nat} {o : Stp} {bs : List UInt8} {T S1 R1 B1 : List Nat} (h : After w p q S R k B n o bs T S1 R1 B1 st sv w1) (ho : PlayOut w1 p q S1 R1 k B1 st' sv' n' w2) : PlayOut w p q S R k B st' sv' n' w2 := PlayOut.trans h.kept h.sub ho

theorem After.next {w w1 w2 : World} {p q : Nat} {S R : List Nat} {st st' sv sv' : WS} {k : Nat} {B : List Nat} {n : Nat} {o : Stp} {bs : List UInt8} {T S1 R1 B1 : List Nat} (h : After w p q S R k B n o bs T S1 R1 B1 st sv w1) (ho : TwoOut w1 p q S1 R1 st' sv' w2) :
    ∃ S2 R2 B2, Hid (After w p q S R k B n o bs T S2 R2 B2 st' sv' w2) := by
  obtain ⟨S2, R2, B2, h1, h2, h3⟩ := h.play.of_two ho
  have hb := block_lt h.cells
  have hz := h.kept.size
  refine ⟨S2, R2, B2, h1.out, h.kept.trans h2.out h.sub, fun i hi => ?_, fun i hi e => ?_, ?_, h.b.kept h2.out h.t, fun i hi hm => ?_, h.tl⟩
  · rcases h3.out i hi with x | x
    · exact h.sub i x
    · right; omega
  · rcases h3.out i hi with x | x
    · exact h.no i x e
    · omega
  · rw [h2.out.block w.heap.size hb (fun m => h.no _ m rfl)]
    exact h.cells
  · rcases h3.out i hm with x | x
    · exact h.t i hi x
    · have := h.tl i hi; omega

namespace Two
open Go.Proofs.Ytfdbpbhihccgbaa.Txt

set_option maxHeartbeats 1000000 in
theorem writes_5 (w : World) (p q : Nat) (S R : List Nat) (st sv : WS) (k : Nat) (B : List Nat) (n : Nat) (o : Stp) (bs : List UInt8) (T : List Nat) (hkind : o.kind = 5) (hnn : n ≤ 150000000) (so : Hid (StpOk w o bs T)) (hT : Hid (∀ i ∈ T, i ∉ (S ++ R) ++ B)) (ok : Hid st.Ok) (fit : Hid st.Fit) (okv : Hid sv.Ok) (fitv : Hid sv.Fit) (h : Hid (Play w p q S R st sv k B n)) :
    Calls Try.prog 10 #[.pointer (some ⟨p, 0, none⟩), .pointer (some ⟨q, 0, none⟩), o.val, .pointer (some ⟨k, 0, none⟩)] w (WritesOut w p q S R st sv k B n) := by
  have h0 : Hid (Two (w.alloc (.cells o.cells 43 (0, 0))) p q S R st sv) := h.out.two.kept ((Kept.refl [] _).alloc _) (fun i _ hm => by simp at hm)
  have NUM := Lib.hid (numbers_any (w.alloc (.cells o.cells 43 (0, 0))) p q S R st sv o so.out.n ok okv h0)
  have hnum : Hid (st.numbered o.kind o.n = st) := WS.numbered_other (by rw [hkind]; decide)
  have hnumv : Hid (sv.numbered o.kind o.n = sv) := WS.numbered_other (by rw [hkind]; decide)
  obtain ⟨who, kind, nn, kk, b, s⟩ := o
  simp only [] at hkind
  subst hkind
  unfold Stp.val
  simp only []
  go_enter Try.func10, Try.ntmps10
  go_wp2_with fail
  refine NUM.out.mono ?_
  rintro e w1 ⟨rfl, ho⟩
  rw [hnum.out, hnumv.out] at ho
  obtain ⟨S1, R1, B1, A⟩ := After.start h.out so.out hT.out ho
  have c1 : w1.cell? ⟨w.heap.size, 1, none⟩ = some (.int .i64 5) := A.out.cell 1
  have c4 : w1.cell? ⟨w.heap.size, 4, none⟩ = some b := A.out.cell 4
  have h1 : Hid (Two w1 p q S1 R1 st sv) := A.out.play.two
  have ha : Hid (Wr 77 w1 p S1 st) := h1.out.a
  clear ho
  go_wp2_with fail
  have hb1 : Hid (Src w1 b bs T) := A.out.b
  have hd1 : Hid (∀ i ∈ T, i ∉ S1 ++ R1) := fun i hi hm => A.out.t i hi (List.mem_append_left _ hm)
  refine (raw_any _ p q S1 R1 T st sv b bs so.out.bl hb1 hd1 ok okv h1).mono ?_
  rintro e w2 ⟨rfl, ho⟩
  have O := Lib.hid (A.out.out (A.out.play.of_two ho))
  clear ho
  go_wp2_with fail
  go_ret
  exact WritesOut.mk rfl O.out (Goes.raw ok.out fit.out _) (Goes.raw okv.out fitv.out _) (by omega) (fun e => ⟨rfl, by rw [e]⟩)

set_option maxHeartbeats 1000000 in
theorem writes_6 (w : World) (p q : Nat) (S R : List Nat) (st sv : WS) (k : Nat) (B : List Nat) (n : Nat) (o : Stp) (bs : List UInt8) (T : List Nat) (hkind : o.kind = 6) (hnn : n ≤ 150000000) (so : Hid (StpOk w o bs T)) (hT : Hid (∀ i ∈ T, i ∉ (S ++ R) ++ B)) (ok : Hid st.Ok) (fit : Hid st.Fit) (okv : Hid sv.Ok) (fitv : Hid sv.Fit) (h : Hid (Play w p q S R st sv k B n)) :
    Calls Try.prog 10 #[.pointer (some ⟨p, 0, none⟩), .pointer (some ⟨q, 0, none⟩), o.val, .pointer (some ⟨k, 0, none⟩)] w (WritesOut w p q S R st sv k B n) := by
  have h0 : Hid (Two (w.alloc (.cells o.cells 43 (0, 0))) p q S R st sv) := h.out.two.kept ((Kept.refl [] _).alloc _) (fun i _ hm => by simp at hm)
  have NUM := Lib.hid (numbers_any (w.alloc (.cells o.cells 43 (0, 0))) p q S R st sv o so.out.n ok okv h0)
  have hnum : Hid (st.numbered o.kind o.n = st) := WS.numbered_other (by rw [hkind]; decide)
  have hnumv : Hid (sv.numbered o.kind o.n = sv) := WS.numbered_other (by rw [hkind]; decide)
  obtain ⟨who, kind, nn, kk, b, s⟩ := o
  simp only [] at hkind
  subst hkind
  unfold Stp.val
  simp only []
  go_enter Try.func10, Try.ntmps10
  go_wp2_with fail
  refine NUM.out.mono ?_
  rintro e w1 ⟨rfl, ho⟩
  rw [hnum.out, hnumv.out] at ho
  obtain ⟨S1, R1, B1, A⟩ := After.start h.out so.out hT.out ho
  have c1 : w1.cell? ⟨w.heap.size, 1, none⟩ = some (.int .i64 6) := A.out.cell 1
  have c5 : w1.cell? ⟨w.heap.size, 5, none⟩ = some (.string s) := A.out.cell 5
  have h1 : Hid (Two w1 p q S1 R1 st sv) := A.out.play.two
  have ha : Hid (Wr 77 w1 p S1 st) := h1.out.a
  clear ho
  go_wp2_with fail
  refine (Wrt.text_any _ p S1 st s so.out.s ok ha).mono ?_
  rintro e w2 ⟨rfl, ho⟩
  obtain ⟨S2, H⟩ := h1.out.half ho
  have hb : Hid (Wr 79 w2 q R1 sv) := H.out.b
  have d5 : w2.cell? ⟨w.heap.size, 5, none⟩ = some (.string s) := by
    rw [← c5]; exact World.cell?_of_block (H.out.kept.block _ (World.block_lt_of_cell? w1 _ c5) (fun m => A.out.no _ (List.mem_append_left _ (List.mem_append_left _ m)) rfl))
  clear ho
  go_wp2_with fail
  refine (Vrt.text_any _ q R1 sv s okv hb).mono ?_
  rintro e w3 ⟨rfl, ho⟩
  have O := Lib.hid (A.out.out (A.out.play.of_two (H.out.whole ho)))
  clear ho
  go_wp2_with fail
  go_ret
  exact WritesOut.mk rfl O.out (Goes.text ok.out fit.out _) (Goes.text okv.out fitv.out _) (by omega) (fun e => ⟨rfl, by rw [e]⟩)

set_option maxHeartbeats 1000000 in
theorem writes_7 (w : World) (p q : Nat) (S R : List Nat) (st sv : WS) (k : Nat) (B : List Nat) (n : Nat) (o : Stp) (bs : List UInt8) (T : List Nat) (hkind : o.kind = 7) (hnn : n ≤ 150000000) (so : Hid (StpOk w o bs T)) (hT : Hid (∀ i ∈ T, i ∉ (S ++ R) ++ B)) (ok : Hid st.Ok) (fit : Hid st.Fit) (okv : Hid sv.Ok) (fitv : Hid sv.Fit) (h : Hid (Play w p q S R st sv k B n)) :
    Calls Try.prog 10 #[.pointer (some ⟨p, 0, none⟩), .pointer (some ⟨q, 0, none⟩), o.val, .pointer (some ⟨k, 0, none⟩)] w (WritesOut w p q S R st sv k B n) := by
  have h0 : Hid (Two (w.alloc (.cells o.cells 43 (0, 0))) p q S R st sv) := h.out.two.kept ((Kept.refl [] _).alloc _) (fun i _ hm => by simp at hm)
  have NUM := Lib.hid (numbers_any (w.alloc (.cells o.cells 43 (0, 0))) p q S R st sv o so.out.n ok okv h0)
  have hnum : Hid (st.numbered o.kind o.n = st) := WS.numbered_other (by rw [hkind]; decide)
  have hnumv : Hid (sv.numbered o.kind o.n = sv) := WS.numbered_other (by rw [hkind]; decide)
  obtain ⟨who, kind, nn, kk, b, s⟩ := o
  simp only [] at hkind
  subst hkind
  unfold Stp.val
  simp only []
  go_enter Try.func10, Try.ntmps10
  go_wp2_with fail
  refine NUM.out.mono ?_
  rintro e w1 ⟨rfl, ho⟩
  rw [hnum.out, hnumv.out] at ho
  obtain ⟨S1, R1, B1, A⟩ := After.start h.out so.out hT.out ho
  have c1 : w1.cell? ⟨w.heap.size, 1, none⟩ = some (.int .i64 7) := A.out.cell 1
  have h1 : Hid (Two w1 p q S1 R1 st sv) := A.out.play.two
  have ha : Hid (Wr 77 w1 p S1 st) := h1.out.a
  clear ho
  go_wp2_with fail
  refine (opens_any _ p q S1 R1 st sv ok okv h1).mono ?_
  rintro e w2 ⟨rfl, ho⟩
  have O := Lib.hid (A.out.out (A.out.play.of_two ho))
  clear ho
  go_wp2_with fail
  go_ret
  exact WritesOut.mk rfl O.out (Goes.opened ok.out fit.out) (Goes.opened okv.out fitv.out) (by omega) (fun e => ⟨by simp [e], by rw [e]⟩)

set_option maxHeartbeats 1000000 in
theorem writes_8 (w : World) (p q : Nat) (S R : List Nat) (st sv : WS) (k : Nat) (B : List Nat) (n : Nat) (o : Stp) (bs : List UInt8) (T : List Nat) (hkind : o.kind = 8) (hnn : n ≤ 150000000) (so : Hid (StpOk w o bs T)) (hT : Hid (∀ i ∈ T, i ∉ (S ++ R) ++ B)) (ok : Hid st.Ok) (fit : Hid st.Fit) (okv : Hid sv.Ok) (fitv : Hid sv.Fit) (h : Hid (Play w p q S R st sv k B n)) :
    Calls Try.prog 10 #[.pointer (some ⟨p, 0, none⟩), .pointer (some ⟨q, 0, none⟩), o.val, .pointer (some ⟨k, 0, none⟩)] w (WritesOut w p q S R st sv k B n) := by
  have h0 : Hid (Two (w.alloc (.cells o.cells 43 (0, 0))) p q S R st sv) := h.out.two.kept ((Kept.refl [] _).alloc _) (fun i _ hm => by simp at hm)
  have NUM := Lib.hid (numbers_any (w.alloc (.cells o.cells 43 (0, 0))) p q S R st sv o so.out.n ok okv h0)
  have hnum : Hid (st.numbered o.kind o.n = st) := WS.numbered_other (by rw [hkind]; decide)
  have hnumv : Hid (sv.numbered o.kind o.n = sv) := WS.numbered_other (by rw [hkind]; decide)
  obtain ⟨who, kind, nn, kk, b, s⟩ := o
  simp only [] at hkind
  subst hkind
  unfold Stp.val
  simp only []
  go_enter Try.func10, Try.ntmps10
  go_wp2_with fail
  refine NUM.out.mono ?_
  rintro e w1 ⟨rfl, ho⟩
  rw [hnum.out, hnumv.out] at ho
  obtain ⟨S1, R1, B1, A⟩ := After.start h.out so.out hT.out ho
  have c1 : w1.cell? ⟨w.heap.size, 1, none⟩ = some (.int .i64 8) := A.out.cell 1
  have c3 : w1.cell? ⟨w.heap.size, 3, none⟩ = some (.int .i64 kk) := A.out.cell 3
  have h1 : Hid (Two w1 p q S1 R1 st sv) := A.out.play.two
  have ha : Hid (Wr 77 w1 p S1 st) := h1.out.a
  clear ho
  go_wp2_with fail
  refine (Wrt.shut_any _ p S1 st kk ok fit ha).mono ?_
  rintro e w2 ⟨rfl, ho⟩
  obtain ⟨S2, H⟩ := h1.out.half ho
  have hb : Hid (Wr 79 w2 q R1 sv) := H.out.b
  have d3 : w2.cell? ⟨w.heap.size, 3, none⟩ = some (.int .i64 kk) := by
    rw [← c3]; exact World.cell?_of_block (H.out.kept.block _ (World.block_lt_of_cell? w1 _ c3) (fun m => A.out.no _ (List.mem_append_left _ (List.mem_append_left _ m)) rfl))
  clear ho
  go_wp2_with fail
  refine (Vrt.shut_any _ q R1 sv kk okv fitv hb).mono ?_
  rintro e w3 ⟨rfl, ho⟩
  have O := Lib.hid (A.out.out (A.out.play.of_two (H.out.whole ho)))
  clear ho
  go_wp2_with fail
  go_ret
  exact WritesOut.mk rfl O.out (Goes.shut ok.out fit.out _) (Goes.shut okv.out fitv.out _) (by omega) (fun e => ⟨rfl, by rw [e]⟩)

set_option maxHeartbeats 1000000 in
theorem writes_10 (w : World) (p q : Nat) (S R : List Nat) (st sv : WS) (k : Nat) (B : List Nat) (n : Nat) (o : Stp) (bs : List UInt8) (T : List Nat) (hkind : o.kind = 10) (hnn : n ≤ 150000000) (so : Hid (StpOk w o bs T)) (hT : Hid (∀ i ∈ T, i ∉ (S ++ R) ++ B)) (ok : Hid st.Ok) (fit : Hid st.Fit) (okv : Hid sv.Ok) (fitv : Hid sv.Fit) (h : Hid (Play w p q S R st sv k B n)) :
    Calls Try.prog 10 #[.pointer (some ⟨p, 0, none⟩), .pointer (some ⟨q, 0, none⟩), o.val, .pointer (some ⟨k, 0, none⟩)] w (WritesOut w p q S R st sv k B n) := by
  have h0 : Hid (Two (w.alloc (.cells o.cells 43 (0, 0))) p q S R st sv) := h.out.two.kept ((Kept.refl [] _).alloc _) (fun i _ hm => by simp at hm)
  have NUM := Lib.hid (numbers_any (w.alloc (.cells o.cells 43 (0, 0))) p q S R st sv o so.out.n ok okv h0)
  have hnum : Hid (st.numbered o.kind o.n = st) := WS.numbered_other (by rw [hkind]; decide)
  have hnumv : Hid (sv.numbered o.kind o.n = sv) := WS.numbered_other (by rw [hkind]; decide)
  obtain ⟨who, kind, nn, kk, b, s⟩ := o
  simp only [] at hkind
  subst hkind
  unfold Stp.val
  simp only []
  go_enter Try.func10, Try.ntmps10
  go_wp2_with fail
  refine NUM.out.mono ?_
  rintro e w1 ⟨rfl, ho⟩
  rw [hnum.out, hnumv.out] at ho
  obtain ⟨S1, R1, B1, A⟩ := After.start h.out so.out hT.out ho
  have c1 : w1.cell? ⟨w.heap.size, 1, none⟩ = some (.int .i64 10) := A.out.cell 1
  have h1 : Hid (Two w1 p q S1 R1 st sv) := A.out.play.two
  have ha : Hid (Wr 77 w1 p S1 st) := h1.out.a
  clear ho
  go_wp2_with fail
  refine (Wrt.len_any _ p S1 st ha).mono ?_
  rintro e w2 ⟨rfl, rfl⟩
  have hb : Hid (Wr 79 w1 q R1 sv) := h1.out.b
  go_wp2_with fail
  refine (Vrt.len_any _ q R1 sv hb).mono ?_
  rintro e w3 ⟨rfl, rfl⟩
  have O := Lib.hid (A.out.out (A.out.play.same (Kept.refl [] _)))
  go_wp2_with fail
  go_ret
  exact WritesOut.mk rfl O.out (Goes.refl ok.out fit.out) (Goes.refl okv.out fitv.out) (by omega) (fun e => ⟨by simp [e], e⟩)

set_option maxHeartbeats 1000000 in
theorem writes_11 (w : World) (p q : Nat) (S R : List Nat) (st sv : WS) (k : Nat) (B : List Nat) (n : Nat) (o : Stp) (bs : List UInt8) (T : List Nat) (hkind : o.kind = 11) (hnn : n ≤ 150000000) (so : Hid (StpOk w o bs T)) (hT : Hid (∀ i ∈ T, i ∉ (S ++ R) ++ B)) (ok : Hid st.Ok) (fit : Hid st.Fit) (okv : Hid sv.Ok) (fitv : Hid sv.Fit) (h : Hid (Play w p q S R st sv k B n)) :
    Calls Try.prog 10 #[.pointer (some ⟨p, 0, none⟩), .pointer (some ⟨q, 0, none⟩), o.val, .pointer (some ⟨k, 0, none⟩)] w (WritesOut w p q S R st sv k B n) := by
  have h0 : Hid (Two (w.alloc (.cells o.cells 43 (0, 0))) p q S R st sv) := h.out.two.kept ((Kept.refl [] _).alloc _) (fun i _ hm => by simp at hm)
  have NUM := Lib.hid (numbers_any (w.alloc (.cells o.cells 43 (0, 0))) p q S R st sv o so.out.n ok okv h0)
  have hnum : Hid (st.numbered o.kind o.n = st) := WS.numbered_other (by rw [hkind]; decide)
  have hnumv : Hid (sv.numbered o.kind o.n = sv) := WS.numbered_other (by rw [hkind]; decide)
  obtain ⟨who, kind, nn, kk, b, s⟩ := o
  simp only [] at hkind
  subst hkind
  unfold Stp.val
  simp only []
  go_enter Try.func10, Try.ntmps10
  go_wp2_with fail
  refine NUM.out.mono ?_
  rintro e w1 ⟨rfl, ho⟩
  rw [hnum.out, hnumv.out] at ho
  obtain ⟨S1, R1, B1, A⟩ := After.start h.out so.out hT.out ho
  have c1 : w1.cell? ⟨w.heap.size, 1, none⟩ = some (.int .i64 11) := A.out.cell 1
  have h1 : Hid (Two w1 p q S1 R1 st sv) := A.out.play.two
  have ha : Hid (Wr 77 w1 p S1 st) := h1.out.a
  clear ho
  go_wp2_with fail
  have hp1 : Hid (Play w1 p q S1 R1 st sv k B1 n) := A.out.play
  refine (done_any _ p q S1 R1 st sv k B1 n (by omega) ok okv hp1).mono ?_
  rintro e w2 ⟨x, rfl, hx, ho⟩
  have O := Lib.hid (A.out.out ho)
  clear ho
  go_wp2_with fail
  go_ret
  exact WritesOut.mk rfl O.out (Goes.refl ok.out fit.out) (Goes.refl okv.out fitv.out) (by omega) (fun e => ⟨hx e, e⟩)

end Two
end Go.Proofs.Ytfdbpbhihccgbaa
