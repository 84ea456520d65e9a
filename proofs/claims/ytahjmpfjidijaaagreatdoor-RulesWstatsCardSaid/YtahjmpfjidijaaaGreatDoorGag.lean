/- A range over a function whose iterator tells values that it makes on the way: the caller's law. No program's run. users: the iterator over a table's accounts. A strings.Builder told by its cells: WriteString and what it turns. -/
import Derived.RangeFuncFrom
import Derived.OwnWalkIn
import Derived.RangeFuncNested
import Derived.RangeFuncBound
import Derived.RangeFuncCalls
import Derived.RangeFuncLeaves
import Derived.Shelf.Abstract
import Derived.Shelf.RegionOpen
import Derived.TacticsInMore
import Derived.LoopNIn
import Derived.LoopIn
import Derived.Test.YtahjmpfjidijaaaGreatDoorGaa
import Derived.Test.YtahjmpfjidijaaaGreatDoorGab
import Derived.Test.YtahjmpfjidijaaaGreatDoorGae
import Derived.Test.YtahjmpfjidijaaaGreatDoorHShf
section
namespace Go.Proofs.YtahjmpfjidijaaaGreatDoor
set_option linter.unusedVariables false
open Go.RowKit

theorem Kept.putObj {S : List Nat} {a w : World} (h : Kept S a w) {l : Nat} (o : Obj) (hp : l ∈ S ∨ a.heap.size ≤ l) : Kept S a (w.putObj l o) :=
  h.grown (grownBy_putObj' w l o) (fun k e => by cases e; exact hp)

/-- An iterator that reads what lies below B0: it goes through 'all'; E says what it hands over. -/
def IterW {α : Type} (F : Fence) (n : Nat) (P : Program) (g : Nat) (lb : Array Value) (E : World → α → Array Value → Prop) (all : List α) (B0 : Nat) (w0 : World) : Prop :=
  ∀ (l : Nat) (J : List α → World → Prop) (W : World), Kept [] w0 W →
    (∀ s A B, J s A → Kept [] A B → J s B) →
    (∀ pre x args W1, J pre W1 → E W1 x args → pre ++ [x] <+: all → YieldAt F (n - 1) P l args W1 fun e W' => e = .returned (.bool true) ∧ J (pre ++ [x]) W' ∧ ∃ S, Kept S W1 W' ∧ ∀ i ∈ S, B0 ≤ i) →
    J [] W →
    CallsIn F n P g (#[.func (.yield l) #[] #[]] ++ lb) W fun e W' => (∃ v, e = .returned v) ∧ J all W'

/-- How the body of a round is left. -/
def wPost {α : Type} (I : List α → World → Prop) (B0 D : Nat) (xs : List α) (W : World) : Exit → Act → World → Prop
  | .normal, _, W' => (∃ S, Kept S W W' ∧ ∀ i ∈ S, B0 ≤ i ∧ i ≠ D ∧ i ≠ D + 1) ∧ I xs W'
  | _, _, _ => False
/-- No row lies there. -/
def noRow (w : World) (b : Nat) : Prop := ∀ cs t z, w.heap[b]? ≠ some (.cells cs t z)

variable {F : Fence} {n : Nat} {P : Program}

theorem wpIn_rangeFunc_w {α : Type} {g : Operand} {ps : Array Tmp} {assign body : Code} {Q : Exit → Act → World → Prop} {a : Act} {w : World}
    (hro : F.round = none) (h1 : 1 ≤ n) {gf : Nat} {lb : Array Value} (hg : a.eval g = .func (.func gf) #[] lb) (hFg : F.fn gf) (eg : ∀ args w, (callFunc gf args).run P w = .ok (.enter gf args) w)
    {E : World → α → Array Value → Prop} {all : List α} {B0 : Nat} {w0 : World} (hseq : IterW F (n - 1) P gf lb E all B0 w0) (hb0 : Kept [] w0 w) (hB0 : B0 ≤ w.heap.size) (hps : ∀ W x args, E W x args → args.size = ps.size)
    (I : List α → World → Prop) (hI : ∀ s A B, I s A → Kept [w.heap.size, w.heap.size + 1] A B → I s B)
    (h0 : ∀ W', Kept [] w W' → w.heap.size + 2 ≤ W'.heap.size → I [] W') (Ax : Nat → α → Act → World → Prop)
    (hAx : ∀ m x a' A B, Ax m x a' A → Kept [w.heap.size + 1] A B → w.heap.size + 2 ≤ m → Ax m x a' B)
    (hassign : ∀ (l : Nat) (x : α) (args : Array Value) (W : World) (K : Act → World → Prop), w.heap.size + 2 ≤ W.heap.size → noRow W (w.heap.size + 1) → E W x args → (∀ a' W', Kept [] W W' → Ax W.heap.size x a' W' → K a' W') →
      assign.wpIn (F.inRound l) (n - 1 - 1) P (Exit.then K (fun _ _ _ => False)) { tmps := (ps.zip args).foldl (fun t (p, v) => t.setIfInBounds p v) a.tmps, defers := [] } W)
    (hbody : ∀ (l : Nat) (pre : List α) (x : α) (a' : Act) (Wb W : World), w.heap.size + 2 ≤ Wb.heap.size → I pre W → Kept [w.heap.size + 1] Wb W → Ax Wb.heap.size x a' W → pre ++ [x] <+: all → noRow W w.heap.size → noRow W (w.heap.size + 1) → body.wpIn (F.inRound l) (n - 1 - 1) P (wPost I B0 w.heap.size (pre ++ [x]) W) a' W)
    (hdone : ∀ (W : World), I all W → W.heap[w.heap.size]? = some (.deferred (some [])) → Q .normal { a with defers := { target := .collected w.heap.size, args := #[] } :: a.defers } W) :
    (Code.rangeFunc g ps assign body).wpIn F n P Q a w := by
  refine wpIn_rangeFunc ?_
  intro fn hfn
  rw [hro]
  obtain ⟨rec, hrec⟩ : ∃ rec : LoopState → Option Code → Loop, rec = fun st pe => { state := st, pending := pe, fn, tmps := a.tmps, params := ps, assign, body, defers := w.heap.size } := ⟨_, rfl⟩
  obtain ⟨W1, hW1⟩ : ∃ W1, (w.alloc (.deferred (some []))).alloc (.loop (rec .ready none)) = W1 := ⟨_, rfl⟩
  have hL1 : W1.heap[w.heap.size + 1]? = some (.loop (rec .ready none)) := by
    rw [← hW1]; have := World.alloc_heap_new (w.alloc (.deferred (some []))) (.loop (rec .ready none)); rwa [World.size_alloc] at this
  have hK1 : W1.heap[w.heap.size]? = some (.deferred (some [])) := by
    rw [← hW1]; exact (Below.heap_alloc _ _ _ (by simp)).trans (World.alloc_heap_new w _)
  have hkw : Kept [] w W1 := by rw [← hW1]; exact ((Kept.refl [] w).alloc _).alloc _
  have hsz : W1.heap.size = w.heap.size + 2 := by rw [← hW1]; simp
  refine ⟨w.heap.size + 1, [{ target := .collected w.heap.size, args := #[] }], W1, { target := .fn (.func gf) lb, args := #[.func (.yield (w.heap.size + 1)) #[] #[]] }, W1, gf,
    #[.func (.yield (w.heap.size + 1)) #[] #[]] ++ lb, W1, ?_, ?_, ?_, ?_, fun _ => h1, ?_⟩
  · rw [← hW1, hrec]; exact run_enterLoop_outer _ _ _ _ _
  · simp only [resolve, hg]
    simp [go_sem]
  · intro f' hf'; simp [Target.leads] at hf'; subst hf'; exact hFg
  · simp [invoke, go_sem, eg]
  · refine (hseq (w.heap.size + 1)
      (fun pre W => I pre W ∧ W.heap[w.heap.size + 1]? = some (.loop (rec .ready none)) ∧ W.heap[w.heap.size]? = some (.deferred (some [])))
      W1 (hb0.trans hkw (fun i hi => by cases hi)) ?_ ?_ ?_).mono ?_
    · rintro s A B ⟨hi, hl, hk⟩ hkept
      exact ⟨hI _ _ _ hi (hkept.mono (fun i hi => by cases hi)), (hkept.block _ (block_lt hl) (by simp)).trans hl, (hkept.block _ (block_lt hk) (by simp)).trans hk⟩
    · -- ONE ROUND
      rintro pre x args W ⟨hi, hl, hk⟩ hE hpre
      have hlt0 : w.heap.size + 1 < W.heap.size := (Array.getElem?_eq_some_iff.1 hl).1
      have hy := run_yield (P := P) (args := args) hl (by rw [hrec]; exact hps W x args hE)
      rw [hrec] at hy
      refine ⟨fn, _, assign, body, hy, roundIn_of_wpIn hfn (hassign _ x args W _ (by omega) (fun cs t z h => by rw [hl] at h; cases h) hE ?_)⟩
      intro a' W0 hk0 hax
      have hi0 := hI _ _ _ hi (hk0.mono (fun i hi => by cases hi))
      have hl0 := (hk0.block _ (block_lt hl) (by simp)).trans hl
      have hk00 := (hk0.block _ (block_lt hk) (by simp)).trans hk
      refine ⟨_, run_beginRound hl0 (by rw [hrec]), ?_⟩
      have hlt : w.heap.size + 1 < W0.heap.size := (Array.getElem?_eq_some_iff.1 hl0).1
      have hl2 : (W0.putObj (w.heap.size + 1) (.loop { rec .ready none with state := .busy })).heap[w.heap.size + 1]? = some (.loop { rec .ready none with state := .busy }) := World.putObj_heap_same hlt
      have hk2 : (W0.putObj (w.heap.size + 1) (.loop { rec .ready none with state := .busy })).heap[w.heap.size]? = some (.deferred (some [])) := (World.putObj_heap_other (by omega)).trans hk00
      have hw1 : Kept [w.heap.size + 1] W0 (W0.putObj (w.heap.size + 1) (.loop { rec .ready none with state := .busy })) := (Kept.refl _ W0).putObj _ (Or.inl (by simp))
      have hw2 : Kept [w.heap.size + 1] W (W0.putObj (w.heap.size + 1) (.loop { rec .ready none with state := .busy })) := (hk0.mono (T := [w.heap.size + 1]) (fun i hi => by simp at hi)).trans hw1 (fun i hi => Or.inl hi)
      have hi2 := hI _ _ _ hi0 (hw1.mono (T := [w.heap.size, w.heap.size + 1]) (fun i hi => Or.inl (by simp at hi; simp [hi])))
      refine wpIn_mono (hbody _ pre x a' W _ (by omega) hi2 hw2 (hAx _ _ _ _ _ hax hw1 (by omega)) hpre (fun cs t z h => by rw [hk2] at h; cases h) (fun cs t z h => by rw [hl2] at h; cases h)) ?_
      rintro e a3 W3 hp
      cases e with
      | normal =>
        obtain ⟨⟨S, hk3, hS⟩, hi3⟩ := hp
        have d1 : w.heap.size + 1 ∉ S := fun hm => (hS _ hm).2.2 rfl
        have d2 : w.heap.size ∉ S := fun hm => (hS _ hm).2.1 rfl
        have hl3 := (hk3.block _ (block_lt hl2) d1).trans hl2
        have hk3' := (hk3.block _ (block_lt hk2) d2).trans hk2
        have hr := run_endRound (P := P) (none : Option Code) hl3
        have hl4 := World.putObj_heap_same (o := .loop (rec .ready none)) (Array.getElem?_eq_some_iff.1 hl3).1
        have hw4 : Kept [w.heap.size + 1] W3 (W3.putObj (w.heap.size + 1) (.loop (rec .ready none))) := (Kept.refl _ W3).putObj _ (Or.inl (by simp))
        have hi4 := hI _ _ _ hi3 (hw4.mono (T := [w.heap.size, w.heap.size + 1]) (fun i hi => Or.inl (by simp at hi; simp [hi])))
        subst hrec
        refine ⟨_, _, hr, rfl, ⟨hi4, hl4, (World.putObj_heap_other (by omega)).trans hk3'⟩, ?_⟩
        · refine ⟨(w.heap.size + 1) :: S, ?_, ?_⟩
          · have e1 := (hw2.mono (T := (w.heap.size + 1) :: S) (fun i hi => Or.inl (by simp at hi; simp [hi]))).trans hk3 (fun i hi => Or.inl (by simp [hi]))
            have e2 := e1.trans hw4 (fun i hi => Or.inl (by simp at hi; simp [hi]))
            exact e2
          · intro i hi
            rcases List.mem_cons.1 hi with rfl | hi
            · omega
            · exact (hS i hi).1
      | ret => exact hp.elim
      | exit id => exact hp.elim
      | goto t => exact hp.elim
      | panic ch => exact hp.elim
      | outgrown => exact hp.elim
    · exact ⟨h0 W1 hkw (by omega), hL1, hK1⟩
    · -- BEHIND THE ITERATOR
      rintro e W2 ⟨⟨v, rfl⟩, hi, hl, hk⟩
      have hw5 : Kept [w.heap.size + 1] W2 (W2.putObj (w.heap.size + 1) (.loop { rec .ready none with state := .exhausted })) := (Kept.refl _ W2).putObj _ (Or.inl (by simp))
      have hi5 := hI _ _ _ hi (hw5.mono (T := [w.heap.size, w.heap.size + 1]) (fun i hi => Or.inl (by simp at hi; simp [hi])))
      have he := run_endLoop (P := P) hl (by rw [hrec]; simp)
      subst hrec
      exact ⟨none, _, he, hdone _ hi5 ((World.putObj_heap_other (by omega)).trans hk)⟩
end Go.Proofs.YtahjmpfjidijaaaGreatDoor
end
section
namespace Go.Proofs.YtahjmpfjidijaaaGreatDoor
set_option linter.unusedVariables false
open Go.RowKit Go.Shelf
attribute [local go_sem] Oper.semAt_some
namespace Us
open Go.Proofs.YtahjmpfjidijaaaGreatDoor.Utf Go.Proofs.YtahjmpfjidijaaaGreatDoor.Txt Go.PlainAid Go.Proofs.YtahjmpfjidijaaaGreatDoor.Mpf

theorem accounts_any (w : World) (p : Nat) : Calls Tryz.prog 84 #[.pointer (some ⟨p, 0, none⟩)] w fun e w' => e = .returned (.func (.func 129) #[] #[.pointer (some ⟨w.heap.size, 0, none⟩)]) ∧ w' = w.alloc (.cells #[.pointer (some ⟨p, 0, none⟩)] 36) := by
  have hmf : ∀ (fn : Fn) (first cap : Array Value) (w : World), (Instr.makeFunc fn first cap).run Tryz.prog w = .ok (.func fn first cap) w := fun _ _ _ _ => rfl
  go_enter Tryz.func84, Tryz.ntmps84
  go_wp2_with fail
  go_ret
  exact ⟨rfl, rfl⟩
/-- What is handed over for an account. -/
def EA (W : World) (a : Acc) (args : Array Value) : Prop := ∃ v, args = #[accV a.name a.leader a.key v] ∧ Mem W v a.members
section
variable {p : Nat} {sl : Value} {m1 m2 n2 B : Nat} {f : ByteArray × ByteArray → Bool} {L : List (Acc × Value)}
set_option maxHeartbeats 4000000 in
set_option maxRecDepth 100000 in
theorem accounts1_iter (wx w0 : World) (hx0 : Kept [] wx w0) (R : Nat) (hR : w0.heap[R]? = some (.cells #[.pointer (some ⟨p, 0, none⟩)] 36 (0, 0))) (h : TbX wx B p sl m1 m2 n2 f L) (hL : L.length ≤ 1048576) (hms : ∀ x ∈ L, x.1.members.length ≤ 1048576) :
    IterW Fence.wide 3 Tryz.prog 129 #[.pointer (some ⟨R, 0, none⟩)] EA (accs L) wx.heap.size w0 := by
  intro l J W hW hJ hY hS
  have KW := hW
  have hT := h.kept (hx0.trans hW (fun i hi => by cases hi))
  have hWx : Below wx.heap.size wx W := (hx0.trans hW (fun i hi => by cases hi)).below (fun i hi => by cases hi) (Nat.le_refl _)
  obtain ⟨sa, sc, hsl⟩ : ∃ sa sc, sl = .slice sa L.length sc := by
    rcases hT.row.2 with ⟨rfl, h0⟩ | ⟨g, cap, cur, rfl, _⟩
    · exact ⟨none, 0, by rw [h0]⟩
    · exact ⟨_, _, rfl⟩
  subst hsl
  have rc : W.cell? ⟨R, 0, none⟩ = some (.pointer (some ⟨p, 0, none⟩)) := by rw [cell_of_row W R 0 _ _ (0, 0) ((KW.block _ (block_lt hR) (by simp)).trans hR)]; rfl
  have c0 : W.cell? ⟨p, 0, none⟩ = some (.slice sa L.length sc) := by rw [cell_of_row W p 0 _ _ (0, 0) hT.box]; rfl
  have H0 : Hid (TbX wx B p (.slice sa L.length sc) m1 m2 n2 f L) := h
  have HMS := Lib.hid hms
  refine callsIn_of_wp Tryz.func129 rfl trivial ?_ rfl
  simp only [Tryz.ntmps129, List.size_toArray, List.length_cons, List.length_nil, Nat.reduceAdd, Nat.reduceSub, Array.replicate_succ, Array.replicate_zero, List.push_toArray, List.append_toArray, List.nil_append, List.cons_append]
  have HW := Lib.hid hWx
  clear hR h hT KW hms hW hWx hx0
  gi_wp2_with fail
  gi_loopw [10] (fun iv wr => ∃ k : Nat, iv = .int .i64 k ∧ k ≤ L.length ∧ J (accs (L.take k)) wr ∧ Hid (Below wx.heap.size wx wr)) (fun iv _ => L.length - (intOf iv).toNat)
  case atStart => exact ⟨0, rfl, by omega, hS, HW⟩
  case round =>
    obtain ⟨k, rfl, hk, hJk, hB⟩ := hrel
    clear rc c0 HW hS
    by_cases hlt : k < L.length
    · have j1 : (k : Int) < (L.length : Int) := by omega
      have j0 : (0 : Int) ≤ (k : Int) := by omega
      have hT := H0.out.kept (Kept.of_below hB.out [])
      have hrow := hT.row
      rcases hrow.2 with ⟨_, h0⟩ | ⟨g, cap, cur, e, -⟩
      · omega
      cases e
      obtain ⟨f0, f1, f2, f3⟩ := flat_at L k hlt
      have x0 := (World.ownsRow.cellAt hrow (k * 4) (by omega)).trans f0
      have x1 := (World.ownsRow.cellAt hrow (k * 4 + 1) (by omega)).trans f1
      have x2 := (World.ownsRow.cellAt hrow (k * 4 + 2) (by omega)).trans f2
      have x3 := (World.ownsRow.cellAt hrow (k * 4 + 3) (by omega)).trans f3
      have hme := hT.mem L[k] (List.getElem_mem hlt)
      have hml := HMS.out L[k] (List.getElem_mem hlt)
      obtain ⟨va, vc, hv⟩ := hme.slice
      have hpre : accs (L.take k) ++ [L[k].1] <+: accs L := by
        have : accs (L.take k) ++ [L[k].1] = accs (L.take (k + 1)) := by rw [List.take_succ_eq_append_getElem hlt]; unfold accs; rw [List.map_append]; rfl
        rw [this]
        exact (List.take_prefix _ _).map _
      have hnx : Hid (accs (L.take (k + 1)) = accs (L.take k) ++ [L[k].1]) := by show _ = _; rw [List.take_succ_eq_append_getElem hlt]; unfold accs; rw [List.map_append]; rfl
      obtain ⟨⟨⟨an, al, am, ak⟩, av⟩, hx⟩ : ∃ x, x = L[k] := ⟨_, rfl⟩
      rw [← hx] at x0 x1 x2 x3 hv hme hml hpre hnx
      simp only at x0 x1 x2 x3 hv hme hml hpre hnx
      subst hv
      have CP : Hid (∀ w', Kept [] wr w' → Calls Tryz.prog 98 #[.agg #[.string an, .string al, .slice va am.length vc, .string ak]] w' _) := fun w' kw => copied_any w' ⟨an, al, am, ak⟩ (.slice va am.length vc) (hme.kept0 kw) hml
      have ka : Kept [] wr (wr.alloc (.cells #[.string an, .string al, .slice va am.length vc, .string ak] 79)) := (Kept.refl _ _).alloc _
      have HPRE := Lib.hid hpre
      have HY := Lib.hid hY
      have HJ := Lib.hid hJ
      have JK := Lib.hid hJk
      clear hT hrow f0 f1 f2 f3 hme hx hpre hY hJ hJk
      gi_wp2_with fail
      refine ⟨trivial, (callsIn_wide.2 (CP.out _ ka)).mono ?_⟩
      rintro e w2 ⟨v', rfl, m2', k2, -⟩
      have K2 : Hid (Kept [] wr w2) := ka.trans k2 (fun i hi => by cases hi)
      have J2 := HJ.out _ _ _ JK.out K2.out
      obtain ⟨fn, tmps, assign, body, hy, hR⟩ := HY.out _ _ _ w2 J2 ⟨v', rfl, m2'⟩ HPRE.out
      unfold accV at hy ⊢
      simp only at hy ⊢
      have hRh := Lib.hid hR
      clear hR J2
      gi_wp2_with fail
      refine hRh.out.mono ?_
      rintro e W4 ⟨rfl, hJ4, S, k4, hS4⟩
      have B4 : Hid (Below wx.heap.size wx W4) := by
        have hz := hB.out.size
        have b2 : Below wx.heap.size wx w2 := hB.out.trans (K2.out.below (fun i hi => by cases hi) hz)
        exact b2.trans (k4.below hS4 b2.size)
      have J4 : J (accs (L.take (k + 1))) W4 := by rw [hnx.out]; exact hJ4
      clear hy
      gi_wp2_with fail
      go_roundw
      case rel => exact ⟨k + 1, by go_num, by omega, J4, B4⟩
      case measure => simp [intOf]; omega
    · have j1 : ¬ (k : Int) < (L.length : Int) := by omega
      have JF : J (accs L) wr := by have e : L.take k = L := List.take_of_length_le (by omega); rw [e] at hJk; exact hJk
      clear hJk
      gi_wp2_with fail
      go_end0
      exact ⟨⟨_, rfl⟩, JF⟩
end
end Us
end Go.Proofs.YtahjmpfjidijaaaGreatDoor
end
section
namespace Go.Proofs.YtahjmpfjidijaaaGreatDoor
set_option linter.unusedVariables false
open Go.RowKit
namespace Bld
set_option maxHeartbeats 2000000 in
set_option maxRecDepth 100000 in
theorem string_k (B b : Nat) (v : Value) (bs : List Value) (s : ByteArray) (w : World) (h : Bd B b v bs w) (hlen : bs.length + s.size ≤ 140737488355328) (hBw : B ≤ w.heap.size) :
    Calls Tryz.prog 88 #[.pointer (some ⟨b, 0, none⟩), .string s] w fun e w' => e = .returned (.tuple #[.int .i64 s.size, .nilIface]) ∧ ∃ v', Bd B b v' (bs ++ Lib.strCells s) w' ∧ Kept (b :: v.ownBlock.toList) w w' := by
  obtain ⟨i0, hi, hz0, hz1, hz2⟩ := info_parts info5
  have hCK : Hid (Calls Tryz.prog 134 #[.pointer (some ⟨b, 0, none⟩)] w fun e w' => e = .returned (.tuple #[]) ∧ w'.heap[b]? = some (.cells #[.pointer (some ⟨b, 0, none⟩), v] 150 (0, 0)) ∧ Kept [b] w w') := by
    rcases h.at' with x | x
    · have hf : w.frozen? ⟨b, 0, none⟩ = false := Lib.frozen_of_heap x 0
      have hI := h.is
      have hsh : w.shape? b = some (150, 2) := by simp [World.shape?, x]
      refine (check_fresh b w (by rw [Lib.cell_of_heap x]; rfl) hsh hf).mono ?_
      rintro e w' ⟨rfl, rfl⟩
      refine ⟨rfl, ?_, (Kept.refl [b] w).setCell (p := ⟨b, 0, none⟩) (Or.inl (by simp)) _⟩
      have := heap_set (i := 0) (Value.pointer (some ⟨b, 0, none⟩)) x
      simpa using this
    · refine (check_used b w (by rw [Lib.cell_of_heap x]; rfl)).mono ?_
      rintro e w' ⟨rfl, rfl⟩
      exact ⟨rfl, x, Kept.refl _ _⟩
  have HO := Lib.hid h.own
  have hne := h.ne
  have hle := h.le
  clear h
  go_enter Tryz.func88, Tryz.ntmps88
  go_wp2_with fail
  refine hCK.out.mono ?_
  rintro e w1 ⟨rfl, hbk, k1⟩
  have hown : w1.ownsRow B 5 1 v bs.length bs := ownsRow_kept HO.out k1 (fun g hg hm => hne (by simp at hm; rw [hm] at hg; exact hg))
  have c0 : w1.cell? ⟨b, 0, none⟩ = some (.pointer (some ⟨b, 0, none⟩)) := by rw [Lib.cell_of_heap hbk]; rfl
  have c1 : w1.cell? ⟨b, 1, none⟩ = some v := by rw [Lib.cell_of_heap hbk]; rfl
  go_wp2_with (at_builtin; refine Lib.wpList_append_own_string _ rfl _ _ 148 9 rfl B 5 i0 Tryz.underlying148 Tryz.underlying9 hi hz0 hz1 hz2 _ _ _ rfl hown s rfl ?c3 ?c4 ?c5 ?_)
  case c3 => unfold maxLen; omega
  case c4 => omega
  case c5 => have := k1.size; omega
  intro v' w2 hown' hgrow _
  have hlt : b < w1.heap.size := block_lt hbk
  have hb2 : w2.heap[b]? = some (.cells #[.pointer (some ⟨b, 0, none⟩), v] 150 (0, 0)) := by
    rw [hgrow.block b hlt (fun e => hne e.symm)]
    exact hbk
  have k2 : Kept (b :: v.ownBlock.toList) w w2 := (k1.mono (T := b :: v.ownBlock.toList) (fun i hi => Or.inl (by simp at hi; simp [hi]))).grown hgrow (fun k hk => Or.inl (by simp [hk]))
  have d0 : w2.cell? ⟨b, 0, none⟩ = some (.pointer (some ⟨b, 0, none⟩)) := by rw [Lib.cell_of_heap hb2]; rfl
  have d1 : w2.cell? ⟨b, 1, none⟩ = some v := by rw [Lib.cell_of_heap hb2]; rfl
  have f1 : w2.frozen? ⟨b, 1, none⟩ = false := Lib.frozen_of_heap hb2 1
  obtain ⟨ao, n', cap, rfl⟩ : ∃ ao n' cap, v' = .slice ao n' cap := by
    rcases hown'.2 with ⟨hv, _⟩ | ⟨g, cap, cur, hv, _⟩
    · exact ⟨_, _, _, hv⟩
    · exact ⟨_, _, _, hv⟩
  have hn' : (Value.slice ao n' cap).ownBlock ≠ some b := fun hb => by
    rcases hown'.2 with ⟨hv, _⟩ | ⟨g, cap', cur, hv, _, hg, _⟩
    · rw [hv] at hb; cases hb
    · rw [hv] at hb
      have : g = b := by simpa [Value.ownBlock] using hb
      subst this
      rw [hb2] at hg
      cases hg
  go_wp2
  go_ret2
  have k3 : Kept [b] w2 (w2.setCell ⟨b, 1, none⟩ (.slice ao n' cap)) := (Kept.refl [b] w2).setCell (p := ⟨b, 1, none⟩) (Or.inl (by simp)) _
  refine ⟨rfl, .slice ao n' cap, ⟨Or.inr ?_, ?_, hn', hle⟩, k2.trans k3 (fun i hi => Or.inl (by simp at hi; simp [hi]))⟩
  · have := heap_set (i := 1) (Value.slice ao n' cap) hb2
    simpa using this
  · have e : (bs ++ Lib.strCells s).length = bs.length + s.size := by simp [Lib.strCells_length]
    rw [e]
    exact ownsRow_kept hown' k3 (fun g hg hm => hn' (by simp at hm; rw [hm] at hg; exact hg))
open Go.Shelf in
set_option maxHeartbeats 2000000 in
set_option maxRecDepth 100000 in
theorem out_nil (b : Nat) (p : Value) (w : World) (hbk : w.heap[b]? = some (.cells #[p, .slice none 0 0] 150 (0, 0))) :
    Calls Tryz.prog 90 #[.pointer (some ⟨b, 0, none⟩)] w fun e w' => e = .returned (.string ⟨#[]⟩) ∧ Kept [] w w' := by
  have hUS : ∀ (W : World) (q : Option Addr), (Builtin.unsafeString_ #[183, 3] 9 #[.pointer q, .int .i64 0]).run Tryz.prog W = .ok (.string .empty) W := fun W q => Lib.run_unsafeString_none W _ _ _ q
  have c1 : w.drew.cell? ⟨b, 1, none⟩ = some (.slice none 0 0) := by
    have : w.drew.heap[b]? = some (.cells #[p, .slice none 0 0] 150 (0, 0)) := hbk
    rw [Lib.cell_of_heap this]; rfl
  have hSD : (Builtin.unsafeSliceData_ #[148] 183 #[.slice none 0 0]).run Tryz.prog w.drew = .ok (.pointer none) w.drew := rfl
  go_enter Tryz.func90, Tryz.ntmps90
  go_wp2
  go_region
  all_goals (go_wp2; go_ret; exact ⟨rfl, (Kept.refl [] w).drew⟩)
theorem Kept.freeze {S : List Nat} {a w : World} (h : Kept S a w) {p : Addr} (hp : p.block ∈ S ∨ a.heap.size ≤ p.block) (n : Nat) : Kept S a (w.freeze p n) := by
  unfold World.freeze
  split
  · exact h
  · exact ⟨h.os, h.tape, h.output, by simp; exact h.size, fun i hi hn => by
      rw [← h.block i hi hn]
      simp only [Array.getElem?_modify]
      rw [if_neg (fun e => by subst e; rcases hp with q | q; exact hn q; omega)]⟩
theorem cellsByte : Tryz.prog.cellsOf 5 = 1 := by kernel_rfl
set_option maxHeartbeats 2000000 in
set_option maxRecDepth 100000 in
theorem out_some (B b : Nat) (v : Value) (l : List UInt8) (w : World) (h : Bd B b v (Lib.byteCells l) w) (h0 : l ≠ []) :
    Calls Tryz.prog 90 #[.pointer (some ⟨b, 0, none⟩)] w fun e w' => e = .returned (.string ⟨l.toArray⟩) ∧ Kept v.ownBlock.toList w w' := by
  have hown := h.own
  rw [Lib.byteCells_length] at hown
  have hl0 : l.length ≠ 0 := by simpa using h0
  obtain ⟨g, cap, cur, rfl, hbg, hg, hnc, hcm, hcs, htake⟩ : ∃ g cap cur, v = .slice (some ⟨g, 0, none⟩) l.length cap ∧ B ≤ g ∧ w.heap[g]? = some (.cells cur 5 (0, 0)) ∧ l.length ≤ cap ∧ cap ≤ maxLen ∧ cur.size = cap * 1 ∧ cur.toList.take (l.length * 1) = Lib.byteCells l := by
    rcases hown.2 with ⟨_, hz⟩ | ⟨g, cap, cur, hv, r⟩
    · exact absurd hz hl0
    · exact ⟨g, cap, cur, hv, r⟩
  obtain ⟨p, hbk⟩ : ∃ p, w.heap[b]? = some (.cells #[p, .slice (some ⟨g, 0, none⟩) l.length cap] 150 (0, 0)) := by
    rcases h.at' with x | x
    · exact ⟨_, x⟩
    · exact ⟨_, x⟩
  have c1 : w.drew.cell? ⟨b, 1, none⟩ = some (.slice (some ⟨g, 0, none⟩) l.length cap) := by
    have : w.drew.heap[b]? = some (.cells #[p, .slice (some ⟨g, 0, none⟩) l.length cap] 150 (0, 0)) := hbk
    rw [Lib.cell_of_heap this]; rfl
  have hSD : (Builtin.unsafeSliceData_ #[148] 183 #[.slice (some ⟨g, 0, none⟩) l.length cap]).run Tryz.prog w.drew = .ok (.pointer (some ⟨g, 0, none⟩)) w.drew :=
    Lib.run_unsafeSliceData_row _ _ _ _ _ _ (by omega)
  have hUS : (Builtin.unsafeString_ #[183, 3] 9 #[.pointer (some ⟨g, 0, none⟩), .int .i64 l.length]).run Tryz.prog w.drew = .ok (.string ⟨l.toArray⟩) (w.drew.freeze ⟨g, 0, none⟩ l.length) := by
    refine Lib.run_unsafeString_row w.drew 183 3 9 5 Tryz.underlying183 cellsByte g cur.size (by have hg' : w.drew.heap[g]? = some (.cells cur 5 (0, 0)) := hg; simp [World.shape?, hg']) l h0 (by omega) (by unfold maxLen at hcm; omega) ?_
    intro j x hx
    have := hown.cells (g := g) rfl j (.int .u8 x.toNat) (by simp [Lib.byteCells, hx])
    exact this
  clear hown h htake hg hcs
  go_enter Tryz.func90, Tryz.ntmps90
  go_wp2
  go_region
  all_goals (go_wp2; go_ret; exact ⟨rfl, Kept.freeze ((Kept.refl _ w).drew) (p := ⟨g, 0, none⟩) (Or.inl (by simp [Value.ownBlock])) _⟩)
end Bld
end Go.Proofs.YtahjmpfjidijaaaGreatDoor
end
