/- tags: those that are such, rising: a range over the map, an append, the library's sort. -/
import Derived.Test.YtjogpafbiackbaaTgh
import Derived.Test.YtjogpafbiackbaaShf
import Derived.Sort.OwnSortedInts
import Derived.Maps.RangeWalk
namespace Go.Proofs.Ytjogpafbiackbaa
set_option linter.unusedVariables false
open Go.RowKit Go.Shelf
namespace Tg
open Go.Proofs.Ytjogpafbiackbaa.Mpf Go.PlainAid

def iv (n : Nat) : Value := .int .i64 n
theorem own_slice {w : World} {base : Nat} {e : TypeId} {size : Nat} {v : Value} {n : Nat} {xs : List Value} (h : w.ownsRow base e size v n xs) : ∃ a c, v = .slice a n c := by
  rcases h.2 with ⟨rfl, rfl⟩ | ⟨g, cap, cur, rfl, _⟩
  · exact ⟨_, _, rfl⟩
  · exact ⟨_, _, rfl⟩
/-- The ids of all that are such, rising. -/
def TS.sel (T : TS) (pr : Rq → Bool) : List Nat := (List.range (T.last + 1)).filter fun x => match T.R x with | some r => pr r | none => false
def okB (T : TS) (pr : Rq → Bool) (x : Nat) : Bool := match T.R x with | some r => pr r | none => false
theorem okB_some {T : TS} {pr : Rq → Bool} {x : Nat} {r : Rq} (h : T.R x = some r) : okB T pr x = pr r := by unfold okB; rw [h]
theorem sel_eq (T : TS) (pr : Rq → Bool) : T.sel pr = (List.range (T.last + 1)).filter (okB T pr) := rfl
theorem mem_sel {T : TS} {pr : Rq → Bool} {x : Nat} : x ∈ T.sel pr ↔ x ≤ T.last ∧ okB T pr x = true := by
  rw [sel_eq, List.mem_filter, List.mem_range]
  exact and_congr ⟨fun h => by omega, fun h => by omega⟩ Iff.rfl
theorem sel_sorted (T : TS) (pr : Rq → Bool) : (T.sel pr).Pairwise (· < ·) := List.pairwise_lt_range.filter _
theorem sel_nodup (T : TS) (pr : Rq → Bool) : (T.sel pr).Nodup := (sel_sorted T pr).imp (fun h => by omega)
/-- What was collected, sorted, is that. -/
theorem sorted_sel {T : TS} {pr : Rq → Bool} {done : List Nat} (hn : done.Nodup) (hd : ∀ x ∈ done, x ≤ T.last ∧ (T.R x).isSome = true) (hall : ∀ x, (T.R x).isSome = true → x ≤ T.last → x ∈ done) :
    ((done.filter (okB T pr)).map (fun n : Nat => (n : Int))).mergeSort (fun x y => decide (x ≤ y)) = (T.sel pr).map (fun n : Nat => (n : Int)) := by
  have hs := List.pairwise_mergeSort (le := fun x y : Int => decide (x ≤ y)) (fun a b c h1 h2 => by simp only [decide_eq_true_eq] at *; omega) (fun a b => by simp only [Bool.or_eq_true, decide_eq_true_eq]; omega) ((done.filter (okB T pr)).map (fun n : Nat => (n : Int)))
  have hp : ((done.filter (okB T pr)).map (fun n : Nat => (n : Int))).Perm ((T.sel pr).map (fun n : Nat => (n : Int))) := by
    refine List.Perm.map _ ?_
    rw [List.perm_ext_iff_of_nodup (hn.sublist List.filter_sublist) (sel_nodup T pr)]
    intro a
    rw [mem_sel, List.mem_filter]
    refine ⟨fun h => ⟨(hd a h.1).1, h.2⟩, fun h => ⟨hall a ?_ h.1, h.2⟩⟩
    have := h.2
    unfold okB at this
    cases q : T.R a with
    | none => rw [q] at this; cases this
    | some r => rfl
  refine List.Perm.eq_of_pairwise (le := fun x y : Int => x ≤ y) (fun a b _ _ h1 h2 => by omega) (hs.imp (fun h => by simpa using h)) ?_ ((List.mergeSort_perm _ _).trans hp)
  rw [List.pairwise_map]
  exact (sel_sorted T pr).imp (fun h => by omega)
theorem sort_ints {W : World} {base : Nat} {v : Value} {zs : List Int} (ho : W.ownsRow base 3 1 v zs.length (zs.map (Value.int .i64))) (hl : zs.length ≤ 65537) :
    Calls Try.prog 44 #[v] W fun e w' => e = .returned (.tuple #[]) ∧ w'.ownsRow base 3 1 v zs.length ((zs.mergeSort fun x y => decide (x ≤ y)).map (Value.int .i64)) ∧ Kept v.ownBlock.toList W w' := by
  rcases ho.2 with ⟨rfl, h0⟩ | ⟨g, cap, cur, rfl, hbase, hb, h1, h2, h3, h4⟩
  · refine (Try.slices_Sort_int_none none 0 W).mono ?_
    rintro e w' ⟨rfl, rfl⟩
    obtain rfl : zs = [] := List.eq_nil_of_length_eq_zero h0
    exact ⟨rfl, by simpa using ho, Kept.refl _ _⟩
  · have hg : g < W.heap.size := (Array.getElem?_eq_some_iff.1 hb).1
    have H := Try.slices_Sort_int g 0 cap zs W (holds_of_blockI hb (by simpa using h4)) hg (by omega)
    refine H.mono ?_
    rintro e w' ⟨rfl, n, os, rfl⟩
    have R := ownsRow_sortedI (n := n) (os := os) (ss := zs) (ts := zs.mergeSort (fun x y => decide (x ≤ y))) (e := 3) (List.length_mergeSort _) hbase hb h1 h2 h3
    exact ⟨rfl, R, (Kept.refl _ _).grown (grownBy_sortedI _) (fun k e => Or.inl (by cases e; simp [Value.ownBlock]))⟩
theorem info_int : (Try.prog.info? 3).map (fun i => (i.zero, i.size, i.bytes)) = some (some (.int .i64 0), 1, 8) := by kernel_rfl
theorem int_parts : ∃ i0, Try.prog.info? 3 = some i0 ∧ i0.zero = some (.int .i64 0) ∧ i0.size = 1 ∧ i0.bytes = 8 := by
  have h := info_int
  cases hi : Try.prog.info? 3 with
  | none => rw [hi] at h; cases h
  | some i => rw [hi] at h; simp at h; exact ⟨i, rfl, h.1, h.2.1, h.2.2⟩
section
variable {Ba : Nat} {w : World} {p rm gm : Nat} {s : Value} {nR : Nat} {T : TS}
/-- What was collected so far. -/
def zs (T : TS) (pr : Rq → Bool) (done : List Nat) : List Int := (done.filter (okB T pr)).map (fun n : Nat => (n : Int))
structure ThI (w wr : World) (rm r nR : Nat) (T : TS) (pr : Rq → Bool) (v : Value) (done : List Nat) : Prop where
  rg : Rg IK wr rm r nR (fun x => (T.R x).map Rq.V) done
  own : wr.ownsRow w.heap.size 3 1 v (zs T pr done).length ((zs T pr done).map (Value.int .i64))
  kept : Kept [] w wr
  new : w.heap.size ≤ r
  old : rm < w.heap.size
  oth : ∀ g, v.ownBlock = some g → g ≠ r
theorem zs_yes {T : TS} {pr : Rq → Bool} {done : List Nat} {x : Nat} (h : okB T pr x = true) : zs T pr (done ++ [x]) = zs T pr done ++ [(x : Int)] := by simp [zs, List.filter_append, h]
theorem zs_no {T : TS} {pr : Rq → Bool} {done : List Nat} {x : Nat} (h : okB T pr x = false) : zs T pr (done ++ [x]) = zs T pr done := by simp [zs, List.filter_append, h]
theorem done_le {T : TS} {wr : World} {rm r nR : Nat} {done : List Nat} (hdom : ∀ id q, T.R id = some q → id ≤ T.last) (h : Rg IK wr rm r nR (fun x => (T.R x).map Rq.V) done) : done.Nodup ∧ (∀ x ∈ done, x ≤ T.last ∧ (T.R x).isSome = true) ∧ done.length ≤ T.last + 1 := by
  obtain ⟨es, clock, since, seen, c0, hb, hs, A, hst, hr, h1, h2, h3, h4, h5, h6⟩ := h
  have h7 : ∀ x ∈ done, x ≤ T.last ∧ (T.R x).isSome = true := fun x hx => by
    have := (h5 x hx).2
    rw [isSome_map] at this
    obtain ⟨q, hq⟩ := Option.isSome_iff_exists.1 this
    exact ⟨hdom x q hq, this⟩
  refine ⟨h6, h7, ?_⟩
  have := h6.length_le_of_subset (l₂ := List.range (T.last + 1)) (fun x hx => List.mem_range.2 (by have := (h7 x hx).1; omega))
  simpa using this
theorem zs_le (T : TS) (pr : Rq → Bool) (done : List Nat) : (zs T pr done).length ≤ done.length := by unfold zs; rw [List.length_map]; exact List.length_filter_le _ _
theorem ownsRow_kept {S : List Nat} {w w' : World} {base : Nat} {e : TypeId} {size : Nat} {v : Value} {n : Nat} {xs : List Value} (h : w.ownsRow base e size v n xs) (k : Kept S w w') (hs : ∀ g, v.ownBlock = some g → g ∉ S) : w'.ownsRow base e size v n xs := by
  refine ⟨h.1, ?_⟩
  rcases h.2 with h0 | ⟨g, cap, cur, rfl, hbase, hb, r⟩
  · exact Or.inl h0
  · exact Or.inr ⟨g, cap, cur, rfl, hbase, (k.block g (block_lt hb) (hs g rfl)).trans hb, r⟩
theorem own_base {w : World} {base : Nat} {e : TypeId} {size : Nat} {v : Value} {n : Nat} {xs : List Value} (h : w.ownsRow base e size v n xs) : ∀ g, v.ownBlock = some g → base ≤ g ∧ g < w.heap.size := fun g hg => by
  rcases h.2 with ⟨rfl, -⟩ | ⟨g', cap, cur, rfl, hbase, hb, r⟩
  · simp [Value.ownBlock] at hg
  · simp [Value.ownBlock] at hg
    subst hg
    exact ⟨hbase, block_lt hb⟩
theorem ThI.no {w wr w2 w4 : World} {rm r nR : Nat} {pr : Rq → Bool} {v : Value} {done : List Nat} {x : Nat} (h : ThI w wr rm r nR T pr v done) (rg2 : Rg IK w2 rm r nR (fun x => (T.R x).map Rq.V) (done ++ [x])) (lt2 : leftN w2 rm r < leftN wr rm r) (k2 : Kept [r] wr w2) (k4 : Kept [] w2 w4) (hx : okB T pr x = false) :
    ThI w w4 rm r nR T pr v (done ++ [x]) ∧ leftN w4 rm r < leftN wr rm r := by
  have hr := h.new
  refine ⟨⟨rg2.kept k4 (by simp) (by simp), ?_, (h.kept.trans k2 (fun i hi => Or.inr (by simp at hi; omega))).trans k4 (fun i hi => by cases hi), h.new, h.old, h.oth⟩, by rw [leftN_kept k4 (by simp) (by simp) rg2.map.lt rg2.lt]; exact lt2⟩
  rw [zs_no hx]
  exact ownsRow_kept (ownsRow_kept h.own k2 (fun g hg => by simpa using h.oth g hg)) k4 (fun g hg => by simp)
theorem ThI.own2 {w wr w2 w3 : World} {rm r nR : Nat} {pr : Rq → Bool} {v : Value} {done : List Nat} (h : ThI w wr rm r nR T pr v done) (k2 : Kept [r] wr w2) (k3 : Kept [] w2 w3) : w3.ownsRow w.heap.size 3 1 v (zs T pr done).length ((zs T pr done).map (Value.int .i64)) ∧ Kept [] w w3 := by
  have hr := h.new
  exact ⟨ownsRow_kept (ownsRow_kept h.own k2 (fun g hg => by simpa using h.oth g hg)) k3 (fun g hg => by simp), (h.kept.trans k2 (fun i hi => Or.inr (by simp at hi; omega))).trans k3 (fun i hi => by cases hi)⟩
theorem ThI.yes {w wr w2 w3 w4 : World} {rm r nR : Nat} {pr : Rq → Bool} {v v2 : Value} {done : List Nat} {x L : Nat} (h : ThI w wr rm r nR T pr v done) (rg2 : Rg IK w2 rm r nR (fun x => (T.R x).map Rq.V) (done ++ [x])) (lt2 : leftN w2 rm r < leftN wr rm r) (k2 : Kept [r] wr w2) (k3 : Kept [] w2 w3) (hx : okB T pr x = true)
    (hL : L = (zs T pr done).length) (ho : w4.ownsRow w.heap.size 3 1 v2 (L + 1) ((zs T pr done).map (Value.int .i64) ++ [.int .i64 x])) (hg : w3.grownBy w4 v.ownBlock) (hat : v2.ownBlock = v.ownBlock ∨ v2.ownBlock = some w3.heap.size) :
    ThI w w4 rm r nR T pr v2 (done ++ [x]) ∧ leftN w4 rm r < leftN wr rm r := by
  have hr := h.new
  have hold := h.old
  have o3 := (h.own2 k2 k3).1
  have rg3 := rg2.kept k3 (by simp) (by simp)
  have k4 : Kept v.ownBlock.toList w3 w4 := (Kept.refl _ _).grown hg (fun k e => Or.inl (by rw [e]; simp))
  have nrm : rm ∉ v.ownBlock.toList := fun hm => by
    cases q : v.ownBlock with
    | none => rw [q] at hm; simp at hm
    | some g => rw [q] at hm; simp at hm; have := (own_base o3 g q).1; omega
  have nr : r ∉ v.ownBlock.toList := fun hm => by
    cases q : v.ownBlock with
    | none => rw [q] at hm; simp at hm
    | some g => rw [q] at hm; simp at hm; exact h.oth g q hm.symm
  refine ⟨⟨rg3.kept k4 nrm nr, ?_, ((h.own2 k2 k3).2).trans k4 (fun i hi => Or.inr ?_), h.new, h.old, fun g hg' => ?_⟩, ?_⟩
  · rw [zs_yes hx]
    have e1 : (zs T pr done ++ [(x : Int)]).length = L + 1 := by simp [hL]
    rw [e1, List.map_append]
    exact ho
  · cases q : v.ownBlock with
    | none => rw [q] at hi; simp at hi
    | some g => rw [q] at hi; simp at hi; have := (own_base o3 g q).1; omega
  · rcases hat with q | q
    · exact h.oth g (q ▸ hg')
    · rw [q] at hg'
      cases hg'
      have := rg3.lt
      omega
  · rw [leftN_kept k4 nrm nr rg3.map.lt rg3.lt, leftN_kept k3 (by simp) (by simp) rg2.map.lt rg2.lt]
    exact lt2

theorem wait_such {w : World} {B id : Nat} (hB : Bx w B 3 #[.int .i64 id]) (a b c : Nat) : Calls Try.prog 46 #[.agg #[.int .u16 a, .int .u8 b, .int .i64 c], .pointer (some ⟨B, 0, none⟩)] w fun e w' => e = .returned (.bool (decide (b = 5) && decide (c = id))) ∧ Kept [] w w' := by
  have c0 := (hB.alloc (.cells #[.int .u16 a, .int .u8 b, .int .i64 c] 80)).cell 0 (v := .int .i64 id) rfl
  have KA : Hid (Kept [] w (w.alloc (.cells #[.int .u16 a, .int .u8 b, .int .i64 c] 80))) := (Kept.refl _ _).alloc _
  clear hB
  by_cases q5 : b = 5
  · subst q5
    have KA2 : Hid (Kept [] w (w.alloc (.cells #[.int .u16 a, .int .u8 5, .int .i64 c] 80))) := KA
    have c02 : (w.alloc (.cells #[.int .u16 a, .int .u8 5, .int .i64 c] 80)).cell? ⟨B, 0, none⟩ = some (.int .i64 id) := c0
    clear KA c0
    show Calls Try.prog 46 #[.agg #[.int .u16 a, .int .u8 5, .int .i64 c], .pointer (some ⟨B, 0, none⟩)] w fun e w' => e = .returned (.bool (decide (5 = 5) && decide (c = id))) ∧ Kept [] w w'
    by_cases q : c = id
    · subst q
      go_enter Try.func46, Try.ntmps46
      go_wp2_with fail
      go_ret
      exact ⟨by simp, KA2.out⟩
    · have d : ((c : Int) == (id : Int)) = false := by simp; omega
      have d' : ¬ (c : Int) = (id : Int) := by omega
      have e1 : decide (c = id) = false := decide_eq_false q
      clear q
      go_enter Try.func46, Try.ntmps46
      go_wp2_with fail
      go_ret
      exact ⟨by simp [e1], KA2.out⟩
  · have d : ((b : Int) == 5) = false := by simp; omega
    have d' : ¬ (b : Int) = 5 := by omega
    have e1 : decide (b = 5) = false := decide_eq_false q5
    clear q5
    go_enter Try.func46, Try.ntmps46
    go_wp2_with fail
    go_ret
    exact ⟨by simp [e1], KA.out⟩
theorem open_such (w : World) (a b c : Nat) : Calls Try.prog 27 #[.agg #[.int .u16 a, .int .u8 b, .int .i64 c]] w fun e w' => e = .returned (.bool (decide (b = 1))) ∧ Kept [] w w' := by
  have KA : Hid (Kept [] w (w.alloc (.cells #[.int .u16 a, .int .u8 b, .int .i64 c] 80))) := (Kept.refl _ _).alloc _
  by_cases q5 : b = 1
  · subst q5
    have KA2 : Hid (Kept [] w (w.alloc (.cells #[.int .u16 a, .int .u8 1, .int .i64 c] 80))) := KA
    clear KA
    show Calls Try.prog 27 #[.agg #[.int .u16 a, .int .u8 1, .int .i64 c]] w fun e w' => e = .returned (.bool (decide (1 = 1))) ∧ Kept [] w w'
    go_enter Try.func27, Try.ntmps27
    go_wp2_with fail
    go_ret
    exact ⟨by simp, KA2.out⟩
  · have d : ((b : Int) == 1) = false := by simp; omega
    have d' : ¬ (b : Int) = 1 := by omega
    have e1 : decide (b = 1) = false := decide_eq_false q5
    clear q5
    go_enter Try.func27, Try.ntmps27
    go_wp2_with fail
    go_ret
    exact ⟨by simp [e1], KA.out⟩

set_option maxHeartbeats 8000000 in
set_option maxRecDepth 100000 in
theorem those_wait (h : TB Ba w p T) (hdom : ∀ id q, T.R id = some q → id ≤ T.last) (hlast : T.last ≤ 2000) {B id : Nat} (hB : Bx w B 3 #[.int .i64 id]) :
    Calls Try.prog 26 #[.pointer (some ⟨p, 0, none⟩), .func (.func 46) #[] #[.pointer (some ⟨B, 0, none⟩)]] w fun e w' => ∃ v, e = .returned v ∧ w'.ownsRow w.heap.size 3 1 v (T.sel fun r : Rq => decide (r.st = 5) && decide (r.fo = id)).length ((T.sel fun r : Rq => decide (r.st = 5) && decide (r.fo = id)).map iv) ∧ Kept [] w w' := by
  obtain ⟨pr, hpr⟩ : ∃ pr, pr = fun r : Rq => decide (r.st = 5) && decide (r.fo = id) := ⟨_, rfl⟩
  have SU : Hid (∀ w' (r : Rq), Kept [] w w' → Calls Try.prog 46 #[.agg #[.int .u16 r.tag, .int .u8 r.st, .int .i64 r.fo], .pointer (some ⟨B, 0, none⟩)] w' fun e w'' => e = .returned (.bool (pr r)) ∧ Kept [] w' w'') := by rw [hpr]; exact fun w' r k => wait_such (hB.kept k (by simp)) r.tag r.st r.fo
  rw [← hpr]
  have HPR := Lib.hid hpr
  clear hpr
  obtain ⟨rm, gm, s, nR, h⟩ := h
  obtain ⟨i0, hi, hz0, hz1, hz2⟩ := int_parts
  have hL := Lib.hid hlast
  have HD := Lib.hid hdom
  have HM := Lib.hid h.rmap
  have c2 := h.box.cell 2 (v := .map (some rm)) rfl
  have LR : Hid (rm < w.heap.size) := h.rmap.lt
  clear h hdom hlast
  go_enter Try.func26, Try.ntmps26
  go_wp2_with (at_range; refine wpList_rg w IK rfl (.tmp 11) 74 rfl 80 Try.underlying74 HM.out rfl ?_; intro w1 rg1 k1 z1)
  have TI0 : Hid (ThI w w1 rm w.heap.size nR T pr (.slice none 0 0) []) := ⟨rg1, World.ownsRow_nil _ _ _ _, k1, Nat.le_refl _, LR.out, fun g hg => by simp [Value.ownBlock] at hg⟩
  obtain ⟨R, hR⟩ : ∃ R, R = w.heap.size := ⟨_, rfl⟩
  rw [← hR] at TI0 ⊢
  have HRw : Hid (R = w.heap.size) := hR
  clear rg1 k1 z1 hR
  go_frame
  go_loopw [5] (fun v wr => ∃ done, Hid (ThI w wr rm R nR T pr v done)) (fun _ wr => leftN wr rm R)
  case atStart => exact ⟨[], TI0⟩
  case round =>
    obtain ⟨done, TI⟩ := hrel
    obtain ⟨a5, c5, hv⟩ := own_slice TI.out.own
    subst hv
    obtain ⟨L, hLn⟩ : ∃ L, L = (zs T pr done).length := ⟨_, rfl⟩
    have HLn := Lib.hid hLn
    rw [← hLn] at TI ⊢
    clear hLn
    go_wp2_with (at_next; refine wpList_rgnext wr IK rfl (.tmp 12) rfl rfl TI.out.rg ?_ ?_)
    · intro hall
      have DN := done_le HD.out TI.out.rg
      have SS := sorted_sel (pr := pr) DN.1 DN.2.1 (fun x hx hl => hall x hx (by show x < 9223372036854775808; have := hL.out; omega))
      have ZL := zs_le T pr done
      have LL : Hid (L ≤ 2001) := by have := hL.out; have := DN.2.2; rw [HLn.out]; show _ ≤ _; omega
      have OW := TI.out.own
      have SO := Lib.hid (sort_ints OW (by have := hL.out; have := DN.2.2; omega))
      have HSS : Hid ((zs T pr done).mergeSort (fun x y => decide (x ≤ y)) = (T.sel pr).map (fun n : Nat => (n : Int))) := SS
      have OB : Hid (∀ g, (Value.slice a5 L c5).ownBlock = some g → w.heap.size ≤ g) := fun g' hg' => (own_base OW g' hg').1
      clear OW SS ZL DN hall
      go_wp2_with (go_at_call 44; refine SO.out.mono ?_; rintro e w3 ⟨rfl, o3, k3⟩)
      go_ret
      have EL : (zs T pr done).length = (T.sel pr).length := by
        have := congrArg List.length HSS.out
        rw [List.length_mergeSort, List.length_map] at this
        exact this
      refine ⟨_, rfl, ?_, TI.out.kept.trans k3 (fun i hi => Or.inr ?_)⟩
      · rw [HSS.out, List.map_map, EL] at o3
        exact o3
      · cases q : (Value.slice a5 L c5).ownBlock with
        | none => rw [q] at hi; simp at hi
        | some g' => rw [q] at hi; simp at hi; subst hi; exact OB.out _ q
    · intro x v w2 hx q hq hqv hnx rg2 lt2 k2 z2 hen
      subst hqv
      have DN := done_le HD.out TI.out.rg
      have ZL := zs_le T pr done
      have LL : Hid (L ≤ 2001) := by have := hL.out; have := DN.2.2; rw [HLn.out]; show _ ≤ _; omega
      have HQ := Lib.hid (okB_some (pr := pr) hq)
      have hen2 : (Instr.entry (.pointer (some ⟨R, 0, none⟩))).run Try.prog w2 = .ok (.tuple #[.int .i64 x, .agg #[.int .u16 q.tag, .int .u8 q.st, .int .i64 q.fo]]) w2 := hen
      obtain ⟨qt, hqt⟩ : ∃ y, y = q.tag := ⟨_, rfl⟩
      obtain ⟨qs, hqs⟩ : ∃ y, y = q.st := ⟨_, rfl⟩
      obtain ⟨qf, hqf⟩ : ∃ y, y = q.fo := ⟨_, rfl⟩
      have SU2 := Lib.hid (fun w' k => SU.out w' q k)
      rw [← hqt, ← hqs, ← hqf] at hen2 SU2
      have RG := Lib.hid rg2
      have LT := Lib.hid lt2
      have K2 := Lib.hid k2
      have KW : Hid (Kept [] w (w2.alloc (.cells #[.int .u16 qt, .int .u8 qs, .int .i64 qf] 80))) := ((TI.out.own2 k2 (Kept.refl [] w2)).2).alloc _
      have KA : Hid (Kept [] w2 (w2.alloc (.cells #[.int .u16 qt, .int .u8 qs, .int .i64 qf] 80))) := (Kept.refl _ _).alloc _
      clear hqt hqs hqf hq hnx hx hen rg2 lt2 k2 z2 DN ZL
      cases hb : pr q with
      | false =>
        rw [hb] at SU2 HQ
        clear hb
        go_wp2_with (go_at_call 46; refine (SU2.out _ KW.out).mono ?_; rintro e w3 ⟨rfl, k3⟩)
        have FIN := TI.out.no RG.out LT.out K2.out (KA.out.trans k3 (fun i hi => by cases hi)) HQ.out
        go_roundw
        case rel => exact ⟨_, FIN.1⟩
        case measure => exact FIN.2
      | true =>
        rw [hb] at SU2 HQ
        clear hb
        go_wp2_with (first | (go_at_call 46; refine (SU2.out _ KW.out).mono ?_; rintro e w3 ⟨rfl, k3⟩; have K3 : Hid (Kept [] w2 (w3.alloc (.cells #[.int .i64 x] 3))) := (KA.out.trans k3 (fun i hi => by cases hi)).alloc _; obtain ⟨o3, kw3⟩ := TI.out.own2 K2.out K3.out; rw [← HLn.out] at o3; have O3 := Lib.hid o3; have KW3 := Lib.hid kw3; clear o3 kw3 k3) | (at_builtin; refine wpList_append_src (w3.alloc (.cells #[.int .i64 x] 3)) rfl (.tmp 21) (.tmp 23) 31 rfl w.heap.size 3 i0 (.int .i64 0) 1 8 Try.underlying31 hi hz0 hz1 hz2 rfl (by decide) (.slice a5 L c5) L _ rfl O3.out (.slice (some ⟨w3.heap.size, 0, none⟩) 1 1) 1 [.int .i64 x] rfl (Or.inr ⟨_, _, rfl, World.news_of_block (cs := #[.int .i64 x]) (by exact heap_alloc_new w3 _)⟩) rfl (by intro u hu; simp at hu; subst hu; rfl) (by have := LL.out; unfold maxLen; omega) (by have := LL.out; omega) (by have := KW3.out.size; exact this) ?_; intro v4 w4 hown hgrow hat; have FIN := Lib.hid (TI.out.yes RG.out LT.out K2.out K3.out HQ.out HLn.out hown hgrow hat); clear hown hgrow hat))
        go_roundw
        case rel => exact ⟨_, FIN.out.1⟩
        case measure => exact FIN.out.2

set_option maxHeartbeats 8000000 in
set_option maxRecDepth 100000 in
theorem those_open (h : TB Ba w p T) (hdom : ∀ id q, T.R id = some q → id ≤ T.last) (hlast : T.last ≤ 2000) :
    Calls Try.prog 26 #[.pointer (some ⟨p, 0, none⟩), .func (.func 27) #[] #[]] w fun e w' => ∃ v, e = .returned v ∧ w'.ownsRow w.heap.size 3 1 v (T.sel fun r : Rq => decide (r.st = 1)).length ((T.sel fun r : Rq => decide (r.st = 1)).map iv) ∧ Kept [] w w' := by
  obtain ⟨pr, hpr⟩ : ∃ pr, pr = fun r : Rq => decide (r.st = 1) := ⟨_, rfl⟩
  have SU : Hid (∀ w' (r : Rq), Kept [] w w' → Calls Try.prog 27 #[.agg #[.int .u16 r.tag, .int .u8 r.st, .int .i64 r.fo]] w' fun e w'' => e = .returned (.bool (pr r)) ∧ Kept [] w' w'') := by rw [hpr]; exact fun w' r k => open_such w' r.tag r.st r.fo
  rw [← hpr]
  have HPR := Lib.hid hpr
  clear hpr
  obtain ⟨rm, gm, s, nR, h⟩ := h
  obtain ⟨i0, hi, hz0, hz1, hz2⟩ := int_parts
  have hL := Lib.hid hlast
  have HD := Lib.hid hdom
  have HM := Lib.hid h.rmap
  have c2 := h.box.cell 2 (v := .map (some rm)) rfl
  have LR : Hid (rm < w.heap.size) := h.rmap.lt
  clear h hdom hlast
  go_enter Try.func26, Try.ntmps26
  go_wp2_with (at_range; refine wpList_rg w IK rfl (.tmp 11) 74 rfl 80 Try.underlying74 HM.out rfl ?_; intro w1 rg1 k1 z1)
  have TI0 : Hid (ThI w w1 rm w.heap.size nR T pr (.slice none 0 0) []) := ⟨rg1, World.ownsRow_nil _ _ _ _, k1, Nat.le_refl _, LR.out, fun g hg => by simp [Value.ownBlock] at hg⟩
  obtain ⟨R, hR⟩ : ∃ R, R = w.heap.size := ⟨_, rfl⟩
  rw [← hR] at TI0 ⊢
  have HRw : Hid (R = w.heap.size) := hR
  clear rg1 k1 z1 hR
  go_frame
  go_loopw [5] (fun v wr => ∃ done, Hid (ThI w wr rm R nR T pr v done)) (fun _ wr => leftN wr rm R)
  case atStart => exact ⟨[], TI0⟩
  case round =>
    obtain ⟨done, TI⟩ := hrel
    obtain ⟨a5, c5, hv⟩ := own_slice TI.out.own
    subst hv
    obtain ⟨L, hLn⟩ : ∃ L, L = (zs T pr done).length := ⟨_, rfl⟩
    have HLn := Lib.hid hLn
    rw [← hLn] at TI ⊢
    clear hLn
    go_wp2_with (at_next; refine wpList_rgnext wr IK rfl (.tmp 12) rfl rfl TI.out.rg ?_ ?_)
    · intro hall
      have DN := done_le HD.out TI.out.rg
      have SS := sorted_sel (pr := pr) DN.1 DN.2.1 (fun x hx hl => hall x hx (by show x < 9223372036854775808; have := hL.out; omega))
      have ZL := zs_le T pr done
      have LL : Hid (L ≤ 2001) := by have := hL.out; have := DN.2.2; rw [HLn.out]; show _ ≤ _; omega
      have OW := TI.out.own
      have SO := Lib.hid (sort_ints OW (by have := hL.out; have := DN.2.2; omega))
      have HSS : Hid ((zs T pr done).mergeSort (fun x y => decide (x ≤ y)) = (T.sel pr).map (fun n : Nat => (n : Int))) := SS
      have OB : Hid (∀ g, (Value.slice a5 L c5).ownBlock = some g → w.heap.size ≤ g) := fun g' hg' => (own_base OW g' hg').1
      clear OW SS ZL DN hall
      go_wp2_with (go_at_call 44; refine SO.out.mono ?_; rintro e w3 ⟨rfl, o3, k3⟩)
      go_ret
      have EL : (zs T pr done).length = (T.sel pr).length := by
        have := congrArg List.length HSS.out
        rw [List.length_mergeSort, List.length_map] at this
        exact this
      refine ⟨_, rfl, ?_, TI.out.kept.trans k3 (fun i hi => Or.inr ?_)⟩
      · rw [HSS.out, List.map_map, EL] at o3
        exact o3
      · cases q : (Value.slice a5 L c5).ownBlock with
        | none => rw [q] at hi; simp at hi
        | some g' => rw [q] at hi; simp at hi; subst hi; exact OB.out _ q
    · intro x v w2 hx q hq hqv hnx rg2 lt2 k2 z2 hen
      subst hqv
      have DN := done_le HD.out TI.out.rg
      have ZL := zs_le T pr done
      have LL : Hid (L ≤ 2001) := by have := hL.out; have := DN.2.2; rw [HLn.out]; show _ ≤ _; omega
      have HQ := Lib.hid (okB_some (pr := pr) hq)
      have hen2 : (Instr.entry (.pointer (some ⟨R, 0, none⟩))).run Try.prog w2 = .ok (.tuple #[.int .i64 x, .agg #[.int .u16 q.tag, .int .u8 q.st, .int .i64 q.fo]]) w2 := hen
      obtain ⟨qt, hqt⟩ : ∃ y, y = q.tag := ⟨_, rfl⟩
      obtain ⟨qs, hqs⟩ : ∃ y, y = q.st := ⟨_, rfl⟩
      obtain ⟨qf, hqf⟩ : ∃ y, y = q.fo := ⟨_, rfl⟩
      have SU2 := Lib.hid (fun w' k => SU.out w' q k)
      rw [← hqt, ← hqs, ← hqf] at hen2 SU2
      have RG := Lib.hid rg2
      have LT := Lib.hid lt2
      have K2 := Lib.hid k2
      have KW : Hid (Kept [] w (w2.alloc (.cells #[.int .u16 qt, .int .u8 qs, .int .i64 qf] 80))) := ((TI.out.own2 k2 (Kept.refl [] w2)).2).alloc _
      have KA : Hid (Kept [] w2 (w2.alloc (.cells #[.int .u16 qt, .int .u8 qs, .int .i64 qf] 80))) := (Kept.refl _ _).alloc _
      clear hqt hqs hqf hq hnx hx hen rg2 lt2 k2 z2 DN ZL
      cases hb : pr q with
      | false =>
        rw [hb] at SU2 HQ
        clear hb
        go_wp2_with (go_at_call 27; refine (SU2.out _ KW.out).mono ?_; rintro e w3 ⟨rfl, k3⟩)
        have FIN := TI.out.no RG.out LT.out K2.out (KA.out.trans k3 (fun i hi => by cases hi)) HQ.out
        go_roundw
        case rel => exact ⟨_, FIN.1⟩
        case measure => exact FIN.2
      | true =>
        rw [hb] at SU2 HQ
        clear hb
        go_wp2_with (first | (go_at_call 27; refine (SU2.out _ KW.out).mono ?_; rintro e w3 ⟨rfl, k3⟩; have K3 : Hid (Kept [] w2 (w3.alloc (.cells #[.int .i64 x] 3))) := (KA.out.trans k3 (fun i hi => by cases hi)).alloc _; obtain ⟨o3, kw3⟩ := TI.out.own2 K2.out K3.out; rw [← HLn.out] at o3; have O3 := Lib.hid o3; have KW3 := Lib.hid kw3; clear o3 kw3 k3) | (at_builtin; refine wpList_append_src (w3.alloc (.cells #[.int .i64 x] 3)) rfl (.tmp 21) (.tmp 23) 31 rfl w.heap.size 3 i0 (.int .i64 0) 1 8 Try.underlying31 hi hz0 hz1 hz2 rfl (by decide) (.slice a5 L c5) L _ rfl O3.out (.slice (some ⟨w3.heap.size, 0, none⟩) 1 1) 1 [.int .i64 x] rfl (Or.inr ⟨_, _, rfl, World.news_of_block (cs := #[.int .i64 x]) (by exact heap_alloc_new w3 _)⟩) rfl (by intro u hu; simp at hu; subst hu; rfl) (by have := LL.out; unfold maxLen; omega) (by have := LL.out; omega) (by have := KW3.out.size; exact this) ?_; intro v4 w4 hown hgrow hat; have FIN := Lib.hid (TI.out.yes RG.out LT.out K2.out K3.out HQ.out HLn.out hown hgrow hat); clear hown hgrow hat))
        go_roundw
        case rel => exact ⟨_, FIN.out.1⟩
        case measure => exact FIN.out.2

end
end Tg
end Go.Proofs.Ytjogpafbiackbaa
