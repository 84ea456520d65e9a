/- vergerlaw06: made, walked. -/
import Derived.Test.YteeheapenfklcaaDoorUan
import Derived.Test.YteeheapenfklcaaDoorUam
import Derived.Test.YteeheapenfklcaaDoorOwh
namespace Go.Proofs.YteeheapenfklcaaDoor
set_option linter.unusedVariables false
open Go.RowKit Go.Shelf
attribute [local go_sem] Oper.semAt_some
namespace Us
open Go.Proofs.YteeheapenfklcaaDoor.Utf Go.Proofs.YteeheapenfklcaaDoor.Txt Go.PlainAid Go.Proofs.YteeheapenfklcaaDoor.Mpf
/-- What stands between two accounts. -/
structure MkO (w W : World) (v : Value) (T : List Acc) (i : Nat) : Prop where
  rows : ∃ L : List (Acc × Value), accs L = T.take i ∧ W.ownsRow w.heap.size 45 4 v L.length (L.flatMap accC) ∧ ∀ x ∈ L, W.ownsRow w.heap.size 9 1 x.2 x.1.members.length (x.1.members.map sv)
  kept : Kept [] w W
/-- An account that is being made. -/
structure MkS (w W : World) (v : Value) (T : List Acc) (i b : Nat) (nm ld ky : ByteArray) (mv : Value) (ms : List ByteArray) : Prop where
  rows : ∃ L : List (Acc × Value), accs L = T.take i ∧ W.ownsRow w.heap.size 45 4 v L.length (L.flatMap accC) ∧ (∀ x ∈ L, W.ownsRow w.heap.size 9 1 x.2 x.1.members.length (x.1.members.map sv)) ∧ ∀ x ∈ L, ∀ g, x.2.ownBlock = some g → mv.ownBlock ≠ some g
  kept : Kept [] w W
  blk : W.heap[b]? = some (.cells #[.string nm, .string ld, mv, .string ky] 45 (0, 0))
  own : W.ownsRow w.heap.size 9 1 mv ms.length (ms.map sv)
  low : w.heap.size ≤ b
  ne : ∀ g, v.ownBlock = some g → g ≠ b
theorem MkS.pure {w W W' : World} {v : Value} {T : List Acc} {i b : Nat} {nm ld ky : ByteArray} {mv : Value} {ms : List ByteArray} (h : MkS w W v T i b nm ld ky mv ms) (k : Kept [] W W') : MkS w W' v T i b nm ld ky mv ms := by
  obtain ⟨⟨L, h1, h2, h3, hs⟩, h4, h5, h6, h7, h8⟩ := h
  have no : ∀ u : Value, ∀ g, u.ownBlock = some g → g ∉ ([] : List Nat) := fun u g _ => by simp
  exact ⟨⟨L, h1, own_kept h2 k (no _), fun x hx => own_kept (h3 x hx) k (no _), hs⟩, h4.trans k (fun i hi => by cases hi), (k.block _ (block_lt h5) (by simp)).trans h5, own_kept h6 k (no _), h7, h8⟩
theorem MkO.start {w W : World} {v : Value} {T : List Acc} {i : Nat} (h : MkO w W v T i) {w2 : World} (k : Kept [] W w2) (nm : ByteArray) : MkS w (w2.alloc (.cells #[.string nm, .string ⟨#[]⟩, .slice none 0 0, .string ⟨#[]⟩] 45)) v T i w2.heap.size nm ⟨#[]⟩ ⟨#[]⟩ (.slice none 0 0) [] := by
  obtain ⟨⟨L, h1, h2, h3⟩, h4⟩ := h
  have k3 : Kept [] W (w2.alloc (.cells #[.string nm, .string ⟨#[]⟩, .slice none 0 0, .string ⟨#[]⟩] 45)) := k.alloc _
  have no : ∀ u : Value, ∀ g, u.ownBlock = some g → g ∉ ([] : List Nat) := fun u g _ => by simp
  refine ⟨⟨L, h1, own_kept h2 k3 (no _), fun x hx => own_kept (h3 x hx) k3 (no _), fun x hx g hg e => by cases e⟩, h4.trans k3 (fun i hi => by cases hi), (MapKept.heap_alloc w2 _).1, World.ownsRow_nil _ _ _ _, by have := h4.size; have := k.size; omega, fun g hg => ?_⟩
  have := (h2.lt g hg).2
  have := k.size
  omega
/-- A field of one cell is stored. -/
theorem MkS.moved {w W W' : World} {v : Value} {T : List Acc} {i b : Nat} {nm ld ky ld' ky' : ByteArray} {mv : Value} {ms : List ByteArray} (h : MkS w W v T i b nm ld ky mv ms) (k : Kept [b] W W') (hb : W'.heap[b]? = some (.cells #[.string nm, .string ld', mv, .string ky'] 45 (0, 0))) : MkS w W' v T i b nm ld' ky' mv ms := by
  obtain ⟨⟨L, h1, h2, h3, hs⟩, h4, h5, h6, h7, h8⟩ := h
  have nt : ∀ (u : Value) (n : Nat) (xs : List Value), W.ownsRow w.heap.size 9 1 u n xs → ∀ g, u.ownBlock = some g → g ∉ [b] := fun u n xs hu g hg hm => by
    rw [List.mem_singleton] at hm
    subst hm
    obtain ⟨cs, hc⟩ := own_type hu _ hg
    rw [h5] at hc
    cases hc
  refine ⟨⟨L, h1, own_kept h2 k (fun g hg hm => h8 g hg (by simpa using hm)), fun x hx => own_kept (h3 x hx) k (nt _ _ _ (h3 x hx)), hs⟩, h4.trans k (fun j hj => Or.inr (by rw [List.mem_singleton] at hj; omega)), hb, own_kept h6 k (nt _ _ _ h6), h7, h8⟩
theorem info_bool : (Tryd.prog.info? 4).map (fun i => (i.zero, i.size, i.bytes)) = some (some (.bool false), 1, 1) := by kernel_rfl
theorem mk_bools (w : World) (n : Nat) (hn : n ≤ 30) : (Instr.makeSlice 80 (.int .i64 (n : Int)) (.int .i64 (n : Int))).run Tryd.prog w = .ok (.slice (some ⟨w.heap.size, 0, none⟩) n n) (w.alloc (.cells (madeCells #[.bool false] n) 4)) := by
  have hz := info_bool
  cases hx : Tryd.prog.info? 4 with
  | none => rw [hx] at hz; cases hz
  | some i =>
    rw [hx] at hz
    simp only [Option.map_some, Option.some.injEq, Prod.mk.injEq] at hz
    obtain ⟨h1, h2, h3⟩ := hz
    have := run_make (P := Tryd.prog) w 80 4 i (.bool false) Tryd.underlying80 hx h1 .i64 .i64 n n (by omega) (Int.le_refl _) (by rw [h3]; omega) (by omega)
    rw [h2] at this
    simpa [Value.cells] using this
/-- What was picked already. -/
def HasB (W : World) (r n : Nat) (S : List Nat) : Prop := ∃ A : Array Value, W.heap[r]? = some (.cells A 4 (0, 0)) ∧ A.size = n ∧ ∀ j, j < n → A[j]? = some (.bool (decide (j ∈ S)))
theorem has_none (w : World) (n : Nat) : HasB (w.alloc (.cells (madeCells #[.bool false] n) 4)) w.heap.size n [] := ⟨_, (MapKept.heap_alloc w _).1, size_madeCells _ _, fun j hj => by simp [madeCells, hj, Nat.mod_one]⟩
theorem HasB.kept {W W' : World} {r n : Nat} {S : List Nat} (h : HasB W r n S) {X : List Nat} (k : Kept X W W') (hr : r ∉ X) : HasB W' r n S := by
  obtain ⟨A, h1, h2, h3⟩ := h
  exact ⟨A, (k.block _ (block_lt h1) hr).trans h1, h2, h3⟩
theorem firsts_snoc : ∀ (l seen : List Nat) (x : Nat), firsts seen (l ++ [x]) = firsts seen l ++ (if x ∈ l ∨ x ∈ seen then [] else [x])
  | [], seen, x => by simp [firsts]
  | y :: l, seen, x => by
    simp only [List.cons_append, firsts]
    split
    · rename_i h
      rw [firsts_snoc l seen x]
      congr 1
      by_cases e : x = y
      · subst e; simp [h]
      · simp [e]
    · rename_i h
      rw [firsts_snoc l (y :: seen) x, List.cons_append]
      congr 2
      by_cases e : x = y
      · subst e; simp
      · simp [e]
theorem heap_set1 {w : World} {b : Nat} {c0 c1 c2 c3 v : Value} (h : w.heap[b]? = some (.cells #[c0, c1, c2, c3] 45 (0, 0))) : (w.setCell ⟨b, 1, none⟩ v).heap[b]? = some (.cells #[c0, v, c2, c3] 45 (0, 0)) := by
  rw [World.setCell]
  show (w.heap.modify b _)[b]? = _
  rw [Array.getElem?_modify]
  simp [h]
theorem heap_set3 {w : World} {b : Nat} {c0 c1 c2 c3 v : Value} (h : w.heap[b]? = some (.cells #[c0, c1, c2, c3] 45 (0, 0))) : (w.setCell ⟨b, 3, none⟩ v).heap[b]? = some (.cells #[c0, c1, c2, v] 45 (0, 0)) := by
  rw [World.setCell]
  show (w.heap.modify b _)[b]? = _
  rw [Array.getElem?_modify]
  simp [h]
theorem keyC_int (b : UInt8) : 33 + ((b.toNat : Nat) : Int) % 94 = (((keyC b).toNat : Nat) : Int) := by
  unfold keyC
  have h := UInt8.toNat_lt b
  rw [UInt8.toNat_add, UInt8.toNat_mod]
  show 33 + ((b.toNat : Nat) : Int) % 94 = (((33 + b.toNat % 94) % 256 : Nat) : Int)
  omega
theorem key_step {xk ky : ByteArray} {j : Nat} {cb : UInt8} (hs : j < xk.size) (hcb : cb = keyC (xk[j]'hs)) (hk : ky = ofL ((((dl xk).take j).map keyC).filter (fun c => c != 58))) :
    ofL ((((dl xk).take (j + 1)).map keyC).filter (fun c => c != 58)) = if cb = 58 then ky else ky ++ ⟨#[cb]⟩ := by
  have hl : j < (dl xk).length := by rw [dl_length]; exact hs
  have e2 : (dl xk).take (j + 1) = (dl xk).take j ++ [xk[j]'hs] := by rw [List.take_succ_eq_append_getElem hl]; rfl
  rw [e2, List.map_append, List.filter_append, List.map_cons, List.map_nil, ← hcb]
  by_cases h : cb = 58
  · rw [if_pos h, h, hk]
    simp
  · rw [if_neg h, hk]
    have : ([cb].filter (fun c => c != 58)) = [cb] := by simp [h]
    rw [this]
    apply ByteArray.ext
    rw [ByteArray.data_append]
    simp [ofL]
theorem one_mv {w : World} {base n : Nat} {e : TypeId} {v : Value} {xs : List Value} (h : w.ownsRow base e 1 v n xs) : v.oneCell' = true := by
  obtain ⟨a, c, rfl⟩ := own_slg h
  rfl
theorem heap_set2 {w : World} {b : Nat} {c0 c1 c2 c3 v : Value} (h : w.heap[b]? = some (.cells #[c0, c1, c2, c3] 45 (0, 0))) : (w.setCell ⟨b, 2, none⟩ v).heap[b]? = some (.cells #[c0, c1, v, c3] 45 (0, 0)) := by
  rw [World.setCell]
  show (w.heap.modify b _)[b]? = _
  rw [Array.getElem?_modify]
  simp [h]
theorem HasB.put {W : World} {r n m : Nat} {S : List Nat} (h : HasB W r n S) (hm : m < n) : HasB (W.setCell ⟨r, m, none⟩ (.bool true)) r n (S ++ [m]) := by
  obtain ⟨A, h1, h2, h3⟩ := h
  refine ⟨A.setIfInBounds m (.bool true), ?_, by rw [Array.size_setIfInBounds, h2], fun j hj => ?_⟩
  · rw [World.setCell]
    show (W.heap.modify r _)[r]? = _
    rw [Array.getElem?_modify]
    simp [h1]
  · rw [Array.getElem?_setIfInBounds]
    by_cases e : m = j
    · subst e
      rw [if_pos rfl, if_pos (by omega)]
      simp
    · rw [if_neg e, h3 j hj]
      have : (j ∈ S ++ [m]) ↔ j ∈ S := by simp; exact fun h => absurd h.symm e
      simp [this]
/-- A member more. -/
theorem MkS.push {w W w6 w7 : World} {v : Value} {T : List Acc} {i b : Nat} {nm ld ky x : ByteArray} {mv v' : Value} {ms : List ByteArray} {o : Obj} (h : MkS w W v T i b nm ld ky mv ms) (k6 : Kept [] W w6)
    (hg : (w6.alloc o).grownBy w7 mv.ownBlock) (ho : w7.ownsRow w.heap.size 9 1 v' (ms.length + 1) (ms.map sv ++ [.string x])) (hat : v'.ownBlock = mv.ownBlock ∨ v'.ownBlock = some (w6.alloc o).heap.size) :
    MkS w (w7.setCell ⟨b, 2, none⟩ v') v T i b nm ld ky v' (ms ++ [x]) ∧ ∀ (r : Nat) (A : Array Value), W.heap[r]? = some (.cells A 4 (0, 0)) → (w7.setCell ⟨b, 2, none⟩ v').heap[r]? = some (.cells A 4 (0, 0)) := by
  obtain ⟨⟨L, h1, h2, h3, hs⟩, h4, h5, h6, h7, h8⟩ := h
  have kA : Kept mv.ownBlock.toList W w7 := ((k6.mono (fun i hi => by cases hi)).alloc o).grown hg (fun k e => Or.inl (by rw [e]; simp))
  have ty : ∀ g, g ∈ mv.ownBlock.toList → ∃ cs, W.heap[g]? = some (.cells cs 9 (0, 0)) := fun g hg => own_type h6 g (by simpa using hg)
  have nb : b ∉ mv.ownBlock.toList := fun hm => by
    obtain ⟨cs, hc⟩ := ty b hm
    rw [h5] at hc
    cases hc
  have h5' := (kA.block _ (block_lt h5) nb).trans h5
  have kB : Kept (b :: mv.ownBlock.toList) W (w7.setCell ⟨b, 2, none⟩ v') := (kA.mono (fun i hi => Or.inl (List.mem_cons_of_mem _ hi))).setCell (Or.inl (by simp)) _
  have hne : ∀ g, v'.ownBlock = some g → g ≠ b := fun g hg e => by
    subst e
    obtain ⟨cs, hc⟩ := own_type ho _ hg
    rw [h5'] at hc
    cases hc
  refine ⟨⟨⟨L, h1, own_kept h2 kB (fun g hg hm => ?_), fun y hy => own_kept (h3 y hy) kB (fun g hg hm => ?_), fun y hy g hg e => ?_⟩, h4.trans kB (fun j hj => Or.inr ?_), heap_set2 h5', ?_, h7, h8⟩, fun r A hr => ?_⟩
  · rcases List.mem_cons.1 hm with e | hm
    · exact h8 g hg e
    · obtain ⟨cs, hc⟩ := ty g hm
      obtain ⟨cs2, hc2⟩ := own_type h2 _ hg
      rw [hc] at hc2
      cases hc2
  · rcases List.mem_cons.1 hm with e | hm
    · subst e
      obtain ⟨cs, hc⟩ := own_type (h3 y hy) _ hg
      rw [h5] at hc
      cases hc
    · exact hs y hy g hg (by simpa using hm)
  · have hgl := ((h3 y hy).lt g hg).2
    rcases hat with ha | ha
    · exact hs y hy g hg (ha ▸ e)
    · rw [ha] at e
      have := k6.size
      simp at e
      omega
  · rcases List.mem_cons.1 hj with e | hj
    · omega
    · exact (h6.lt j (by simpa using hj)).1
  · have := own_kept ho ((Kept.refl [b] w7).setCell (p := ⟨b, 2, none⟩) (Or.inl (by simp)) v') (fun g hg hm => hne g hg (by simpa using hm))
    simpa [sv] using this
  · refine (kB.block _ (block_lt hr) (fun hm => ?_)).trans hr
    rcases List.mem_cons.1 hm with e | hm
    · subst e
      rw [h5] at hr
      cases hr
    · obtain ⟨cs, hc⟩ := ty r hm
      rw [hr] at hc
      cases hc
theorem MkS.stay {w W w6 w7 : World} {v : Value} {T : List Acc} {i b : Nat} {nm ld ky : ByteArray} {mv : Value} {ms : List ByteArray} {o : Obj} (h : MkS w W v T i b nm ld ky mv ms) (k6 : Kept [] W w6)
    (hg : (w6.alloc o).grownBy w7 mv.ownBlock) : w7.heap[b]? = some (.cells #[.string nm, .string ld, mv, .string ky] 45 (0, 0)) := by
  have kA : Kept mv.ownBlock.toList W w7 := ((k6.mono (fun i hi => by cases hi)).alloc o).grown hg (fun k e => Or.inl (by rw [e]; simp))
  refine (kA.block _ (block_lt h.blk) (fun hm => ?_)).trans h.blk
  obtain ⟨cs, hc⟩ := own_type h.own b (by simpa using hm)
  rw [h.blk] at hc
  cases hc
/-- A store into has. -/
theorem MkS.stored {w W : World} {v : Value} {T : List Acc} {i b r m : Nat} {nm ld ky : ByteArray} {mv : Value} {ms : List ByteArray} {A : Array Value} {u : Value} (h : MkS w W v T i b nm ld ky mv ms) (hr : W.heap[r]? = some (.cells A 4 (0, 0))) (hw : w.heap.size ≤ r) : MkS w (W.setCell ⟨r, m, none⟩ u) v T i b nm ld ky mv ms := by
  obtain ⟨⟨L, h1, h2, h3, hs⟩, h4, h5, h6, h7, h8⟩ := h
  have k : Kept [r] W (W.setCell ⟨r, m, none⟩ u) := (Kept.refl [r] W).setCell (Or.inl (by simp)) _
  have nt : ∀ (u : Value) (n : Nat) (xs : List Value), W.ownsRow w.heap.size 9 1 u n xs → ∀ g, u.ownBlock = some g → g ∉ [r] := fun u n xs hu g hg hm => by
    rw [List.mem_singleton] at hm
    subst hm
    obtain ⟨cs, hc⟩ := own_type hu _ hg
    rw [hr] at hc
    cases hc
  refine ⟨⟨L, h1, own_kept h2 k (fun g hg hm => ?_), fun x hx => own_kept (h3 x hx) k (nt _ _ _ (h3 x hx)), hs⟩, h4.trans k (fun j hj => Or.inr (by rw [List.mem_singleton] at hj; omega)), (k.block _ (block_lt h5) (fun hm => ?_)).trans h5, own_kept h6 k (nt _ _ _ h6), h7, h8⟩
  · rw [List.mem_singleton] at hm
    subst hm
    obtain ⟨cs, hc⟩ := own_type h2 _ hg
    rw [hr] at hc
    cases hc
  · rw [List.mem_singleton] at hm
    subst hm
    rw [h5] at hr
    cases hr
/-- The account goes behind the others. -/
theorem MkS.close {w W w7 : World} {v v7 : Value} {T : List Acc} {i b : Nat} {nm ld ky : ByteArray} {mv : Value} {ms : List ByteArray} {o : Obj} {L : List (Acc × Value)} (h : MkS w W v T i b nm ld ky mv ms)
    (h1 : accs L = T.take i) (h2 : W.ownsRow w.heap.size 45 4 v L.length (L.flatMap accC)) (h3 : ∀ x ∈ L, W.ownsRow w.heap.size 9 1 x.2 x.1.members.length (x.1.members.map sv))
    (hg : (W.alloc o).grownBy w7 v.ownBlock) (ho : w7.ownsRow w.heap.size 45 4 v7 (L.length + 1) (L.flatMap accC ++ [.string nm, .string ld, mv, .string ky])) (hi : i < T.length) (hTi : T[i] = ⟨nm, ld, ms, ky⟩) : MkO w w7 v7 T (i + 1) := by
  have kA : Kept v.ownBlock.toList W w7 := ((Kept.refl v.ownBlock.toList W).alloc o).grown hg (fun k e => Or.inl (by rw [e]; simp))
  have nt : ∀ (u : Value) (n : Nat) (xs : List Value), W.ownsRow w.heap.size 9 1 u n xs → ∀ g, u.ownBlock = some g → g ∉ v.ownBlock.toList := fun u n xs hu g hg hm => by
    have hm2 : v.ownBlock = some g := by simpa using hm
    obtain ⟨cs, hc⟩ := own_type hu _ hg
    obtain ⟨cs2, hc2⟩ := own_type h2 _ hm2
    rw [hc] at hc2
    cases hc2
  refine ⟨⟨L ++ [(⟨nm, ld, ms, ky⟩, mv)], ?_, ?_, fun x hx => ?_⟩, h.kept.trans kA (fun j hj => Or.inr (h2.lt j (by simpa using hj)).1)⟩
  · rw [List.take_succ_eq_append_getElem hi, hTi, ← h1]
    simp [accs]
  · simpa [List.flatMap_append, accC] using ho
  · rcases List.mem_append.1 hx with hx | hx
    · exact own_kept (h3 x hx) kA (nt _ _ _ (h3 x hx))
    · rw [List.mem_singleton] at hx
      subst hx
      exact own_kept h.own kA (nt _ _ _ h.own)
theorem minN (a : Nat) : min (a : Int) 30 = ((min a 30 : Nat) : Int) := by omega
set_option maxHeartbeats 8000000 in
set_option maxRecDepth 100000 in
theorem made_any (w : World) (a : Option Addr) (c : Nat) (ws : List (WhoD × Value)) (h : Whs w (.slice a ws.length c) ws) :
    Calls Tryd.prog 15 #[.slice a ws.length c] w fun e w' => ∃ (v : Value) (L : List (Acc × Value)), e = .returned v ∧ accs L = madeT (ws.map (·.1)) ∧ RowsA w' v L ∧ Kept [] w w' := by
  have HW := Lib.hid h
  obtain ⟨n, hn⟩ : ∃ n, n = min ws.length 30 := ⟨_, rfl⟩
  have hn1 : n ≤ 30 := by omega
  have hn2 : n ≤ ws.length := by omega
  have hm : min (ws.length : Int) 30 = (n : Int) := by omega
  obtain ⟨T, hT⟩ : ∃ T, T = madeT (ws.map (·.1)) := ⟨_, rfl⟩
  have HT := Lib.hid hT
  have HN := Lib.hid hn
  rw [← hT]
  clear hT hn h
  go_enter Tryd.func15, Tryd.ntmps15
  go_wp2_with fail
  go_loopw [3, 5] (fun v iv wr => ∃ i : Nat, i ≤ n ∧ iv = .int .i64 i ∧ Hid (MkO w wr v T i)) (fun _ iv _ => n - (intOf iv).toNat)
  case atStart => exact ⟨0, by omega, rfl, ⟨⟨[], rfl, World.ownsRow_nil _ _ _ _, fun x hx => by cases hx⟩, Kept.refl [] w⟩⟩
  case round =>
    obtain ⟨i, hi, rfl, IO⟩ := hrel
    by_cases hlt : i < n
    · have j1 : (i : Int) < (n : Int) := by omega
      have NM : Hid (∀ w, Calls Tryd.prog 45 #[.int .i64 i] w fun e w' => e = .returned (.string (nameL i)) ∧ Kept [] w w') := fun w => name_any w i (by omega)
      go_upto_region 7 with (go_at_call 45; refine (NM.out _).mono ?_; rintro e w2 ⟨rfl, k2⟩; have K2 := Lib.hid k2; clear k2)
      have IS : Hid (MkS w (w2.alloc (.cells #[.string (nameL i), .string ⟨#[]⟩, .slice none 0 0, .string ⟨#[]⟩] 45)) u3 T i w2.heap.size (nameL i) ⟨#[]⟩ ⟨#[]⟩ (.slice none 0 0) []) := IO.out.start K2.out _
      obtain ⟨b, hb⟩ : ∃ b, b = w2.heap.size := ⟨_, rfl⟩
      obtain ⟨w3, hw3⟩ : ∃ w3, w3 = w2.alloc (.cells #[.string (nameL i), .string ⟨#[]⟩, .slice none 0 0, .string ⟨#[]⟩] 45) := ⟨_, rfl⟩
      rw [← hw3, ← hb] at IS
      rw [← hw3, ← hb]
      clear hw3 hb K2 IO
      obtain ⟨a0, c0, e0, -, hc0, hws⟩ := HW.out
      rcases hws with hws | ⟨q, o, rfl, hq, hws⟩
      · rw [hws] at hn2; simp at hn2; omega
      have HA : Hid (WhoAt w q (o + i * 3) (ws[i]'(by omega))) := hws i (by omega)
      obtain ⟨x, hx⟩ : ∃ x, x = ws[i]'(by omega) := ⟨_, rfl⟩
      have HX := Lib.hid hx
      rw [← hx] at HA
      clear hx hws hq hc0 HW
      obtain ⟨⟨xl, xm, xk⟩, xv⟩ := x
      have l0 := HA.out.lead
      simp only at l0
      have PK : Hid (∀ w', Calls Tryd.prog 23 #[.int .i64 xl, .int .i64 (2 * (n : Int))] w' fun e w'' => e = .returned (.int .i64 (pickN xl (2 * n) : Nat)) ∧ w' = w'') := fun w' => by
        have := pick_any w' xl (2 * n) (by omega) l0.1 l0.2 (by omega)
        simpa using this
      have A3 : Hid (WhoAt w3 q (o + i * 3) (⟨xl, xm, xk⟩, xv)) := HA.out.kept IS.out.kept
      have x0 : w3.cell? ⟨q, o + i * 3, none⟩ = some (.int .i64 xl) := A3.out.c0
      obtain ⟨kk, hkk⟩ : ∃ k, k = pickN xl (2 * n) := ⟨_, rfl⟩
      rw [← hkk] at PK
      obtain ⟨kb, hkb⟩ : ∃ kb, decide ((kk : Int) < (n : Int)) = kb := ⟨_, rfl⟩
      have HKB : Hid (kb = decide (kk < n)) := by rw [← hkb]; show _ = _; simp
      have HKK := Lib.hid hkk
      have NL : Hid (kk < n → ∀ w, Calls Tryd.prog 45 #[.int .i64 kk] w fun e w' => e = .returned (.string (nameL kk)) ∧ Kept [] w w') := fun h w => name_any w kk (by omega)
      clear hkk NM
      go_upto_if 34 with (go_at_call 23; refine (PK.out _).mono ?_; rintro e w4 ⟨rfl, rfl⟩; clear PK)
      go_cut [34, 35] from 36 to 37 (fun s34 s35 wx => ∃ ld, Hid (ld = if kk < n then nameL kk else ⟨#[]⟩) ∧ Hid (MkS w wx u3 T i b (nameL i) ld ⟨#[]⟩ (.slice none 0 0) []))
      case first =>
        by_cases hkn : kk < n
        · have hd : decide (kk < n) = true := decide_eq_true hkn
          have NL2 := Lib.hid (NL.out hkn)
          clear NL
          go_wp2_with (go_at_call 45; refine (NL2.out _).mono ?_; rintro e w4 ⟨rfl, k4⟩; have I4 := Lib.hid (IS.out.pure k4); obtain ⟨f0, f1, f2, f3, f4⟩ := four I4.out.blk; clear k4)
          have FIN : Hid (MkS w (w4.setCell ⟨b, 1, none⟩ (.string (nameL kk))) u3 T i b (nameL i) (nameL kk) ⟨#[]⟩ (.slice none 0 0) []) := I4.out.moved ((Kept.refl [b] w4).setCell (Or.inl (by simp)) _) (heap_set1 I4.out.blk)
          go_meet
          exact ⟨_, by show _ = _; rw [if_pos hkn], FIN⟩
        · have hd : decide (kk < n) = false := decide_eq_false hkn
          clear NL
          go_wp2_with fail
          go_meet
          exact ⟨_, by show _ = _; rw [if_neg hkn], IS⟩
      case rest =>
        obtain ⟨ld, HLD, IR⟩ := hcut
        obtain ⟨w5, hw5⟩ : ∃ x, x = wc := ⟨_, rfl⟩
        subst hw5
        clear IS A3 x0 NL
        have MB := Lib.hid (mk_bools w5 n hn1)
        obtain ⟨r, hr⟩ : ∃ r, r = w5.heap.size := ⟨_, rfl⟩
        have I6 : Hid (MkS w (w5.alloc (.cells (madeCells #[.bool false] n) 4)) u3 T i b (nameL i) ld ⟨#[]⟩ (.slice none 0 0) []) := IR.out.pure ((Kept.refl [] w5).alloc _)
        have B6 : Hid (HasB (w5.alloc (.cells (madeCells #[.bool false] n) 4)) r n []) := by rw [hr]; exact has_none w5 n
        have R6 : Hid (w.heap.size ≤ r) := by show _ ≤ _; rw [hr]; exact IR.out.kept.size
        obtain ⟨xa, xc, exv, hxc, hnum⟩ := HA.out.nums
        simp only at exv hxc hnum
        subst exv
        have HNUM := Lib.hid hnum
        have HXC := Lib.hid hxc
        have HLen := Lib.hid HA.out.long
        have HMem := Lib.hid HA.out.mem
        obtain ⟨w6, hw6⟩ : ∃ x, x = w5.alloc (.cells (madeCells #[.bool false] n) 4) := ⟨_, rfl⟩
        rw [← hw6] at I6 B6
        go_upto_region 11 with (rw [MB.out])
        rw [← hw6, ← hr]
        clear hw6 hr MB IR hxc hnum
        go_wp2_with fail
        go_loopw [9] (fun jv wx => ∃ (j : Nat) (mv : Value) (ms : List ByteArray), jv = .int .i64 j ∧ j ≤ xm.length ∧ Hid (ms = (firsts [] ((xm.take j).map (fun c => pickN c n))).map nameL) ∧ Hid (MkS w wx u3 T i b (nameL i) ld ⟨#[]⟩ mv ms) ∧ Hid (HasB wx r n ((xm.take j).map (fun c => pickN c n)))) (fun jv _ => xm.length - (intOf jv).toNat)
        case atStart => exact ⟨0, _, [], rfl, by omega, rfl, I6, B6⟩
        case round =>
          obtain ⟨j, mv, ms, rfl, hj, HMS, IM, BM⟩ := hrel
          have AR : Hid (WhoAt wr q (o + i * 3) (⟨xl, xm, xk⟩, .slice xa xm.length xc)) := HA.out.kept IM.out.kept
          have x1 := AR.out.c1
          simp only at x1
          by_cases hjl : j < xm.length
          · have hlx : HNUM.out = HNUM.out := rfl
            obtain ⟨b2, o2, rfl, hcell⟩ : ∃ b2 o2, xa = some ⟨b2, o2, none⟩ ∧ wr.cell? ⟨b2, o2 + j, none⟩ = some (.int .i64 (xm[j]'hjl)) := by
              rcases HNUM.out with h0 | ⟨b2, o2, e, hb2, hc⟩
              · rw [h0] at hjl; exact absurd hjl (by simp)
              · exact ⟨b2, o2, e, wk IM.out.kept (hc j _ (List.getElem?_eq_getElem hjl))⟩
            obtain ⟨y, hy⟩ : ∃ y, y = xm[j]'hjl := ⟨_, rfl⟩
            rw [← hy] at hcell
            have by1 := HMem.out y (by rw [hy]; exact List.getElem_mem hjl)
            obtain ⟨m, hm9⟩ : ∃ m, m = pickN y n := ⟨_, rfl⟩
            have hmn : m < n := by rw [hm9]; exact pick_lt y (by omega)
            have PK : Hid (∀ w', Calls Tryd.prog 23 #[.int .i64 y, .int .i64 n] w' fun e w'' => e = .returned (.int .i64 (m : Nat)) ∧ w' = w'') := fun w' => by
              rw [hm9]
              exact pick_any w' y n (by omega) by1.1 by1.2 (by omega)
            have NM : Hid (∀ w, Calls Tryd.prog 45 #[.int .i64 m] w fun e w' => e = .returned (.string (nameL m)) ∧ Kept [] w w') := fun w => name_any w m (by omega)
            obtain ⟨P, hP⟩ : ∃ P, P = (xm.take j).map (fun c => pickN c n) := ⟨_, rfl⟩
            have hP2 : (xm.take (j + 1)).map (fun c => pickN c n) = P ++ [m] := by rw [List.take_succ_eq_append_getElem hjl, List.map_append, ← hP, hm9, hy]; rfl
            have HPe : Hid (P = (xm.take j).map (fun c => pickN c n)) := hP
            rw [← hP] at HMS BM
            have HP2 := Lib.hid hP2
            obtain ⟨A, ab, asz, ag⟩ := BM.out
            have s1 : (j : Int) < (xm.length : Int) := by omega
            have xm1 := HXC.out
            obtain ⟨qb, hqb⟩ : ∃ q, q = decide (m ∈ P) := ⟨_, rfl⟩
            have am : wr.cell? ⟨r, m, none⟩ = some (.bool qb) := by rw [cell_of_row wr r m A _ (0, 0) ab, hqb]; exact ag m hmn
            have HJ : Hid (j < xm.length) := hjl
            have hlb := HLen.out.1
            have HQB : Hid (qb = decide (m ∈ P)) := hqb
            clear hy hm9 hP hP2 hlx hqb
            go_upto_if 64 with (go_at_call 23; refine (PK.out _).mono ?_; rintro e w4 ⟨rfl, rfl⟩; clear PK)
            by_cases hmP : m ∈ P
            · have hq1 : qb = true := by rw [HQB.out]; exact decide_eq_true hmP
              have MS2 : Hid (ms = (firsts [] ((xm.take (j + 1)).map (fun c => pickN c n))).map nameL) := by
                show _ = _
                rw [HP2.out, firsts_snoc, if_pos (Or.inl hmP), List.append_nil, HMS.out]
              have BM2 : Hid (HasB (wr.setCell ⟨r, m, none⟩ (.bool true)) r n ((xm.take (j + 1)).map (fun c => pickN c n))) := by
                show HasB _ _ _ _
                rw [HP2.out]
                exact BM.out.put hmn
              have IM2 : Hid (MkS w (wr.setCell ⟨r, m, none⟩ (.bool true)) u3 T i b (nameL i) ld ⟨#[]⟩ mv ms) := IM.out.stored ab R6.out
              have fr : wr.frozen? ⟨r, m, none⟩ = false := frozen_of_row wr r m _ _ ab
              clear HQB hmP
              subst hq1
              go_wp2_with fail
              go_roundw
              case rel => exact ⟨j + 1, mv, ms, by go_num, by have := HJ.out; omega, MS2, IM2, BM2⟩
              case measure => have := HJ.out; simp [intOf]; omega
            · have hq1 : qb = false := by rw [HQB.out]; exact decide_eq_false hmP
              have MS2 : Hid (ms ++ [nameL m] = (firsts [] ((xm.take (j + 1)).map (fun c => pickN c n))).map nameL) := by
                show _ = _
                rw [HP2.out, firsts_snoc, if_neg (by simp [hmP]), List.map_append, ← HMS.out]
                rfl
              have hml9 : ms.length ≤ 30 := by
                have h9 := nodup_len (n := n) (firsts_nodup P []) (fun x hx => by
                  obtain ⟨h1, -⟩ := (firsts_mem _ _ _).1 hx
                  obtain ⟨c, -, rfl⟩ := List.mem_map.1 (HPe.out ▸ h1)
                  exact pick_lt c (by omega))
                rw [HMS.out, List.length_map]
                omega
              obtain ⟨va, vc, rfl⟩ := own_slg IM.out.own
              have pF : Hid (∀ W, Kept [] wr W → W.cell? ⟨b, 2, none⟩ = some (.slice va ms.length vc) ∧ W.frozen? ⟨b, 2, none⟩ = false ∧ W.heap[b]? = some (.cells #[.string (nameL i), .string ld, .slice va ms.length vc, .string ⟨#[]⟩] 45 (0, 0)) ∧ W.ownsRow w.heap.size 9 1 (.slice va ms.length vc) ms.length (ms.map sv)) := fun W kw => by
                have bb := (kw.block _ (block_lt IM.out.blk) (by simp)).trans IM.out.blk
                obtain ⟨-, -, g2, -, g4⟩ := four bb
                exact ⟨g2, g4 2, bb, own_kept IM.out.own kw (fun _ _ hm => by cases hm)⟩
              obtain ⟨y1, -, -, -⟩ := pF.out wr (Kept.refl [] wr)
              obtain ⟨y0, -, -, -⟩ := pF.out wr.drew (Kept.refl [] wr).drew
              obtain ⟨i0, hi0, hz00, hz01, hz02⟩ := info_parts info_strg
              have HI0 := Lib.hid (And.intro hi0 (And.intro hz00 (And.intro hz01 hz02)))
              have HWB := Lib.hid IM.out.kept.size
              clear HQB hmP hi0 hz00 hz01 hz02
              subst hq1
              go_wp2_with fail
              go_region_law (first | (refine step_call rfl 45 #[.int .i64 m] (by simp [go_sem]) (NM.out _) ?_; rintro e w6 ⟨rfl, k6⟩; refine ⟨_, rfl, ?_⟩; have kd6 : Kept [] wr w6 := (Kept.refl [] wr).drew.trans k6 (fun i hi => by simp at hi); have ka6 : Kept [] wr (w6.alloc (.cells #[.string (nameL m)] 9)) := kd6.alloc _; obtain ⟨g6, gf6, -, -⟩ := pF.out w6 kd6; obtain ⟨ga6, gaf6, gb6, gr6⟩ := pF.out _ ka6) | (refine step_append_src (w6.alloc (.cells #[.string (nameL m)] 9)) rfl (.tmp 66) (.tmp 69) 33 rfl w.heap.size 9 i0 (.string ⟨#[]⟩) 1 16 Tryd.underlying33 HI0.out.1 HI0.out.2.1 HI0.out.2.2.1 HI0.out.2.2.2 rfl (by decide) (.slice va ms.length vc) ms.length (ms.map sv) (by simp [Act.eval]) gr6 (.slice (some ⟨w6.heap.size, 0, none⟩) 1 1) 1 [.string (nameL m)] (by simp [Act.eval]) (Or.inr ⟨_, _, rfl, World.news_of_block (cs := #[.string (nameL m)]) (by exact (MapKept.heap_alloc w6 _).1)⟩) rfl (by intro u hu; simp at hu; subst hu; rfl) (by unfold maxLen; omega) (by omega) (by have := kd6.size; have := HWB.out; simp; omega) ?_; intro v7 w7 hown7 hgrow7 hat7; have PU := Lib.hid (IM.out.push kd6 hgrow7 hown7 hat7); obtain ⟨-, -, c7, -, fz7⟩ := four (IM.out.stay kd6 hgrow7); obtain ⟨a7, cc7, hv7⟩ := own_slg hown7; subst hv7))
              all_goals
                have BF : Hid (HasB ((w7.setCell ⟨b, 2, none⟩ (.slice a7 (ms.length + 1) cc7)).setCell ⟨r, m, none⟩ (.bool true)) r n ((xm.take (j + 1)).map (fun c => pickN c n))) := by
                  show HasB _ _ _ _
                  rw [HP2.out]
                  exact HasB.put ⟨A, PU.out.2 r A ab, asz, ag⟩ hmn
                have MF : Hid (MkS w ((w7.setCell ⟨b, 2, none⟩ (.slice a7 (ms.length + 1) cc7)).setCell ⟨r, m, none⟩ (.bool true)) u3 T i b (nameL i) ld ⟨#[]⟩ (.slice a7 (ms.length + 1) cc7) (ms ++ [nameL m])) := PU.out.1.stored (PU.out.2 r A ab) R6.out
                have fr : (w7.setCell ⟨b, 2, none⟩ (.slice a7 (ms.length + 1) cc7)).frozen? ⟨r, m, none⟩ = false := frozen_of_row _ r m _ _ (PU.out.2 r A ab)
                have rm : (w7.setCell ⟨b, 2, none⟩ (.slice a7 (ms.length + 1) cc7)).cell? ⟨r, m, none⟩ = some (.bool false) := by rw [cell_of_row _ r m A _ (0, 0) (PU.out.2 r A ab)]; exact (cell_of_row wr r m A _ (0, 0) ab).symm.trans am
                obtain ⟨w8, hw8⟩ : ∃ x, x = w7.setCell ⟨b, 2, none⟩ (.slice a7 (ms.length + 1) cc7) := ⟨_, rfl⟩
                rw [← hw8] at BF MF fr rm
                rw [← hw8]
                clear hw8 PU hown7 hgrow7 hat7 c7 fz7
                go_wp2_with fail
                go_roundw
                case rel => exact ⟨j + 1, _, _, by go_num, by have := HJ.out; omega, MS2, MF, BF⟩
                case measure => have := HJ.out; simp [intOf]; omega
          · have j2 : ¬ (j : Int) < (xm.length : Int) := by omega
            have hms : Hid (ms = (firsts [] (xm.map (fun c => pickN c n))).map nameL) := by show _ = _; rw [HMS.out, List.take_of_length_le (by omega)]
            clear HMS BM
            have IK : Hid (MkS w wr u3 T i b (nameL i) ld (ofL ((((dl xk).take 0).map keyC).filter (fun c => c != 58))) mv ms) := IM.out
            go_upto_region 18 with (fail)
            clear IM AR x1 hjl
            go_wp2_with fail
            go_loopw [11] (fun jv wx => ∃ (j : Nat) (ky : ByteArray), jv = .int .i64 j ∧ j ≤ xk.size ∧ j ≤ 32 ∧ Hid (ky = ofL ((((dl xk).take j).map keyC).filter (fun c => c != 58))) ∧ Hid (MkS w wx u3 T i b (nameL i) ld ky mv ms)) (fun jv _ => 32 - (intOf jv).toNat)
            case atStart => exact ⟨0, _, rfl, by omega, by omega, rfl, IK⟩
            case round =>
              obtain ⟨j', ky, rfl, hj1, hj2, HKY, IM⟩ := hrel
              have AR : Hid (WhoAt wr q (o + i * 3) (⟨xl, xm, xk⟩, .slice xa xm.length xc)) := HA.out.kept IM.out.kept
              have x2 := AR.out.c2
              simp only at x2
              have ll := HLen.out.2
              by_cases hs : j' < xk.size
              · have s1 : (j' : Int) < (xk.size : Int) := by omega
                by_cases h32 : j' < 32
                · have s2 : (j' : Int) < 32 := by omega
                  obtain ⟨cb, hcb⟩ : ∃ cb, cb = keyC (xk[j']'hs) := ⟨_, rfl⟩
                  have hcv : 33 + (((xk[j']'hs).toNat : Nat) : Int) % 94 = ((cb.toNat : Nat) : Int) := by rw [hcb]; exact keyC_int _
                  have KS := key_step hs hcb HKY.out
                  have KSZ : Hid (ky.size ≤ 32) := by show _ ≤ _; rw [HKY.out, ofL_size]; exact Nat.le_trans (List.length_filter_le _ _) (by rw [List.length_map, List.length_take]; omega)
                  obtain ⟨cn, hcn⟩ : ∃ cn, cn = cb.toNat := ⟨_, rfl⟩
                  rw [← hcn] at hcv
                  by_cases h58 : cb = 58
                  · have e58 : (cn : Int) = 58 := by rw [hcn, h58]; rfl
                    rw [e58] at hcv
                    have KY2 : Hid (ky = ofL ((((dl xk).take (j' + 1)).map keyC).filter (fun c => c != 58))) := by
                      show _ = _
                      rw [KS, if_pos h58]
                    clear KS hcn hcb h58 e58
                    go_wp2_with fail
                    go_roundw
                    case rel => exact ⟨j' + 1, ky, by go_num, by omega, by omega, KY2, IM⟩
                    case measure => simp [intOf]; omega
                  · have e58 : ¬ (cn : Int) = 58 := fun e => h58 (UInt8.toNat_inj.1 (by show cb.toNat = 58; omega))
                    obtain ⟨w7, hw7⟩ : ∃ w7, w7 = wr.alloc (.cells #[.int .u8 (cn : Int)] 5) := ⟨_, rfl⟩
                    obtain ⟨z, hz⟩ : ∃ z : ByteArray, z = ⟨#[cb]⟩ := ⟨_, rfl⟩
                    have HCV : Hid ((Go.convert 68 9 (.slice (some ⟨wr.heap.size, 0, none⟩) 1 1)).run Tryd.prog w7 = .ok (.string z) w7) := by
                      show _ = _
                      rw [hz]
                      refine run_convert_bytes_back (P := Tryd.prog) w7 68 9 5 ⟨wr.heap.size, 0, none⟩ 1 [cb] Tryd.underlying68 Tryd.underlying5 Tryd.underlying9 (fun j hj => ?_)
                      have hj0 : j = 0 := by have : j < 1 := hj; omega
                      subst hj0
                      show w7.cell? ⟨wr.heap.size, 0, none⟩ = some (.int .u8 (cb.toNat : Int))
                      rw [← hcn, hw7, cell_of_row _ wr.heap.size 0 _ _ (0, 0) (MapKept.heap_alloc wr _).1]
                      rfl
                    have I7 : Hid (MkS w w7 u3 T i b (nameL i) ld ky mv ms) := by rw [hw7]; exact IM.out.pure ((Kept.refl [] wr).alloc _)
                    have FIN : Hid (MkS w (w7.setCell ⟨b, 3, none⟩ (.string (ky ++ z))) u3 T i b (nameL i) ld (ky ++ z) mv ms) := I7.out.moved ((Kept.refl [b] w7).setCell (Or.inl (by simp)) _) (heap_set3 I7.out.blk)
                    have KY2 : Hid (ky ++ z = ofL ((((dl xk).take (j' + 1)).map keyC).filter (fun c => c != 58))) := by
                      show _ = _
                      rw [KS, if_neg h58, hz]
                    have zs : ¬ 9223372036854775807 < ky.size + z.size := by have := KSZ.out; rw [hz]; show ¬ _ < ky.size + 1; omega
                    obtain ⟨f0, f1, f2, f3, f4⟩ := four IM.out.blk
                    obtain ⟨g0, g1, g2, g3, g4⟩ := four I7.out.blk
                    have HW7 := Lib.hid hw7
                    clear KS hcn hcb h58 hz hw7
                    go_wp2_with fail
                    rw [← HW7.out, HCV.out]
                    go_wp2_with fail
                    go_roundw
                    case rel => exact ⟨j' + 1, _, by go_num, by omega, by omega, KY2, FIN⟩
                    case measure => simp [intOf]; omega
                · have s2 : ¬ (j' : Int) < 32 := by omega
                  have KF : Hid (ky = ofL (keyL xk)) := by
                    show _ = _
                    have e : j' = 32 := by omega
                    rw [HKY.out, e]
                    rfl
                  have TI : Hid (∃ hh : i < T.length, T[i] = ⟨nameL i, ld, ms, ky⟩) := by
                    show ∃ _, _
                    have hml : (ws.map (·.1)).length = ws.length := List.length_map _
                    have hlen : T.length = n := by rw [HT.out, madeT_length, hml, HN.out]
                    refine ⟨by omega, ?_⟩
                    have hT := HT.out
                    subst hT
                    rw [madeT_get]
                    have hx : (ws.map (·.1))[i]'(by rw [hml]; omega) = ⟨xl, xm, xk⟩ := by rw [List.getElem_map, ← HX.out]
                    rw [hx, hml, ← HN.out, HLD.out, HKK.out, hms.out, KF.out]
                    rfl
                  obtain ⟨L, l1, l2, l3, -⟩ := IM.out.rows
                  have hL30 : L.length ≤ 30 := by
                    have h9 := congrArg List.length l1
                    rw [accs_length, List.length_take] at h9
                    omega
                  have HL := Lib.hid (And.intro l1 (And.intro l2 l3))
                  obtain ⟨sa, sc, rfl⟩ := own_slg l2
                  clear l1 l2 l3
                  go_upto_region 24 with (fail)
                  have hblk := IM.out.blk
                  obtain ⟨f0, f1, f2, f3, f4⟩ := four hblk
                  obtain ⟨i0, hi0, hz00, hz01, hz02⟩ := info_parts info_acc
                  have HI0 := Lib.hid (And.intro hi0 (And.intro hz00 (And.intro hz01 hz02)))
                  have HB0 := Lib.hid IM.out.kept.size
                  clear hi0 hz00 hz01 hz02 hblk
                  go_wp2_with (at_builtin; refine wpList_append_src (wr.alloc (.cells #[.string (nameL i), .string ld, mv, .string ky] 45)) rfl (.tmp 107) (.tmp 109) 22 rfl w.heap.size 45 i0 (.agg #[.string ⟨#[]⟩, .string ⟨#[]⟩, .slice none 0 0, .string ⟨#[]⟩]) 4 72 Tryd.underlying22 HI0.out.1 HI0.out.2.1 HI0.out.2.2.1 HI0.out.2.2.2 rfl (by decide) (.slice sa L.length sc) L.length (L.flatMap accC) (by simp [Act.eval]) (own_kept HL.out.2.1 ((Kept.refl [] wr).alloc _) (fun _ _ h => by cases h)) (.slice (some ⟨wr.heap.size, 0, none⟩) 1 1) 1 [.string (nameL i), .string ld, mv, .string ky] (by simp [Act.eval]) (Or.inr ⟨_, _, rfl, World.news_of_block (cs := #[.string (nameL i), .string ld, mv, .string ky]) (by exact (MapKept.heap_alloc wr _).1)⟩) rfl (by intro u hu; simp at hu; rcases hu with rfl | rfl | rfl | rfl; rfl; rfl; exact one_mv IM.out.own; rfl) (by unfold maxLen; omega) (by omega) (by have := HB0.out; simp; omega) ?_; intro v7 w7 hown7 hgrow7 hat7; have FIN : Hid (MkO w w7 v7 T (i + 1)) := IM.out.close HL.out.1 HL.out.2.1 HL.out.2.2 hgrow7 hown7 TI.out.1 TI.out.2; clear hown7 hgrow7 hat7)
                  go_roundw
                  case rel => exact ⟨i + 1, by omega, by go_num, FIN⟩
                  case measure => simp [intOf]; omega
              · have s1 : ¬ (j' : Int) < (xk.size : Int) := by omega
                have KF : Hid (ky = ofL (keyL xk)) := by
                  show _ = _
                  rw [HKY.out, List.take_of_length_le (by rw [dl_length]; omega)]
                  unfold keyL
                  rw [List.take_of_length_le (by rw [dl_length]; omega)]
                have TI : Hid (∃ hh : i < T.length, T[i] = ⟨nameL i, ld, ms, ky⟩) := by
                  show ∃ _, _
                  have hml : (ws.map (·.1)).length = ws.length := List.length_map _
                  have hlen : T.length = n := by rw [HT.out, madeT_length, hml, HN.out]
                  refine ⟨by omega, ?_⟩
                  have hT := HT.out
                  subst hT
                  rw [madeT_get]
                  have hx : (ws.map (·.1))[i]'(by rw [hml]; omega) = ⟨xl, xm, xk⟩ := by rw [List.getElem_map, ← HX.out]
                  rw [hx, hml, ← HN.out, HLD.out, HKK.out, hms.out, KF.out]
                  rfl
                obtain ⟨L, l1, l2, l3, -⟩ := IM.out.rows
                have hL30 : L.length ≤ 30 := by
                  have h9 := congrArg List.length l1
                  rw [accs_length, List.length_take] at h9
                  omega
                have HL := Lib.hid (And.intro l1 (And.intro l2 l3))
                obtain ⟨sa, sc, rfl⟩ := own_slg l2
                clear l1 l2 l3
                go_upto_region 24 with (fail)
                have hblk := IM.out.blk
                obtain ⟨f0, f1, f2, f3, f4⟩ := four hblk
                obtain ⟨i0, hi0, hz00, hz01, hz02⟩ := info_parts info_acc
                have HI0 := Lib.hid (And.intro hi0 (And.intro hz00 (And.intro hz01 hz02)))
                have HB0 := Lib.hid IM.out.kept.size
                clear hi0 hz00 hz01 hz02 hblk
                go_wp2_with (at_builtin; refine wpList_append_src (wr.alloc (.cells #[.string (nameL i), .string ld, mv, .string ky] 45)) rfl (.tmp 107) (.tmp 109) 22 rfl w.heap.size 45 i0 (.agg #[.string ⟨#[]⟩, .string ⟨#[]⟩, .slice none 0 0, .string ⟨#[]⟩]) 4 72 Tryd.underlying22 HI0.out.1 HI0.out.2.1 HI0.out.2.2.1 HI0.out.2.2.2 rfl (by decide) (.slice sa L.length sc) L.length (L.flatMap accC) (by simp [Act.eval]) (own_kept HL.out.2.1 ((Kept.refl [] wr).alloc _) (fun _ _ h => by cases h)) (.slice (some ⟨wr.heap.size, 0, none⟩) 1 1) 1 [.string (nameL i), .string ld, mv, .string ky] (by simp [Act.eval]) (Or.inr ⟨_, _, rfl, World.news_of_block (cs := #[.string (nameL i), .string ld, mv, .string ky]) (by exact (MapKept.heap_alloc wr _).1)⟩) rfl (by intro u hu; simp at hu; rcases hu with rfl | rfl | rfl | rfl; rfl; rfl; exact one_mv IM.out.own; rfl) (by unfold maxLen; omega) (by omega) (by have := HB0.out; simp; omega) ?_; intro v7 w7 hown7 hgrow7 hat7; have FIN : Hid (MkO w w7 v7 T (i + 1)) := IM.out.close HL.out.1 HL.out.2.1 HL.out.2.2 hgrow7 hown7 TI.out.1 TI.out.2; clear hown7 hgrow7 hat7)
                go_roundw
                case rel => exact ⟨i + 1, by omega, by go_num, FIN⟩
                case measure => simp [intOf]; omega
    · have j1 : ¬ (i : Int) < (n : Int) := by omega
      have FIN : Hid (∃ L : List (Acc × Value), accs L = T ∧ RowsA wr u3 L ∧ Kept [] w wr) := by
        obtain ⟨⟨L, l1, l2, l3⟩, k⟩ := IO.out
        have hlen : T.length = n := by rw [HT.out, madeT_length, List.length_map, HN.out]
        rw [List.take_of_length_le (by omega)] at l1
        exact ⟨L, l1, ⟨own_low l2, fun x hx => own_low (l3 x hx)⟩, k⟩
      go_wp2_with fail
      go_ret
      obtain ⟨L, l1, l2, l3⟩ := FIN.out
      exact ⟨_, rfl, L, l1, l2, l3⟩
end Us
end Go.Proofs.YteeheapenfklcaaDoor
