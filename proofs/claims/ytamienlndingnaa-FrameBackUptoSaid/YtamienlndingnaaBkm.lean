/- FrameBack: a frame that comes in two pieces; the two lists while they grow; what stands while the frames are fed. -/
import Derived.Test.YtamienlndingnaaChi
import Derived.Test.YtamienlndingnaaInp
import Derived.Test.YtamienlndingnaaMad
import Derived.Test.YtamienlndingnaaRgs
namespace Go.Proofs.Ytamienlndingnaa
set_option linter.unusedVariables false
open Go.RowKit Go.Shelf

theorem frozen_blk {w : World} {D : Nat} {cs : Array Value} {t : TypeId} (h : w.heap[D]? = some (.cells cs t (0, 0))) : w.frozen? ⟨D, 0, none⟩ = false := by simp [World.frozen?, h]
/-- What a cutter wants next of a frame of which so much is in its hand. -/
def wants (f : List UInt8) (j : Nat) : Nat := if j = 0 then 4 else f.length - j
theorem CS.want_of {st : CS} {f : List UInt8} {j : Nat} (hj : j = 0 ∨ j = 4) (hh : st.hand = f.take j) (hd : st.dead = false) (hf : Frm st.lim f) :
    st.want = wants f j ∧ st.whole = false ∧ 1 ≤ wants f j ∧ j + wants f j ≤ f.length ∧ (j = 4 → j + wants f j = f.length) := by
  have h7 := hf.n7
  have hl : st.hand.length = j := by rw [hh, List.length_take]; omega
  rcases hj with rfl | rfl
  · have hw : st.want = 4 := by unfold CS.want; rw [if_neg (by rw [hd]; simp), if_pos (by omega), hl]
    refine ⟨by rw [hw]; rfl, ?_, by unfold wants; simp, by unfold wants; simp; omega, fun h => by cases h⟩
    unfold CS.whole
    rw [hw]
    simp
  · have hs : st.says = f.length := by
      unfold CS.says
      rw [hh, List.take_take, Nat.min_self, hf.says]
    have hw : st.want = f.length - 4 := by unfold CS.want; rw [if_neg (by rw [hd]; simp), if_neg (by omega), hl, hs]
    refine ⟨by rw [hw]; rfl, ?_, by unfold wants; simp; omega, by unfold wants; simp; omega, fun _ => by unfold wants; simp; omega⟩
    unfold CS.whole
    rw [hw]
    have : ¬ f.length - 4 = 0 := by omega
    simp [this]
theorem CS.feed_want {st : CS} {f : List UInt8} {j : Nat} (hj : j = 0 ∨ j = 4) (hh : st.hand = f.take j) (hd : st.dead = false) (hf : Frm st.lim f) :
    st.feedK ((f.drop j).take (wants f j)) = wants f j ∧ st.fedS ((f.drop j).take (wants f j)) = { st with hand := f.take (j + wants f j), fed := st.fed + wants f j } := by
  have h7 := hf.n7
  obtain ⟨hw, -, -, -, -⟩ := CS.want_of hj hh hd hf
  have hl : st.hand.length = j := by rw [hh, List.length_take]; omega
  rcases hj with rfl | rfl
  · have w4 : wants f 0 = 4 := rfl
    rw [w4, List.drop_zero]
    have hh0 : st.hand = [] := by rw [hh, List.take_zero]
    have hk : st.sizeK (f.take 4) = 4 := by rw [CS.sizeK_0 hh0, List.length_take]; omega
    have htl : (f.take 4).length = 4 := by rw [List.length_take]; omega
    have hs : st.sized (f.take 4) = { st with hand := f.take 4 } := by
      rw [CS.sized_0 hh0, List.take_take, Nat.min_self, hf.says]
      have : rightB f.length st.lim = true := decide_eq_true ⟨h7, hf.nL⟩
      rw [this]
      simp only [Bool.not_true, Bool.and_false]
      rw [← hd]
    have hdr : (f.take 4).drop 4 = [] := List.drop_eq_nil_of_le (by omega)
    have hr : (st.sized (f.take 4)).restK ((f.take 4).drop (st.sizeK (f.take 4))) = 0 := by
      unfold CS.restK
      rw [hk, hdr]
      simp
    have hK : st.feedK (f.take 4) = 4 := by unfold CS.feedK; rw [hr, hk]
    refine ⟨hK, ?_⟩
    unfold CS.fedS CS.rested
    rw [hK, hr, hs]
    simp
  · have w4 : wants f 4 = f.length - 4 := rfl
    rw [w4] at hw ⊢
    have htk : (f.drop 4).take (f.length - 4) = f.drop 4 := List.take_of_length_le (by rw [List.length_drop]; omega)
    rw [htk]
    have hk : st.sizeK (f.drop 4) = 0 := by unfold CS.sizeK; rw [if_pos (by omega)]
    have hs : st.sized (f.drop 4) = st := by unfold CS.sized; rw [if_pos (by omega)]
    have hr : (st.sized (f.drop 4)).restK ((f.drop 4).drop (st.sizeK (f.drop 4))) = f.length - 4 := by
      unfold CS.restK
      rw [hs, hk, List.drop_zero, hw, List.length_drop]
      omega
    have hK : st.feedK (f.drop 4) = f.length - 4 := by unfold CS.feedK; rw [hr, hk]; omega
    refine ⟨hK, ?_⟩
    unfold CS.fedS CS.rested
    rw [hK, hr, hs, hk, List.drop_zero, hh]
    have e1 : (f.drop 4).take (f.length - 4) = f.drop 4 := htk
    rw [e1, List.take_append_drop]
    have e2 : 4 + (f.length - 4) = f.length := by omega
    rw [e2, List.take_length]

/-- Where a frame begins. -/
def off (fs : List (List UInt8)) (i : Nat) : Nat := ((fs.take i).flatten).length
theorem off_succ {fs : List (List UInt8)} {i : Nat} (h : i < fs.length) : off fs (i + 1) = off fs i + fs[i].length := by
  unfold off
  rw [List.take_succ_eq_append_getElem h, List.flatten_append, List.length_append]
  simp
theorem off_all (fs : List (List UInt8)) : off fs fs.length = fs.flatten.length := by unfold off; rw [List.take_length]
theorem off_le (fs : List (List UInt8)) (i : Nat) (h : i < fs.length) : off fs i + fs[i].length ≤ fs.flatten.length := by
  have e := off_succ h
  have h2 : fs.flatten = (fs.take (i + 1)).flatten ++ (fs.drop (i + 1)).flatten := by rw [← List.flatten_append, List.take_append_drop]
  have h3 : fs.flatten.length = off fs (i + 1) + ((fs.drop (i + 1)).flatten).length := by
    conv => lhs; rw [h2]
    rw [List.length_append]
    rfl
  omega
theorem off_piece {fs : List (List UInt8)} {i : Nat} (h : i < fs.length) (j n : Nat) (hn : j + n ≤ fs[i].length) : (fs.flatten.drop (off fs i + j)).take n = (fs[i].drop j).take n := by
  have h2 : fs.flatten = (fs.take i).flatten ++ (fs[i] ++ (fs.drop (i + 1)).flatten) := by
    have e : fs.take i ++ (fs[i] :: fs.drop (i + 1)) = fs := by rw [List.getElem_cons_drop, List.take_append_drop]
    conv => lhs; rw [← e]
    rw [List.flatten_append, List.flatten_cons]
  rw [h2, ← List.drop_drop]
  unfold off
  rw [List.drop_left, List.drop_append_of_le_length (by omega), List.take_append_of_le_length (by rw [List.length_drop]; omega)]

/-- append from whatever source, where the old slice is read further: its row stays where a new one is made. -/
theorem run_append_src_keep {P : Program} (w : World) (base : Nat) (t ty e : TypeId) (i : TypeInfo) (z : Value) (size bytes : Nat) (ht : P.underlying t = some (.slice e)) (hi : P.info? e = some i) (hz : i.zero = some z)
    (hsize : i.size = size) (hby : i.bytes = bytes) (hzs : z.cells.size = size) (hsz : 0 < size)
    (v : Value) (n : Nat) (xs : List Value) (hown : w.ownsRow base e size v n xs)
    (x : Value) (m : Nat) (news : List Value) (hx : RowSrc w x m news) (hl : news.length = m * size) (h1 : ∀ u ∈ news, u.oneCell' = true)
    (h63 : n + m ≤ maxLen) (hbytes : (n + m) * bytes ≤ 140737488355328) (hbase : base ≤ w.heap.size) :
    ∃ v' w', (Builtin.append_ #[t, t] ty #[v, x]).run P w = .ok v' w' ∧ w'.ownsRow base e size v' (n + m) (xs ++ news) ∧ w.grownBy w' v.ownBlock ∧
      ((v'.ownBlock = v.ownBlock ∧ (v' = .slice none 0 0 → v = .slice none 0 0)) ∨ w.grownBy w' none) := by
  obtain ⟨v', w', hr, h2, h3, h4⟩ := run_append_src (P := P) w base t ty e i z size bytes ht hi hz hsize hby hzs hsz v n xs hown x m news hx hl h1 h63 hbytes hbase
  refine ⟨v', w', hr, h2, h3, ?_⟩
  rcases hx with ⟨rfl, rfl, rfl⟩ | ⟨ad, c, rfl, hc⟩
  · have hr2 := run_append_owned_none (P := P) w base t ty e i size ht hi v n xs hown
    rw [hr] at hr2
    cases hr2
    exact Or.inr ⟨rfl, rfl, rfl, Nat.le_refl _, fun _ _ _ => rfl⟩
  · rcases hown.2 with ⟨rfl, rfl⟩ | ⟨g, cap, cur, rfl, hbg, hg, hnc, hcm, hcs, htake⟩
    · exact Or.inr h3
    · by_cases hroom : n + m ≤ cap
      · obtain ⟨w2, hr2, -, -⟩ := run_append_fits (P := P) w base t ty e i size ht hi hsize g n cap xs hown ad m c news hl hc h1 hroom
        rw [hr] at hr2
        cases hr2
        exact Or.inl ⟨rfl, fun h => by cases h⟩
      · have holds : ∀ j u, xs[j]? = some u → w.cell? ((⟨g, 0, none⟩ : Addr).add j) = some u := hown.cells (g := g) rfl
        have hm : n + m ≤ 9223372036854775807 := by simp only [maxLen] at h63; omega
        have hr2 := run_append_grow (P := P) w t ty e i z ht hi hz ⟨g, 0, none⟩ n cap xs (by rw [hsize]; exact hown.1) holds ad m c news (by rw [hsize]; exact hl) hc (by omega) (by omega) (growslice_fits (by omega) (by rw [hby]; exact hbytes))
        rw [hr] at hr2
        cases hr2
        exact Or.inr ⟨rfl, rfl, rfl, by simp, fun k hk _ => heap_alloc_old w.drew _ hk⟩
theorem wpListIn_append_keep {P : Program} {F : Fence} {nF : Nat} (w : World) {ops : Array Oper} {rest : List Oper} {o : Oper} {a : Act} {Q : Exit → Act → World → Prop} (hgd : o.guard = none) (s x : Operand) (t : TypeId)
    (ho : o.op = .call { callee := .builtin .append, args := #[s, x], argTypes := #[t, t] })
    (base : Nat) (e : TypeId) (i : TypeInfo) (z : Value) (size bytes : Nat) (ht : P.underlying t = some (.slice e)) (hi : P.info? e = some i) (hz : i.zero = some z)
    (hsize : i.size = size) (hby : i.bytes = bytes) (hzs : z.cells.size = size) (hsz : 0 < size)
    (v : Value) (n : Nat) (xs : List Value) (hs : a.eval s = v) (hown : w.ownsRow base e size v n xs)
    (y : Value) (m : Nat) (news : List Value) (hx : a.eval x = y) (hsrc : RowSrc w y m news) (hl : news.length = m * size) (h1 : ∀ u ∈ news, u.oneCell' = true)
    (h63 : n + m ≤ maxLen) (hbytes : (n + m) * bytes ≤ 140737488355328) (hbase : base ≤ w.heap.size)
    (h : ∀ v' w', w'.ownsRow base e size v' (n + m) (xs ++ news) → w.grownBy w' v.ownBlock → ((v'.ownBlock = v.ownBlock ∧ (v' = .slice none 0 0 → v = .slice none 0 0)) ∨ w.grownBy w' none) → wpListIn F nF P ops Q rest (a.put o.dst v') w') :
    wpListIn F nF P ops Q (o :: rest) a w := by
  refine wpListIn_plain hgd fun K hK => ?_
  obtain ⟨v', w', hr, h2, h3, h5⟩ := run_append_src_keep (P := P) w base t o.type e i z size bytes ht hi hz hsize hby hzs hsz v n xs hown y m news hsrc hl h1 h63 hbytes hbase
  unfold Oper.wpIn
  refine ⟨?_, ?_⟩
  · simp [Oper.about, ho, resolve, Target.leads, Sem.run_pure]
  · rw [Oper.semAt_plain F _ _ (by rw [ho]; intro c hc'; cases hc')]
    simp [execOp, ho, resolve, invoke, builtin, hs, hx, hr, Result.andThen]
    exact hK _ _ (h v' w' h2 h3 h5)

/-- The two lists while they grow; D: the second one's box, R: the result's. -/
structure BkG (w : World) (R D : Nat) (v : Value) (b : List UInt8) (wv : Value) (us : List Value) (fs : List (List UInt8)) (T : List Nat) (wr : World) : Prop where
  rd : w.heap.size ≤ R ∧ R < D
  own : Own wr (D + 1) v b
  eq : b = fs.flatten
  got : FrL wr wv us fs T
  sep : ∀ k, v.ownBlock = some k → k ∉ T
  far : ∀ k ∈ T, D < k
  box : wr.heap[D]? = some (.cells #[wv] 26 (0, 0))
  res : wr.heap[R]? = some (.cells #[.bool false] 4 (0, 0))
  kept : Kept [] w wr
theorem BkG.pure {w wr w' : World} {R D : Nat} {v wv : Value} {b : List UInt8} {us : List Value} {fs : List (List UInt8)} {T : List Nat} (h : BkG w R D v b wv us fs T wr) (k : Kept [] wr w') : BkG w R D v b wv us fs T w' := by
  have nn : ∀ (U : List Nat), ∀ i ∈ U, i ∉ ([] : List Nat) := fun _ i _ hm => by simp at hm
  exact ⟨h.rd, ownsRow_kept h.own k (fun _ _ hm => by simp at hm), h.eq, h.got.kept k (nn _), h.sep, h.far, (k.block D (block_lt h.box) (by simp)).trans h.box, (k.block R (block_lt h.res) (by simp)).trans h.res, h.kept.trans k (fun i hi => by simp at hi)⟩
/-- A frame was made, and appended to the bytes. -/
structure BkR (w : World) (R D : Nat) (v : Value) (b : List UInt8) (wv : Value) (us : List Value) (fs : List (List UInt8)) (T : List Nat) (fv : Value) (f : List UInt8) (w2 : World) : Prop where
  rd : w.heap.size ≤ R ∧ R < D
  own : Own w2 (D + 1) v (b ++ f)
  eq : b = fs.flatten
  got : FrL w2 wv us fs T
  sep : ∀ k, v.ownBlock = some k → k ∉ T ∧ ∀ i, fv.ownBlock = some i → i ≠ k
  far : ∀ k ∈ T, D < k
  box : w2.heap[D]? = some (.cells #[wv] 26 (0, 0))
  res : w2.heap[R]? = some (.cells #[.bool false] 4 (0, 0))
  kept : Kept [] w w2
  fr : Own w2 (D + 1) fv f
theorem BkG.row {w wr w1 w2 : World} {R D : Nat} {v v' fv wv : Value} {b f : List UInt8} {us : List Value} {fs : List (List UInt8)} {T : List Nat} {n : Nat} (h : BkG w R D v b wv us fs T wr) (hf : Own w1 wr.heap.size fv f) (k1 : Kept [] wr w1) (hn : n = b.length)
    (hown : w2.ownsRow (D + 1) 5 1 v' (n + f.length) (b.map bv ++ f.map bv)) (hg : w1.grownBy w2 v.ownBlock) (hat : v'.ownBlock = v.ownBlock ∨ v'.ownBlock = some w1.heap.size) :
    BkR w R D v' b wv us fs T fv f w2 := by
  subst hn
  have hD := block_lt h.box
  have hR := h.rd
  have kv : Kept v.ownBlock.toList w1 w2 := (Kept.refl _ w1).grown hg (fun k e => Or.inl (by rw [e]; simp))
  have hlt : ∀ k, v.ownBlock = some k → D + 1 ≤ k ∧ k < wr.heap.size := fun k hk => h.own.lt k hk
  have hflt : ∀ k, fv.ownBlock = some k → wr.heap.size ≤ k ∧ k < w1.heap.size := fun k hk => hf.lt k hk
  have h1 := h.pure k1
  have nR : ∀ i, i ≤ D → i ∉ v.ownBlock.toList := fun i hi hm => by have := hlt i (by simpa using hm); omega
  refine ⟨h.rd, by unfold Own; rw [List.length_append, List.map_append]; exact hown, h.eq, h1.got.kept kv (fun k hk hm => h.sep k (by simpa using hm) hk), fun k hk => ?_, h.far, (kv.block D (block_lt h1.box) (nR D (Nat.le_refl _))).trans h1.box, (kv.block R (block_lt h1.res) (nR R (by omega))).trans h1.res,
    h1.kept.trans kv (fun i hi => Or.inr (by have := hlt i (by simpa using hi); omega)), World.ownsRow.mono (ownsRow_kept hf kv (fun k hk hm => ?_)) (by omega)⟩
  · rcases hat with e | e
    · rw [e] at hk
      exact ⟨h.sep k hk, fun i hi => by have := hlt k hk; have := hflt i hi; omega⟩
    · rw [e] at hk
      cases hk
      have hs := k1.size
      exact ⟨fun hm => by have := h.got.lt _ hm; omega, fun i hi => by have := hflt i hi; omega⟩
  · have a := hlt k (by simpa using hm)
    have b := hflt k hk
    omega
/-- And kept. -/
theorem BkR.push {w w2 W w3 : World} {R D : Nat} {v fv wv wv' : Value} {b f : List UInt8} {us : List Value} {fs : List (List UInt8)} {T : List Nat} {n : Nat} (h : BkR w R D v b wv us fs T fv f w2)
    (hW : Kept [] w2 W) (hn : n = us.length) (hown : w3.ownsRow 0 22 1 wv' (n + 1) (us ++ [fv])) (hg : W.grownBy w3 wv.ownBlock) (hat : wv'.ownBlock = wv.ownBlock ∨ wv'.ownBlock = some W.heap.size) :
    BkG w R D v (b ++ f) wv' (us ++ [fv]) (fs ++ [f]) (T ++ (fv.ownBlock.toList ++ wv'.ownBlock.toList)) (w3.setCell ⟨D, 0, none⟩ wv') ∧ w3.heap[D]? = some (.cells #[wv] 26 (0, 0)) := by
  have hR := h.rd
  have hx0 : Own W 0 fv f := World.ownsRow.mono (ownsRow_kept h.fr hW (fun i _ hm => by simp at hm)) (Nat.zero_le _)
  obtain ⟨g1, k1, -⟩ := h.got.push hW hx0 hn hown hg hat
  have hgt : ∀ k ∈ wv.ownBlock.toList, k ∈ T := fun k hk => h.got.blk k (by simpa using hk)
  have hs := hW.size
  have hD := block_lt h.box
  have nR : ∀ i, i ≤ D → i ∉ wv.ownBlock.toList := fun i hi hm => by have := h.far i (hgt i hm); omega
  have hb1 : w3.heap[D]? = some (.cells #[wv] 26 (0, 0)) := (k1.block D (block_lt h.box) (nR D (Nat.le_refl _))).trans h.box
  have hr1 : w3.heap[R]? = some (.cells #[.bool false] 4 (0, 0)) := (k1.block R (block_lt h.res) (nR R (by omega))).trans h.res
  have hset := heap_set (i := 0) wv' hb1
  have ks : Kept [D] w3 (w3.setCell ⟨D, 0, none⟩ wv') := (Kept.refl _ _).setCell (p := ⟨D, 0, none⟩) (Or.inl (by simp)) wv'
  have hT : ∀ k ∈ T ++ (fv.ownBlock.toList ++ wv'.ownBlock.toList), D < k := fun k hm => by
    rcases List.mem_append.1 hm with q | q
    · exact h.far k q
    · rcases List.mem_append.1 q with q | q
      · have := (h.fr.lt k (by simpa using q)).1; omega
      · rcases hat with e | e
        · rw [e] at q; exact h.far k (hgt k q)
        · rw [e] at q; simp at q; omega
  refine ⟨⟨h.rd, ownsRow_kept (ownsRow_kept h.own k1 (fun k hk hm => (h.sep k hk).1 (hgt k hm))) ks (fun k hk hm => by have := (h.own.lt k hk).1; simp at hm; omega), by rw [h.eq, List.flatten_append]; simp,
    g1.kept ks (fun k hk hm => by have := hT k hk; simp at hm; omega), fun k hk hm => ?_, hT, by simpa using hset, (ks.block R (block_lt hr1) (by simp; omega)).trans hr1, (h.kept.trans k1 (fun i hi => Or.inr (by have := h.far i (hgt i hi); omega))).trans ks (fun i hi => Or.inr (by simp at hi; omega))⟩, hb1⟩
  have hlt := h.own.lt k hk
  rcases List.mem_append.1 hm with q | q
  · exact (h.sep k hk).1 q
  · rcases List.mem_append.1 q with q | q
    · exact (h.sep k hk).2 k (by simpa using q) rfl
    · rcases hat with e | e
      · rw [e] at q; exact (h.sep k hk).1 (hgt k q)
      · rw [e] at q; simp at q; omega

/-- How much comes in. -/
def bulkL : List (Value × List UInt8) → Nat
  | [] => 0
  | x :: r => 16 + x.2.length + bulkL r
theorem bulkL_snoc (x : Value × List UInt8) : ∀ (l : List (Value × List UInt8)), bulkL (l ++ [x]) = bulkL l + (16 + x.2.length)
  | [] => by simp [bulkL]
  | y :: l => by simp only [List.cons_append, bulkL, bulkL_snoc x l]; omega
theorem bulkL_take : ∀ (l : List (Value × List UInt8)) (i : Nat), bulkL (l.take i) ≤ bulkL l
  | [], i => by simp [bulkL]
  | x :: l, 0 => by simp [bulkL]
  | x :: l, i + 1 => by simp only [List.take_succ_cons, bulkL]; have := bulkL_take l i; omega
theorem manyF_bulk : ∀ (l : List (Value × List UInt8)) (n : Nat), manyF n l ≤ 33554432 → n + bulkL l ≤ manyF n l
  | [], n, _ => by simp [bulkL, manyF]
  | x :: l, n, h => by
    unfold manyF at h ⊢
    by_cases hn : n ≤ 33554432
    · rw [if_pos hn] at h ⊢
      have := manyF_bulk l _ h
      simp only [bulkL]
      omega
    · rw [if_neg hn] at h
      omega
theorem frameOf_len (l : List UInt8) (L : Nat) : (frameOf l L).length ≤ l.length + 7 := by
  have h := (pad_length l).2
  have hb : (body l L).length ≤ (pad l).length := by unfold body; rw [List.length_take]; omega
  unfold frameOf
  rw [List.length_append]
  simp
  omega

/-- What stands once the lists are whole. -/
structure BkJ (w : World) (R D : Nat) (v : Value) (b : List UInt8) (wv : Value) (us : List Value) (fs : List (List UInt8)) (T : List Nat) (wr : World) : Prop where
  rd : w.heap.size ≤ R ∧ R < D
  src : Src wr v b v.ownBlock.toList
  got : FrL wr wv us fs T
  far : ∀ k ∈ v.ownBlock.toList ++ T, D < k ∧ k < wr.heap.size
  box : wr.heap[D]? = some (.cells #[wv] 26 (0, 0))
  res : wr.heap[R]? = some (.cells #[.bool false] 4 (0, 0))
  kept : Kept [] w wr
/-- The bytes with whatever stands behind them; the bytes themselves are read further. -/
theorem BkG.tail {w wr w2 : World} {R D : Nat} {v v' wv : Value} {b r : List UInt8} {us : List Value} {fs : List (List UInt8)} {T : List Nat} {n : Nat} (h : BkG w R D v b wv us fs T wr) (hn : n = b.length)
    (hown : w2.ownsRow (D + 1) 5 1 v' (n + r.length) (b.map bv ++ r.map bv)) (hg : wr.grownBy w2 v.ownBlock) (hat : (v'.ownBlock = v.ownBlock ∧ (v' = .slice none 0 0 → v = .slice none 0 0)) ∨ wr.grownBy w2 none) :
    Own w2 (D + 1) v' (b ++ r) ∧ BkJ w R D v b wv us fs T w2 := by
  subst hn
  have hR := h.rd
  have kv : Kept v.ownBlock.toList wr w2 := (Kept.refl _ wr).grown hg (fun k e => Or.inl (by rw [e]; simp))
  have hlt : ∀ k, v.ownBlock = some k → D + 1 ≤ k ∧ k < wr.heap.size := fun k hk => h.own.lt k hk
  have ho : Own w2 (D + 1) v' (b ++ r) := by unfold Own; rw [List.length_append, List.map_append]; exact hown
  have nR : ∀ i, i ≤ D → i ∉ v.ownBlock.toList := fun i hi hm => by have := hlt i (by simpa using hm); omega
  have hks := kv.size
  refine ⟨ho, h.rd, ?_, h.got.kept kv (fun k hk hm => h.sep k (by simpa using hm) hk), fun k hk => ?_, (kv.block D (block_lt h.box) (nR D (Nat.le_refl _))).trans h.box, (kv.block R (block_lt h.res) (nR R (by omega))).trans h.res, h.kept.trans kv (fun i hi => Or.inr (by have := hlt i (by simpa using hi); omega))⟩
  · rcases hat with ⟨e1, e2⟩ | hg2
    · rcases h.own.2 with ⟨rfl, h0⟩ | ⟨g, cap, cur, rfl, _⟩
      · exact ⟨none, 0, by rw [h0], fun _ => ⟨List.eq_nil_of_length_eq_zero h0, rfl⟩, fun ad e => by cases e⟩
      · refine ⟨_, _, rfl, (fun e => by cases e), fun ad e => ?_⟩
        cases e
        refine ⟨fun _ => by simp [Value.ownBlock], fun j u hu => ?_⟩
        have hc := hown.cells (g := g) (by rw [e1]; rfl)
        refine hc j u ?_
        rw [List.getElem?_append_left (List.getElem?_eq_some_iff.1 hu).1]
        exact hu
    · have k2 : Kept [] wr w2 := (Kept.refl _ wr).grown hg2 (fun k e => by cases e)
      exact (Src.of_own h.own).kept k2 (fun _ _ hm => by simp at hm)
  · rcases List.mem_append.1 hk with q | q
    · have := hlt k (by simpa using q); omega
    · have := h.far k q; have := h.got.lt k q; omega
theorem BkJ.kept' {w wr w' : World} {R D : Nat} {S : List Nat} {v wv : Value} {b : List UInt8} {us : List Value} {fs : List (List UInt8)} {T : List Nat} (h : BkJ w R D v b wv us fs T wr) (k : Kept S wr w') (hS : ∀ i ∈ S, wr.heap.size ≤ i) : BkJ w R D v b wv us fs T w' := by
  have k' : Kept [] wr w' := k.mono (fun i hi => Or.inr (hS i hi))
  have nn : ∀ (U : List Nat), ∀ i ∈ U, i ∉ ([] : List Nat) := fun _ i _ hm => by simp at hm
  exact ⟨h.rd, h.src.kept k' (nn _), h.got.kept k' (nn _), fun i hi => ⟨(h.far i hi).1, Nat.lt_of_lt_of_le (h.far i hi).2 k.size⟩, (k'.block D (block_lt h.box) (by simp)).trans h.box, (k'.block R (block_lt h.res) (by simp)).trans h.res, h.kept.trans k' (fun i hi => by simp at hi)⟩

/-- The range over the frames; B: the counter's box; n: how many frames there were. -/
structure BkC (w8 : World) (B n : Nat) (Rs : List Nat) (pre : List (Value × List UInt8)) (W : World) : Prop where
  box : W.heap[B]? = some (.cells #[.int .i64 pre.length] 3 (0, 0))
  le : pre.length ≤ n
  rs : ∀ i ∈ Rs, w8.heap.size + 2 ≤ i ∧ i < W.heap.size
  kept : Kept [B] w8 W
  big : w8.heap.size + 2 ≤ W.heap.size
theorem BkC.turn {w8 A B' : World} {B n : Nat} {Rs Rs' : List Nat} {s : List (Value × List UInt8)} (hB : B < w8.heap.size) (h : BkC w8 B n Rs s A) (k : Kept (w8.heap.size :: (w8.heap.size + 1) :: Rs) A B') (g : Grows Rs Rs' A B') : BkC w8 B n Rs' s B' := by
  have hbig := h.big
  have hks := k.size
  have nB : B ∉ w8.heap.size :: (w8.heap.size + 1) :: Rs := fun hm => by
    simp only [List.mem_cons] at hm
    rcases hm with q | q | q
    · omega
    · omega
    · have := (h.rs B q).1; omega
  refine ⟨(k.block B (block_lt h.box) nB).trans h.box, h.le, fun i hi => ?_, h.kept.trans k (fun i hi => ?_), by omega⟩
  · rcases g i hi with q | q
    · have := h.rs i q; omega
    · omega
  · simp only [List.mem_cons] at hi
    rcases hi with q | q | q
    · right; omega
    · right; omega
    · right; have := (h.rs i q).1; omega
/-- All of them were seen. -/
structure BkX (w8 : World) (B n : Nat) (W : World) : Prop where
  box : W.heap[B]? = some (.cells #[.int .i64 n] 3 (0, 0))
  kept : Kept [B] w8 W
  big : w8.heap.size + 2 ≤ W.heap.size
theorem BkX.turn {w8 A B' : World} {B n : Nat} (hB : B < w8.heap.size) (h : BkX w8 B n A) (k : Kept [w8.heap.size + 1] A B') : BkX w8 B n B' := by
  have hbig := h.big
  have hks := k.size
  exact ⟨(k.block B (block_lt h.box) (by simp; omega)).trans h.box, h.kept.trans k (fun i hi => by simp at hi; omega), by omega⟩
theorem BkC.step {w8 W W2 : World} {B n : Nat} {Rs : List Nat} {pre : List (Value × List UInt8)} (hB : B < w8.heap.size) (h : BkC w8 B n Rs pre W) (k : Kept [] W W2) (hlt : pre.length < n) (x : Value × List UInt8) (y : Int) (hy : y = (pre.length : Int) + 1) :
    Kept [B] W (W2.setCell ⟨B, 0, none⟩ (.int .i64 y)) ∧ BkC w8 B n Rs (pre ++ [x]) (W2.setCell ⟨B, 0, none⟩ (.int .i64 y)) := by
  have hks := k.size
  have hb2 : W2.heap[B]? = some (.cells #[.int .i64 pre.length] 3 (0, 0)) := (k.block B (block_lt h.box) (by simp)).trans h.box
  have hset := heap_set (i := 0) (.int .i64 y) hb2
  have kB : Kept [B] W (W2.setCell ⟨B, 0, none⟩ (.int .i64 y)) := (k.mono (T := [B]) (fun i hi => by simp at hi)).setCell (p := ⟨B, 0, none⟩) (Or.inl (by simp)) _
  refine ⟨kB, ?_, by simp; omega, fun i hi => ?_, h.kept.trans kB (fun i hi => Or.inl hi), by have := h.big; have := kB.size; omega⟩
  · have e : (((pre ++ [x]).length : Nat) : Int) = y := by rw [hy]; simp
    rw [e]
    simpa using hset
  · have := h.rs i hi; have := kB.size; omega

/-- A piece of code that never panics (for a region that draws, within a fence). -/
theorem wpIn_then {F : Fence} {n : Nat} {P : Program} {c : Code} {K : Act → World → Prop} {Q : Exit → Act → World → Prop} {a : Act} {w : World} (h : c.wpIn F n P (Exit.then K (fun _ _ _ => False)) a w) : c.wpIn F n P (Exit.then K Q) a w :=
  wpIn_mono h (fun e a w h => by cases e <;> first | exact h | exact h.elim)
/-- The range over a function in a block, which its body leaves by 'break'; behind both ways the same stands. -/
theorem wpIn_rangeFunc_break {F : Fence} {n : Nat} {P : Program} {β : Type} {g : Operand} {pt sl : Nat} {assign body : Code} {Q : Exit → Act → World → Prop} {a : Act} {w : World} {id : Nat}
    (hro : F.round = none) (h1 : 1 ≤ n) {gf : Nat} {lb : Array Value} (hg : a.eval g = .func (.func gf) #[] lb) (hFg : F.fn gf) (eg : ∀ args w, (callFunc gf args).run P w = .ok (.enter gf args) w)
    {C S : List (Value × β) → Prop} {Giv : List Nat → World → World → (Value × β) → Prop} {K0 : List Nat} {w0 : World} (hseq : IterSt F (n - 1) P gf lb (fun x => #[x.1]) C S Giv K0 w0) (hb0 : Kept [] w0 w) (hK0 : ∀ i ∈ K0, i < w.heap.size)
    (I : List Nat → List (Value × β) → World → Prop) (X : World → Prop) (hI : ∀ Rs Rs' s A B, I Rs s A → Kept (w.heap.size :: (w.heap.size + 1) :: Rs) A B → Grows Rs Rs' A B → I Rs' s B)
    (hX : ∀ A B, X A → Kept [w.heap.size + 1] A B → X B)
    (h0 : ∀ Rs W', (∀ i ∈ Rs, w.heap.size + 2 ≤ i ∧ i < W'.heap.size) → Kept [] w W' → w.heap.size + 2 ≤ W'.heap.size → I Rs [] W')
    (hassign : ∀ (l : Nat) (x : Value × β) (W : World) (K : Act → World → Prop), K { tmps := (a.tmps.setIfInBounds pt x.1).setIfInBounds sl x.1, defers := [] } W →
      assign.wpIn (F.inRound l) (n - 1 - 1) P (Exit.then K (fun _ _ _ => False)) { tmps := a.tmps.setIfInBounds pt x.1, defers := [] } W)
    (hbody : ∀ (l : Nat) (Rs : List Nat) (pre : List (Value × β)) (x : Value × β) (A Wb W : World), (∀ i ∈ Rs, w.heap.size + 2 ≤ i) → w.heap.size + 2 ≤ A.heap.size → I Rs pre A → I Rs pre Wb → Kept Rs A Wb → Giv Rs A Wb x → Kept [w.heap.size + 1] Wb W → C (pre ++ [x]) →
      body.wpIn (F.inRound l) (n - 1 - 1) P (rsPost I (fun c _ W => c = .exit id ∧ X W) Rs K0 w.heap.size (pre ++ [x]) W) { tmps := (a.tmps.setIfInBounds pt x.1).setIfInBounds sl x.1, defers := [] } W)
    (hE : ∀ (Rs : List Nat) (xs : List (Value × β)) (W : World), I Rs xs W → S xs → X W)
    (hend : ∀ W, X W → W.heap[w.heap.size]? = some (.deferred (some [])) → Q .normal { a with defers := { target := .collected w.heap.size, args := #[] } :: a.defers } W) :
    (Code.rangeFunc g #[pt] assign body).wpIn F n P (Exit.inBlock id Q) a w := by
  refine wpIn_rangeFunc_stops1 (sl := sl) hro h1 hg hFg eg hseq hb0 hK0 I (fun c _ W => c = .exit id ∧ X W) hI (fun _ _ _ _ h k => ⟨h.1, hX _ _ h.2 k⟩) h0 hassign hbody (fun Rs xs W hi hs hd => hend W (hE Rs xs W hi hs) hd) ?_
  rintro c pre W ⟨rfl, hx⟩ _ hd
  refine wpIn_exit ?_
  simp only [Exit.inBlock, if_pos]
  exact hend W hx hd

/-- What a cutter is, with so much of a frame in its hand. -/
theorem okP {L n i j : Nat} {f : List UInt8} (h7 : 7 ≤ L) (h6 : L ≤ 65536) (hf : Frm L f) (hj : j = 0 ∨ (4 ≤ j ∧ j ≤ f.length)) : (⟨L, f.take j, n, i, false⟩ : CS).Ok := by
  have f7 := hf.n7
  have fL := hf.nL
  refine ⟨h7, h6, fun _ h4 => ?_, fun h => by cases h⟩
  rcases hj with rfl | ⟨h1, h2⟩
  · simp at h4
  · have e : (⟨L, f.take j, n, i, false⟩ : CS).says = f.length := by
      show leval ((f.take j).take 4) = _
      rw [List.take_take, Nat.min_eq_left h1, hf.says]
    rw [e]
    refine ⟨f7, by omega, ?_⟩
    show (f.take j).length ≤ _
    rw [List.length_take]
    omega
theorem own_cap {w : World} {B : Nat} {a : Option Addr} {c : Nat} {l : List UInt8} (h : Own w B (.slice a l.length c) l) : l.length ≤ c ∧ c ≤ 9223372036854775807 := by
  rcases h.2 with ⟨h1, h0⟩ | ⟨g, cap, cur, h1, _, _, hc, hm, _⟩
  · simp only [Value.slice.injEq] at h1; omega
  · simp only [Value.slice.injEq] at h1
    unfold maxLen at hm
    omega
/-- A piece of the bytes. -/
theorem src_piece {w : World} {ad : Addr} {c at' nn : Nat} {b : List UInt8} {T : List Nat} (h : Src w (.slice (some ad) b.length c) b T) (hn : at' + nn ≤ b.length) : Src w (.slice (some (ad.add at')) nn (c - at')) ((b.drop at').take nn) T := by
  obtain ⟨a', c', e1, -, h3⟩ := h
  cases e1
  have hln : ((b.drop at').take nn).length = nn := by rw [List.length_take, List.length_drop]; omega
  refine ⟨some (ad.add at'), c - at', by rw [hln], (fun e => by cases e), fun ad' e => ?_⟩
  cases e
  refine ⟨fun hp => by rw [add_block]; exact (h3 ad rfl).1 (by omega), fun j u hu => ?_⟩
  rw [List.map_take, List.getElem?_take] at hu
  split at hu
  · rw [List.map_drop, List.getElem?_drop] at hu
    rw [Addr.add_add]
    exact (h3 ad rfl).2 (at' + j) u hu
  · cases hu
theorem src_some {w : World} {a : Option Addr} {c : Nat} {b : List UInt8} {T : List Nat} (h : Src w (.slice a b.length c) b T) (h0 : 0 < b.length) : ∃ ad, a = some ad := by
  obtain ⟨a', c', e1, h2, -⟩ := h
  have e2 : a = a' := by simpa using (Value.slice.inj e1).1
  cases a with
  | none => have := (h2 e2.symm).1; rw [this] at h0; simp at h0
  | some ad => exact ⟨ad, rfl⟩

/-- What stands while the frames are fed; Z: what the range left. -/
structure BkI (w : World) (R D Z p : Nat) (v : Value) (b : List UInt8) (wv : Value) (us : List Value) (fs : List (List UInt8)) (T : List Nat) (st : CS) (S : List Nat) (wr : World) : Prop where
  ct : Ct wr p S st
  j : BkJ w R D v b wv us fs T wr
  sep : ∀ k ∈ v.ownBlock.toList ++ T, k ∉ S
  far : ∀ k ∈ S, D < k ∧ k ≠ Z
  dz : wr.heap[Z]? = some (.deferred (some []))
theorem BkI.pure {w wr w' : World} {R D Z p : Nat} {v wv : Value} {b : List UInt8} {us : List Value} {fs : List (List UInt8)} {T S : List Nat} {st : CS} (h : BkI w R D Z p v b wv us fs T st S wr) (k : Kept [] wr w') : BkI w R D Z p v b wv us fs T st S w' :=
  ⟨h.ct.kept k (fun _ _ hm => by simp at hm), h.j.kept' k (fun i hi => by simp at hi), h.sep, h.far, (k.block Z (block_lt h.dz) (by simp)).trans h.dz⟩
theorem BkI.turn {w wr w' : World} {R D Z p : Nat} {v wv : Value} {b : List UInt8} {us : List Value} {fs : List (List UInt8)} {T S S' : List Nat} {st st' : CS} (h : BkI w R D Z p v b wv us fs T st S wr) (c : Ct w' p S' st') (k : Kept S wr w') (s : ∀ i ∈ S', i ∈ S ∨ wr.heap.size ≤ i) : BkI w R D Z p v b wv us fs T st' S' w' := by
  have hR := h.j.rd
  have hD := block_lt h.j.box
  have hZ := block_lt h.dz
  have hks := k.size
  have nR : ∀ i, i ≤ D → i ∉ S := fun i hi hm => by have := (h.far i hm).1; omega
  refine ⟨c, ⟨h.j.rd, h.j.src.kept k (fun i hi => h.sep i (List.mem_append_left _ hi)), h.j.got.kept k (fun i hi => h.sep i (List.mem_append_right _ hi)), fun i hi => ⟨(h.j.far i hi).1, Nat.lt_of_lt_of_le (h.j.far i hi).2 hks⟩, (k.block D hD (nR D (Nat.le_refl _))).trans h.j.box, (k.block R (block_lt h.j.res) (nR R (by omega))).trans h.j.res, h.j.kept.trans k (fun i hi => Or.inr (by have := (h.far i hi).1; have := h.j.kept.size; omega))⟩, fun i hi hm => ?_, fun i hi => ?_, (k.block Z hZ (fun hm => (h.far Z hm).2 rfl)).trans h.dz⟩
  · rcases s i hm with q | q
    · exact h.sep i hi q
    · have := (h.j.far i hi).2; omega
  · rcases s i hi with q | q
    · exact h.far i q
    · omega
end Go.Proofs.Ytamienlndingnaa
