/- A book of lists that came out: what it holds, in memory: groups of blocks told apart by a colour each. No program's run. -/
import Derived.Test.YtgdaiajjnfnomaaFrl
namespace Go.Proofs.Ytgdaiajjnfnomaa
set_option linter.unusedVariables false
open Go.RowKit

/-- A slice's length. -/
def lenV : Value → Nat
  | .slice _ n _ => n
  | _ => 0
/-- append from whatever source; where the old slice's block is written on, its capacity is as it was; else no old block turns. -/
theorem run_append_cap {P : Program} (w : World) (base : Nat) (t ty e : TypeId) (i : TypeInfo) (z : Value) (size bytes : Nat) (ht : P.underlying t = some (.slice e)) (hi : P.info? e = some i) (hz : i.zero = some z)
    (hsize : i.size = size) (hby : i.bytes = bytes) (hzs : z.cells.size = size) (hsz : 0 < size)
    (v : Value) (n : Nat) (xs : List Value) (hown : w.ownsRow base e size v n xs)
    (x : Value) (m : Nat) (news : List Value) (hx : RowSrc w x m news) (hl : news.length = m * size) (h1 : ∀ u ∈ news, u.oneCell' = true)
    (h63 : n + m ≤ maxLen) (hbytes : (n + m) * bytes ≤ 140737488355328) (hbase : base ≤ w.heap.size) :
    ∃ v' w', (Builtin.append_ #[t, t] ty #[v, x]).run P w = .ok v' w' ∧ w'.ownsRow base e size v' (n + m) (xs ++ news) ∧ w.grownBy w' v.ownBlock ∧
      ((∃ g c, v = .slice (some ⟨g, 0, none⟩) n c ∧ v' = .slice (some ⟨g, 0, none⟩) (n + m) c) ∨ (w.grownBy w' none ∧ (v' = v ∨ v'.ownBlock = some w.heap.size))) := by
  obtain ⟨v', w', hr, h2, h3, h4⟩ := run_append_src (P := P) w base t ty e i z size bytes ht hi hz hsize hby hzs hsz v n xs hown x m news hx hl h1 h63 hbytes hbase
  refine ⟨v', w', hr, h2, h3, ?_⟩
  rcases hx with ⟨rfl, rfl, rfl⟩ | ⟨ad, c, rfl, hc⟩
  · have hr2 := run_append_owned_none (P := P) w base t ty e i size ht hi v n xs hown
    rw [hr] at hr2
    cases hr2
    exact Or.inr ⟨⟨rfl, rfl, rfl, Nat.le_refl _, fun _ _ _ => rfl⟩, Or.inl rfl⟩
  · rcases hown.2 with ⟨rfl, rfl⟩ | ⟨g, cap, cur, rfl, hbg, hg, hnc, hcm, hcs, htake⟩
    · refine Or.inr ⟨h3, ?_⟩
      rcases h4 with h4 | h4
      · left
        rcases h2.2 with ⟨e, _⟩ | ⟨g, cap, cur, e, _⟩
        · exact e
        · rw [e] at h4; cases h4
      · exact Or.inr h4
    · by_cases hroom : n + m ≤ cap
      · obtain ⟨w2, hr2, -, -⟩ := run_append_fits (P := P) w base t ty e i size ht hi hsize g n cap xs hown ad m c news hl hc h1 hroom
        rw [hr] at hr2
        cases hr2
        exact Or.inl ⟨g, cap, rfl, rfl⟩
      · have holds : ∀ j u, xs[j]? = some u → w.cell? ((⟨g, 0, none⟩ : Addr).add j) = some u := hown.cells (g := g) rfl
        have hm : n + m ≤ 9223372036854775807 := by simp only [maxLen] at h63; omega
        have hr2 := run_append_grow (P := P) w t ty e i z ht hi hz ⟨g, 0, none⟩ n cap xs (by rw [hsize]; exact hown.1) holds ad m c news (by rw [hsize]; exact hl) hc (by omega) (by omega) (growslice_fits (by omega) (by rw [hby]; exact hbytes))
        rw [hr] at hr2
        cases hr2
        exact Or.inr ⟨⟨rfl, rfl, rfl, by simp, fun k hk _ => heap_alloc_old w.drew _ hk⟩, Or.inr rfl⟩
theorem wpList_append_cap {P : Program} (w : World) {ops : Array Oper} {rest : List Oper} {o : Oper} {a : Act} {Q : Exit → Act → World → Prop} (hgd : o.guard = none) (s x : Operand) (t : TypeId)
    (ho : o.op = .call { callee := .builtin .append, args := #[s, x], argTypes := #[t, t] })
    (base : Nat) (e : TypeId) (i : TypeInfo) (z : Value) (size bytes : Nat) (ht : P.underlying t = some (.slice e)) (hi : P.info? e = some i) (hz : i.zero = some z)
    (hsize : i.size = size) (hby : i.bytes = bytes) (hzs : z.cells.size = size) (hsz : 0 < size)
    (v : Value) (n : Nat) (xs : List Value) (hs : a.eval s = v) (hown : w.ownsRow base e size v n xs)
    (y : Value) (m : Nat) (news : List Value) (hx : a.eval x = y) (hsrc : RowSrc w y m news) (hl : news.length = m * size) (h1 : ∀ u ∈ news, u.oneCell' = true)
    (h63 : n + m ≤ maxLen) (hbytes : (n + m) * bytes ≤ 140737488355328) (hbase : base ≤ w.heap.size)
    (h : ∀ v' w', w'.ownsRow base e size v' (n + m) (xs ++ news) → w.grownBy w' v.ownBlock → ((∃ g c, v = .slice (some ⟨g, 0, none⟩) n c ∧ v' = .slice (some ⟨g, 0, none⟩) (n + m) c) ∨ (w.grownBy w' none ∧ (v' = v ∨ v'.ownBlock = some w.heap.size))) → wpList P ops Q rest (a.put o.dst v') w') :
    wpList P ops Q (o :: rest) a w :=
  wpList_plain hgd fun K hK => by
    obtain ⟨v', w', hr, h2, h3, h5⟩ := run_append_cap (P := P) w base t o.type e i z size bytes ht hi hz hsize hby hzs hsz v n xs hown y m news hsrc hl h1 h63 hbytes hbase
    unfold Oper.wp execOp
    simp only [ho, resolve, invoke, builtin, Sem.run_bind, Sem.run_pure, Result.andThen_ok, List.map_toArray, List.map_cons, List.map_nil, hs, hx, hr]
    exact hK _ _ (h v' w' h2 h3 h5)

/-- A list of lists of bytes; from the j-th on its elements stand; P: the colour of all its blocks. -/
structure FrP (w : World) (v : Value) (vs : List Value) (fs : List (List UInt8)) (P : Nat → Prop) (j : Nat) : Prop where
  len : vs.length = fs.length
  own : w.ownsRow 0 22 1 v vs.length vs
  el : ∀ i (h : i < vs.length) (h' : i < fs.length), j ≤ i → Own w 0 vs[i] fs[i] ∧ ∀ k, vs[i].ownBlock = some k → P k
  blk : ∀ k, v.ownBlock = some k → P k
theorem FrP.nil (w : World) (P : Nat → Prop) : FrP w (.slice none 0 0) [] [] P 0 := ⟨rfl, World.ownsRow_nil _ _ _ _, (fun i h => by simp at h), (fun k h => by cases h)⟩
theorem FrP.kept {w w' : World} {v : Value} {vs : List Value} {fs : List (List UInt8)} {P : Nat → Prop} {j : Nat} {S : List Nat} (h : FrP w v vs fs P j) (hk : Kept S w w') (hd : ∀ k ∈ S, P k → w.heap.size ≤ k) : FrP w' v vs fs P j := by
  have nn : ∀ {B n : Nat} {e : TypeId} {u : Value} {xs : List Value}, w.ownsRow B e 1 u n xs → (∀ k, u.ownBlock = some k → P k) → ∀ k, u.ownBlock = some k → k ∉ S := fun {B n e u xs} ho hp k hk hm => by
    have := hd k hm (hp k hk)
    have := (ho.lt k hk).2
    omega
  exact ⟨h.len, ownsRow_kept h.own hk (nn h.own h.blk), fun i h1 h2 h3 => ⟨ownsRow_kept (h.el i h1 h2 h3).1 hk (nn (h.el i h1 h2 h3).1 (h.el i h1 h2 h3).2), (h.el i h1 h2 h3).2⟩, h.blk⟩
theorem FrP.recol {w : World} {v : Value} {vs : List Value} {fs : List (List UInt8)} {P Q : Nat → Prop} {j : Nat} (h : FrP w v vs fs P j) (hq : ∀ k, k < w.heap.size → P k → Q k) : FrP w v vs fs Q j :=
  ⟨h.len, h.own, fun i h1 h2 h3 => ⟨(h.el i h1 h2 h3).1, fun k hk => hq k ((h.el i h1 h2 h3).1.lt k hk).2 ((h.el i h1 h2 h3).2 k hk)⟩, fun k hk => hq k (h.own.lt k hk).2 (h.blk k hk)⟩
theorem FrP.from {w : World} {v : Value} {vs : List Value} {fs : List (List UInt8)} {P : Nat → Prop} {j i : Nat} (h : FrP w v vs fs P j) (hj : j ≤ i) : FrP w v vs fs P i := ⟨h.len, h.own, fun q h1 h2 h3 => h.el q h1 h2 (Nat.le_trans hj h3), h.blk⟩
/-- One more. -/
theorem FrP.push {w W w1 : World} {v v' x : Value} {vs : List Value} {fs : List (List UInt8)} {f : List UInt8} {P : Nat → Prop} {n : Nat} (h : FrP w v vs fs P 0) (hW : Kept [] w W) (hx : Own W 0 x f) (hxp : ∀ k, x.ownBlock = some k → P k) (hn : n = vs.length)
    (hown : w1.ownsRow 0 22 1 v' (n + 1) (vs ++ [x])) (hgrow : W.grownBy w1 v.ownBlock) (hp : ∀ k, v'.ownBlock = some k → P k) :
    FrP w1 v' (vs ++ [x]) (fs ++ [f]) P 0 ∧ Kept v.ownBlock.toList W w1 := by
  subst hn
  have kW : Kept v.ownBlock.toList W w1 := (Kept.refl _ W).grown hgrow (fun k e => Or.inl (by rw [e]; simp))
  have k1 : Kept v.ownBlock.toList w w1 := (hW.mono (T := v.ownBlock.toList) (fun i hi => by simp at hi)).trans kW (fun i hi => Or.inl hi)
  have ne : ∀ {y : Value} {g : List UInt8} {u : World}, Kept [] w u → Own u 0 y g → ∀ k, y.ownBlock = some k → k ∉ v.ownBlock.toList := fun {y g u} hu hy k hk hm => by
    have hv := ownsRow_kept h.own hu (fun i _ hm => by simp at hm)
    rcases hv.2 with ⟨rfl, _⟩ | ⟨gg, cap, cur, rfl, _, hgg, _⟩
    · simp [Value.ownBlock] at hm
    · simp [Value.ownBlock] at hm
      subst hm
      exact own_neB hy hgg (by decide) k hk rfl
  refine ⟨⟨by simp [h.len], by simpa using hown, fun i h1 h2 _ => ?_, hp⟩, kW⟩
  by_cases hi : i < vs.length
  · have hi2 : i < fs.length := by have := h.len; omega
    rw [List.getElem_append_left hi, List.getElem_append_left hi2]
    obtain ⟨a, b⟩ := h.el i hi hi2 (Nat.zero_le _)
    exact ⟨ownsRow_kept a k1 (ne (Kept.refl _ _) a), b⟩
  · have e1 : i = vs.length := by simp at h1; omega
    subst e1
    rw [List.getElem_append_right (Nat.le_refl _), List.getElem_append_right (by have := h.len; omega)]
    simp only [Nat.sub_self, h.len, List.getElem_singleton]
    exact ⟨ownsRow_kept hx kW (ne hW hx), hxp⟩
theorem FrP.at {w : World} {v : Value} {vs : List Value} {fs : List (List UInt8)} {P : Nat → Prop} {j N : Nat} (h : FrP w v vs fs P j) (hN : N = fs.length) (i : Nat) (hi : i < fs.length) (hj : j ≤ i) :
    ∃ b c y, v = .slice (some ⟨b, 0, none⟩) N c ∧ N ≤ c ∧ w.cell? ⟨b, i, none⟩ = some y ∧ vs[i]? = some y ∧ Own w 0 y fs[i] ∧ ∀ k, y.ownBlock = some k → P k := by
  have hi' : i < vs.length := by rw [h.len]; exact hi
  have hc := fun g => h.own.cells (g := g)
  rcases h.own.2 with ⟨_, h0⟩ | ⟨g, cap, cur, e, _, _, hn, _⟩
  · omega
  · obtain ⟨a, b⟩ := h.el i hi' hi hj
    refine ⟨g, cap, vs[i], by rw [e, h.len, hN], by have := h.len; omega, ?_, List.getElem?_eq_getElem hi', a, b⟩
    have := hc g (by rw [e]; rfl) i vs[i] (List.getElem?_eq_getElem hi')
    rw [Addr.add_lit, Nat.zero_add] at this
    exact this
theorem FrP.val {w : World} {v : Value} {vs : List Value} {fs : List (List UInt8)} {P : Nat → Prop} {j : Nat} (h : FrP w v vs fs P j) : ∃ a c, v = .slice a fs.length c := by
  obtain ⟨a, c, e⟩ := own_slice h.own
  exact ⟨a, c, by rw [e, h.len]⟩

/-- A shorter slice over a row that was written on behind its end. -/
theorem own_under {w w' : World} {B g n m c c0 : Nat} {bs ys : List UInt8} {x : UInt8} (he : Own w 0 (.slice (some ⟨g, 0, none⟩) n c0) bs) (hv : Own w B (.slice (some ⟨g, 0, none⟩) m c) ys) (hn : n ≤ m)
    (h' : w'.ownsRow B 5 1 (.slice (some ⟨g, 0, none⟩) (m + 1) c) (m + 1) (ys.map bv ++ [bv x])) : Own w' 0 (.slice (some ⟨g, 0, none⟩) n c0) bs := by
  have hbl : bs.length = n := by
    have h1 := he.1
    rcases he.2 with ⟨h2, -⟩ | ⟨_, _, _, h2, _⟩
    · cases h2
    · have := (Value.slice.inj h2).2.1
      omega
  have hyl : ys.length = m := by
    rcases hv.2 with ⟨h2, -⟩ | ⟨_, _, _, h2, _⟩
    · cases h2
    · exact ((Value.slice.inj h2).2.1).symm
  rcases he.2 with ⟨h2, -⟩ | ⟨g1, c1, cur1, e1, a1, a2, a3, a4, a5, a6⟩
  · cases h2
  rcases hv.2 with ⟨h2, -⟩ | ⟨g2, c2, cur2, e2, b1, b2, b3, b4, b5, b6⟩
  · cases h2
  rcases h'.2 with ⟨h2, -⟩ | ⟨g3, c3, cur3, e3, d1, d2, d3, d4, d5, d6⟩
  · cases h2
  simp only [Value.slice.injEq, Option.some.injEq, Addr.mk.injEq, and_true, true_and] at e1 e2 e3
  obtain ⟨rfl, e12, rfl⟩ := e1
  obtain ⟨rfl, -, rfl⟩ := e2
  obtain ⟨rfl, rfl⟩ := e3
  rw [a2] at b2
  obtain rfl : cur1 = cur2 := by simpa using b2
  obtain rfl : c0 = c := by omega
  refine ⟨he.1, Or.inr ⟨g, c0, cur3, by rw [hbl], Nat.zero_le _, d2, a3, d4, d5, ?_⟩⟩
  have q1 : (cur3.toList.take ((m + 1) * 1)).take n = (ys.map bv ++ [bv x]).take n := by rw [d6]
  rw [List.take_take, Nat.mul_one, Nat.min_eq_left (by omega), List.take_append_of_le_length (by rw [List.length_map]; omega)] at q1
  have q2 : (cur1.toList.take (ys.length * 1)).take n = (ys.map bv).take n := by rw [b6]
  rw [List.take_take, Nat.mul_one, Nat.min_eq_left (by omega)] at q2
  rw [Nat.mul_one, hbl, q1, ← q2]
  rw [Nat.mul_one, hbl] at a6
  exact a6

/-- No two of them share a block. -/
def Dist (vs : List Value) : Prop := ∀ i j (hi : i < vs.length) (hj : j < vs.length), i ≠ j → ∀ b, vs[i].ownBlock = some b → vs[j].ownBlock ≠ some b
/-- A block of one of the first so many. -/
def InH (hs : List Value) (n : Nat) (b : Nat) : Prop := ∃ q, ∃ (h : q < hs.length), q < n ∧ hs[q].ownBlock = some b
theorem InH.more {hs : List Value} {n m b : Nat} (h : InH hs n b) (hm : n ≤ m) : InH hs m b := by obtain ⟨q, h1, h2, h3⟩ := h; exact ⟨q, h1, by omega, h3⟩
/-- Each list is of its mark alone. -/
def Uni (F : List (List UInt8)) (M : List UInt8) : Prop := ∀ i (h : i < F.length) (h' : i < M.length), F[i] = List.replicate F[i].length M[i]
theorem Uni.push {F : List (List UInt8)} {M : List UInt8} (h : Uni F M) (hl : M.length = F.length) (n : Nat) (m : UInt8) : Uni (F ++ [List.replicate n m]) (M ++ [m]) := fun i h1 h2 => by
  by_cases hi : i < F.length
  · rw [List.getElem_append_left hi, List.getElem_append_left (by omega)]
    exact h i hi (by omega)
  · have e : i = F.length := by simp at h1; omega
    subst e
    rw [List.getElem_append_right (Nat.le_refl _), List.getElem_append_right (by omega)]
    simp [hl]

/-- A book between two steps. -/
structure BS (w : World) (k : Nat) (lv mv hv tv fv wv : Value) (vs : List Value) (fs : List (List UInt8)) (ms : List UInt8) (hs : List Value) (hb : List (List UInt8)) (ts xs ys : List Value) (xb : List (List UInt8)) (col : Nat → Nat) : Prop where
  box : w.heap[k]? = some (.cells #[lv, mv, hv, tv, fv, wv] 28 (0, 0))
  l : FrP w lv vs fs (fun b => col b = 0) 0
  m : Own w 0 mv ms
  mc : ∀ b, mv.ownBlock = some b → col b = 1
  lm : ms.length = fs.length
  uni : Uni fs ms
  h : FrP w hv hs hb (fun b => col b = 2) 0
  t : FrP w tv ts hb (fun b => col b = 3) 0
  f : FrP w fv xs xb (fun b => col b = 4) 0
  s : FrP w wv ys xb (fun b => col b = 5) 0
  ck : col k = 6
  hd : Dist hs
  fd : Dist xs
theorem BS.kept {w w' : World} {k : Nat} {lv mv hv tv fv wv : Value} {vs : List Value} {fs : List (List UInt8)} {ms : List UInt8} {hs : List Value} {hb : List (List UInt8)} {ts xs ys : List Value} {xb : List (List UInt8)} {col : Nat → Nat} {S : List Nat} (h : BS w k lv mv hv tv fv wv vs fs ms hs hb ts xs ys xb col)
    (hk : Kept S w w') (hd : ∀ b ∈ S, col b ≤ 6 → w.heap.size ≤ b) : BS w' k lv mv hv tv fv wv vs fs ms hs hb ts xs ys xb col := by
  have hc : ∀ (c : Nat), c ≤ 6 → ∀ b ∈ S, col b = c → w.heap.size ≤ b := fun c hc b hb e => hd b hb (by omega)
  refine ⟨(hk.block k (block_lt h.box) (fun hm => by have := hc 6 (by decide) k hm h.ck; have := block_lt h.box; omega)).trans h.box, h.l.kept hk (hc 0 (by decide)), ownsRow_kept h.m hk (fun b e hm => ?_), h.mc, h.lm, h.uni, h.h.kept hk (hc 2 (by decide)), h.t.kept hk (hc 3 (by decide)), h.f.kept hk (hc 4 (by decide)), h.s.kept hk (hc 5 (by decide)), h.ck, h.hd, h.fd⟩
  have := hc 1 (by decide) b hm (h.mc b e)
  have := (h.m.lt b e).2
  omega

/-- A row's element, whatever it holds. -/
theorem FrP.cellAt {w : World} {v : Value} {vs : List Value} {fs : List (List UInt8)} {P : Nat → Prop} {j N : Nat} (h : FrP w v vs fs P j) (hN : N = fs.length) (i : Nat) (hi : i < vs.length) :
    ∃ b c, v = .slice (some ⟨b, 0, none⟩) N c ∧ N ≤ c ∧ w.cell? ⟨b, i, none⟩ = some vs[i] := by
  have hc := fun g => h.own.cells (g := g)
  rcases h.own.2 with ⟨_, h0⟩ | ⟨g, cap, cur, e, _, _, hn, _⟩
  · omega
  · refine ⟨g, cap, by rw [e, h.len, hN], by have := h.len; omega, ?_⟩
    have := hc g (by rw [e]; rfl) i vs[i] (List.getElem?_eq_getElem hi)
    rw [Addr.add_lit, Nat.zero_add] at this
    exact this
def upd (col : Nat → Nat) (n c : Nat) : Nat → Nat := fun b => if b = n then c else col b
theorem upd_old {col : Nat → Nat} {n c b : Nat} (h : b < n) : upd col n c b = col b := by unfold upd; rw [if_neg (by omega)]
theorem upd_new {col : Nat → Nat} {n c : Nat} : upd col n c n = c := by unfold upd; rw [if_pos rfl]

/-- What has become of the blocks that a call met: those of the book alone have turned. -/
structure Far (w0 : World) (col0 : Nat → Nat) (w : World) (col : Nat → Nat) : Prop where
  kept : ∃ S, Kept S w0 w ∧ ∀ b ∈ S, b < w0.heap.size → col0 b ≤ 6
  same : ∀ b, b < w0.heap.size → col b = col0 b
theorem Far.refl (w : World) (col : Nat → Nat) : Far w col w col := ⟨⟨[], Kept.refl _ _, fun b hb => by simp at hb⟩, fun _ _ => rfl⟩
theorem Far.step {w0 w w' : World} {col0 col col' : Nat → Nat} {S : List Nat} (h : Far w0 col0 w col) (k : Kept S w w') (hS : ∀ b ∈ S, b < w0.heap.size → col b ≤ 6) (hc : ∀ b, b < w.heap.size → col' b = col b) : Far w0 col0 w' col' := by
  obtain ⟨S0, k0, h0⟩ := h.kept
  have hs := k0.size
  refine ⟨⟨S0 ++ S, (k0.mono (fun i hi => Or.inl (List.mem_append_left _ hi))).trans k (fun i hi => Or.inl (List.mem_append_right _ hi)), fun b hb hlt => ?_⟩, fun b hb => by rw [hc b (by omega), h.same b hb]⟩
  rcases List.mem_append.1 hb with q | q
  · exact h0 b q hlt
  · have := hS b q hlt
    rw [h.same b hlt] at this
    exact this
theorem Far.pure {w0 w w' : World} {col0 col : Nat → Nat} (h : Far w0 col0 w col) (k : Kept [] w w') : Far w0 col0 w' col := h.step k (fun b hb => by simp at hb) (fun _ _ => rfl)

/-- A book while its held lists are written over: p: how many of them lie among the marked lists; from the j-th on the held are as they came. -/
structure BX (w : World) (k : Nat) (lv mv hv tv fv wv : Value) (L : List Value) (F : List (List UInt8)) (M : List UInt8) (hs : List Value) (hb : List (List UInt8)) (xs ys : List Value) (xb : List (List UInt8)) (col : Nat → Nat) (p j : Nat) : Prop where
  box : w.heap[k]? = some (.cells #[lv, mv, hv, tv, fv, wv] 28 (0, 0))
  l : FrP w lv L F (fun b => col b = 0 ∨ InH hs p b) 0
  lc : ∀ b, lv.ownBlock = some b → col b = 0
  m : Own w 0 mv M
  mc : ∀ b, mv.ownBlock = some b → col b = 1
  h : FrP w hv hs hb (fun b => col b = 2) j
  f : FrP w fv xs xb (fun b => col b = 4) 0
  s : FrP w wv ys xb (fun b => col b = 5) 0
  ck : col k = 6
  hc : ∀ b, InH hs hs.length b → col b = 2 ∧ b < w.heap.size
  hd : Dist hs
  fd : Dist xs
theorem BS.start {w : World} {k : Nat} {lv mv hv tv fv wv : Value} {vs : List Value} {fs : List (List UInt8)} {ms : List UInt8} {hs : List Value} {hb : List (List UInt8)} {ts xs ys : List Value} {xb : List (List UInt8)} {col : Nat → Nat} (h : BS w k lv mv hv tv fv wv vs fs ms hs hb ts xs ys xb col) : BX w k lv mv hv tv fv wv vs fs ms hs hb xs ys xb col 0 0 :=
  ⟨h.box, h.l.recol (fun _ _ e => Or.inl e), h.l.blk, h.m, h.mc, h.h, h.f, h.s, h.ck, fun b hb => by
    obtain ⟨q, h1, -, h3⟩ := hb
    obtain ⟨a1, a2⟩ := h.h.el q h1 (by rw [← h.h.len]; exact h1) (Nat.zero_le _)
    exact ⟨a2 b h3, (a1.lt b h3).2⟩, h.hd, h.fd⟩
section
variable {w w' W w1 : World} {k p j : Nat} {lv mv hv tv fv wv : Value} {L : List Value} {F : List (List UInt8)} {M : List UInt8} {hs : List Value} {hb : List (List UInt8)} {xs ys : List Value} {xb : List (List UInt8)} {col : Nat → Nat}
theorem BX.pure (h : BX w k lv mv hv tv fv wv L F M hs hb xs ys xb col p j) (k0 : Kept [] w w') : BX w' k lv mv hv tv fv wv L F M hs hb xs ys xb col p j :=
  ⟨(k0.block k (block_lt h.box) (by simp)).trans h.box, h.l.kept k0 (fun b hm => by simp at hm), h.lc, ownsRow_kept h.m k0 (fun b e hm => by simp at hm), h.mc, h.h.kept k0 (fun b hm => by simp at hm), h.f.kept k0 (fun b hm => by simp at hm), h.s.kept k0 (fun b hm => by simp at hm), h.ck, fun b hb => ⟨(h.hc b hb).1, Nat.lt_of_lt_of_le (h.hc b hb).2 k0.size⟩, h.hd, h.fd⟩
/-- One of the held is being marked. -/
theorem BX.mark {i n : Nat} {bs : List UInt8} (h : BX w k lv mv hv tv fv wv L F M hs hb xs ys xb col p j) (hi : i < hs.length) (hp : p ≤ i) (hj : j ≤ i + 1) (hk : Kept hs[i].ownBlock.toList w w') (ho : Own w n hs[i] bs) : BX w' k lv mv hv tv fv wv L F M hs hb xs ys xb col p (i + 1) := by
  cases hg : hs[i].ownBlock with
  | none =>
    rw [hg] at hk
    have h2 := h.pure hk
    exact ⟨h2.box, h2.l, h2.lc, h2.m, h2.mc, h2.h.from hj, h2.f, h2.s, h2.ck, h2.hc, h2.hd, h2.fd⟩
  | some g =>
    rw [hg] at hk
    obtain ⟨cs, hcs⟩ : ∃ cs, w.heap[g]? = some (.cells cs 5 (0, 0)) := by
      rcases ho.2 with ⟨e, _⟩ | ⟨g', cap, cur, e, _, hgg, _⟩
      · rw [e] at hg; cases hg
      · rw [e] at hg; cases hg; exact ⟨_, hgg⟩
    have cg : col g = 2 := (h.hc g ⟨i, hi, hi, hg⟩).1
    have hck := h.ck
    have ms : ∀ {b}, b ∈ Option.toList (some g) → b = g := fun {b} hb => by simpa using hb
    refine ⟨(hk.block k (block_lt h.box) (fun hm => by have := ms hm; rw [this] at hck; omega)).trans h.box, h.l.kept hk (fun b hb hp2 => ?_), h.lc, ownsRow_kept h.m hk (fun b e hm => by have := ms hm; subst this; have := h.mc b e; omega), h.mc, ⟨h.h.len, ownsRow_kept h.h.own hk (fun b e hm => ?_), fun q h1 h2 h3 => ?_, h.h.blk⟩, h.f.kept hk (fun b hm hp => by have := ms hm; subst this; omega), h.s.kept hk (fun b hm hp => by have := ms hm; subst this; omega), h.ck, fun b hb => ⟨(h.hc b hb).1, Nat.lt_of_lt_of_le (h.hc b hb).2 hk.size⟩, h.hd, h.fd⟩
    · have := ms hb
      subst this
      rcases hp2 with hp2 | ⟨q, h1, h2, h3⟩
      · omega
      · exact absurd h3 (h.hd i q hi h1 (by omega) b hg)
    · have := ms hm
      subst this
      exact own_neB h.h.own hcs (by decide) b e rfl
    · obtain ⟨a1, a2⟩ := h.h.el q h1 h2 (by omega)
      exact ⟨ownsRow_kept a1 hk (fun b e hm => by have := ms hm; subst this; exact h.hd i q hi h1 (by omega) b hg e), a2⟩
/-- A list was appended to the marked ones, and the slice is stored. -/
theorem BX.pushl {p' n : Nat} {lv' y : Value} {f : List UInt8} (h : BX w k lv mv hv tv fv wv L F M hs hb xs ys xb col p j) (hW : Kept [] w W) (hx : Own W 0 y f) (hxp : ∀ b, y.ownBlock = some b → col b = 0 ∨ InH hs p' b) (hp : p ≤ p') (hn : n = L.length)
    (hown : w1.ownsRow 0 22 1 lv' (n + 1) (L ++ [y])) (hgrow : W.grownBy w1 lv.ownBlock) (hat : lv'.ownBlock = lv.ownBlock ∨ lv'.ownBlock = some W.heap.size) :
    BX (w1.setCell ⟨k, 0, none⟩ lv') k lv' mv hv tv fv wv (L ++ [y]) (F ++ [f]) M hs hb xs ys xb (upd col W.heap.size 0) p' j ∧ w1.heap[k]? = some (.cells #[lv, mv, hv, tv, fv, wv] 28 (0, 0)) ∧ Kept (k :: lv.ownBlock.toList) w (w1.setCell ⟨k, 0, none⟩ lv') ∧ (∀ b, b < w.heap.size → upd col W.heap.size 0 b = col b) := by
  have hs0 := hW.size
  have hu : ∀ b, b < w.heap.size → upd col W.heap.size 0 b = col b := fun b hb => upd_old (by omega)
  have hck := h.ck
  have hkl := block_lt h.box
  have hlh := h.lc
  have l1 : FrP w lv L F (fun b => upd col W.heap.size 0 b = 0 ∨ InH hs p' b) 0 := h.l.recol (fun b hb e => by
    rcases e with e | e
    · exact Or.inl (by rw [hu b hb]; exact e)
    · exact Or.inr (e.more hp))
  have hxl : ∀ b, y.ownBlock = some b → upd col W.heap.size 0 b = 0 ∨ InH hs p' b := fun b hb => by
    rcases hxp b hb with e | e
    · left; rw [upd_old (hx.lt b hb).2]; exact e
    · exact Or.inr e
  obtain ⟨l2, k2⟩ := l1.push hW hx hxl hn hown hgrow (fun b hb => by
    rcases hat with e | e
    · rw [e] at hb; left; rw [hu b (h.l.own.lt b hb).2]; exact hlh b hb
    · rw [e] at hb; cases hb; exact Or.inl upd_new)
  have k3 : Kept lv.ownBlock.toList w w1 := (hW.mono (T := lv.ownBlock.toList) (fun i hi => by simp at hi)).trans k2 (fun i hi => Or.inl hi)
  have hb1 : w1.heap[k]? = some (.cells #[lv, mv, hv, tv, fv, wv] 28 (0, 0)) := (k3.block k hkl (fun hm => by have := hlh k (by simpa using hm); omega)).trans h.box
  have hset := heap_set (i := 0) lv' hb1
  have ks : Kept [k] w1 (w1.setCell ⟨k, 0, none⟩ lv') := (Kept.refl _ _).setCell (p := ⟨k, 0, none⟩) (Or.inl (by simp)) lv'
  have c3 : ∀ c, 1 ≤ c → ∀ b ∈ lv.ownBlock.toList, col b = c → w.heap.size ≤ b := fun c hc b hb e => by have := hlh b (by simpa using hb); omega
  have ck6 : ∀ {w2 : World} (c : Nat), c ≠ 6 → ∀ b ∈ [k], upd col W.heap.size 0 b = c → w2.heap.size ≤ b := fun {w2} c hc b hb e => by simp at hb; subst hb; rw [hu b hkl] at e; omega
  have rc : ∀ {v : Value} {us : List Value} {gs : List (List UInt8)} {c q : Nat}, FrP w v us gs (fun b => col b = c) q → 1 ≤ c → c ≠ 6 → FrP (w1.setCell ⟨k, 0, none⟩ lv') v us gs (fun b => upd col W.heap.size 0 b = c) q := fun {v us gs c q} hh h1 h2 =>
    ((hh.kept k3 (c3 c h1)).recol (fun b _ e => e) |> fun z => (⟨z.len, z.own, fun i a b d => ⟨(z.el i a b d).1, fun b' hb' => by
        have e := (hh.el i a b d).2 b' hb'
        rw [hu b' ((hh.el i a b d).1.lt b' hb').2]; exact e⟩, fun b' hb' => by rw [hu b' (hh.own.lt b' hb').2]; exact hh.blk b' hb'⟩ : FrP w1 v us gs (fun b => upd col W.heap.size 0 b = c) q)).kept ks (ck6 c h2)
  refine ⟨⟨by simpa using hset, l2.kept ks (fun b hb e => ?_), fun b hb => ?_, ownsRow_kept (ownsRow_kept h.m k3 (fun b e hm => by have := h.mc b e; have := hlh b (by simpa using hm); omega)) ks (fun b e hm => by simp at hm; subst hm; have := h.mc b e; omega), fun b hb => by rw [hu b (h.m.lt b hb).2]; exact h.mc b hb, rc h.h (by decide) (by decide), rc h.f (by decide) (by decide), rc h.s (by decide) (by decide), by rw [hu k hkl]; exact hck, fun b hb => ?_, h.hd, h.fd⟩, hb1, ?_, hu⟩
  · simp at hb
    subst hb
    rcases e with e | ⟨q, h1, h2, h3⟩
    · rw [hu b hkl] at e; omega
    · have := (h.hc b ⟨q, h1, h1, h3⟩).1; omega
  · rcases hat with e | e
    · rw [e] at hb; rw [hu b (h.l.own.lt b hb).2]; exact hlh b hb
    · rw [e] at hb; cases hb; exact upd_new
  · have a := h.hc b hb
    exact ⟨by rw [hu b a.2]; exact a.1, Nat.lt_of_lt_of_le a.2 (Nat.le_trans k3.size ks.size)⟩
  · exact (k3.mono (T := k :: lv.ownBlock.toList) (fun i hi => Or.inl (List.mem_cons_of_mem _ hi))).trans ks (fun i hi => Or.inl (by simp at hi; simp [hi]))
/-- A mark was appended. -/
theorem BX.pushm {n : Nat} {mv' : Value} {x : UInt8} (h : BX w k lv mv hv tv fv wv L F M hs hb xs ys xb col p j) (hW : Kept [] w W) (hn : n = M.length)
    (hown : w1.ownsRow 0 5 1 mv' (n + 1) (M.map bv ++ [bv x])) (hgrow : W.grownBy w1 mv.ownBlock) (hat : mv'.ownBlock = mv.ownBlock ∨ mv'.ownBlock = some W.heap.size) :
    BX (w1.setCell ⟨k, 1, none⟩ mv') k lv mv' hv tv fv wv L F (M ++ [x]) hs hb xs ys xb (upd col W.heap.size 1) p j ∧ w1.heap[k]? = some (.cells #[lv, mv, hv, tv, fv, wv] 28 (0, 0)) ∧ Kept (k :: mv.ownBlock.toList) w (w1.setCell ⟨k, 1, none⟩ mv') ∧ (∀ b, b < w.heap.size → upd col W.heap.size 1 b = col b) := by
  subst hn
  have hs0 := hW.size
  have hu : ∀ b, b < w.heap.size → upd col W.heap.size 1 b = col b := fun b hb => upd_old (by omega)
  have hck := h.ck
  have hkl := block_lt h.box
  have hmh := h.mc
  have k2 : Kept mv.ownBlock.toList W w1 := (Kept.refl _ W).grown hgrow (fun k e => Or.inl (by rw [e]; simp))
  have k3 : Kept mv.ownBlock.toList w w1 := (hW.mono (T := mv.ownBlock.toList) (fun i hi => by simp at hi)).trans k2 (fun i hi => Or.inl hi)
  have hb1 : w1.heap[k]? = some (.cells #[lv, mv, hv, tv, fv, wv] 28 (0, 0)) := (k3.block k hkl (fun hm => by have := hmh k (by simpa using hm); omega)).trans h.box
  have hset := heap_set (i := 1) mv' hb1
  have ks : Kept [k] w1 (w1.setCell ⟨k, 1, none⟩ mv') := (Kept.refl _ _).setCell (p := ⟨k, 1, none⟩) (Or.inl (by simp)) mv'
  have c3 : ∀ c, c ≠ 1 → ∀ b ∈ mv.ownBlock.toList, col b = c → w.heap.size ≤ b := fun c hc b hb e => by have := hmh b (by simpa using hb); omega
  have ck6 : ∀ {w2 : World} (c : Nat), c ≠ 6 → ∀ b ∈ [k], upd col W.heap.size 1 b = c → w2.heap.size ≤ b := fun {w2} c hc b hb e => by simp at hb; subst hb; rw [hu b hkl] at e; omega
  have rc : ∀ {v : Value} {us : List Value} {gs : List (List UInt8)} {c q : Nat}, FrP w v us gs (fun b => col b = c) q → c ≠ 1 → c ≠ 6 → FrP (w1.setCell ⟨k, 1, none⟩ mv') v us gs (fun b => upd col W.heap.size 1 b = c) q := fun {v us gs c q} hh h1 h2 =>
    (((hh.recol (Q := fun b => upd col W.heap.size 1 b = c) (fun b hb e => by rw [hu b hb]; exact e)).kept k3 (fun b hb e => by
      by_cases hlt : b < w.heap.size
      · rw [hu b hlt] at e; exact c3 c h1 b hb e
      · omega))).kept ks (ck6 c h2)
  refine ⟨⟨by simpa using hset, ((h.l.recol (Q := fun b => upd col W.heap.size 1 b = 0 ∨ InH hs p b) (fun b hb e => by rw [hu b hb]; exact e)).kept k3 (fun b hb e => ?_)).kept ks (fun b hb e => ?_), fun b hb => by rw [hu b (h.l.own.lt b hb).2]; exact h.lc b hb, ?_, fun b hb => ?_, rc h.h (by decide) (by decide), rc h.f (by decide) (by decide), rc h.s (by decide) (by decide), by rw [hu k hkl]; exact hck, fun b hb => ?_, h.hd, h.fd⟩, hb1, ?_, hu⟩
  · by_cases hlt : b < w.heap.size
    · have := hmh b (by simpa using hb)
      rcases e with e | ⟨q, h1, h2, h3⟩
      · rw [hu b hlt] at e; omega
      · have := (h.hc b ⟨q, h1, h1, h3⟩).1; omega
    · omega
  · simp at hb
    subst hb
    rcases e with e | ⟨q, h1, h2, h3⟩
    · rw [hu b hkl] at e; omega
    · have := (h.hc b ⟨q, h1, h1, h3⟩).1; omega
  · have ho : Own w1 0 mv' (M ++ [x]) := by unfold Own; rw [List.length_append, List.map_append]; exact hown
    exact ownsRow_kept ho ks (fun b e hm => by
      simp at hm
      subst hm
      rcases hat with q | q
      · rw [q] at e; have := hmh b e; omega
      · rw [q] at e; cases e; omega)
  · rcases hat with e | e
    · rw [e] at hb; rw [hu b (h.m.lt b hb).2]; exact hmh b hb
    · rw [e] at hb; cases hb; exact upd_new
  · have a := h.hc b hb
    exact ⟨by rw [hu b a.2]; exact a.1, Nat.lt_of_lt_of_le a.2 (Nat.le_trans k3.size ks.size)⟩
  · exact (k3.mono (T := k :: mv.ownBlock.toList) (fun i hi => Or.inl (List.mem_cons_of_mem _ hi))).trans ks (fun i hi => Or.inl (by simp at hi; simp [hi]))
/-- A marked list grows by one mark more: none of those that share its block is longer. -/
theorem BX.chain {n : Nat} {v v' : Value} {x : UInt8} (h : BX w k lv mv hv tv fv wv L F M hs hb xs ys xb col p hs.length) (hv0 : Own w 0 v (List.replicate n x)) (hvp : ∀ b, v.ownBlock = some b → col b = 0 ∨ InH hs hs.length b)
    (hu : ∀ e ∈ L, ∀ g, e.ownBlock = some g → v.ownBlock = some g → lenV e ≤ n) (hW : Kept [] w W)
    (hown : w1.ownsRow 0 5 1 v' (n + 1) ((List.replicate n x).map bv ++ [bv x])) (hgrow : W.grownBy w1 v.ownBlock)
    (hcap : (∃ g c, v = .slice (some ⟨g, 0, none⟩) n c ∧ v' = .slice (some ⟨g, 0, none⟩) (n + 1) c) ∨ (W.grownBy w1 none ∧ (v' = v ∨ v'.ownBlock = some W.heap.size))) :
    BX w1 k lv mv hv tv fv wv L F M hs hb xs ys xb (upd col W.heap.size 0) p hs.length ∧ Own w1 0 v' (List.replicate (n + 1) x) ∧ (∀ b, v'.ownBlock = some b → upd col W.heap.size 0 b = 0 ∨ v.ownBlock = some b) ∧ (∀ e ∈ L, ∀ g, e.ownBlock = some g → v'.ownBlock = some g → lenV e ≤ n + 1) ∧ Kept v.ownBlock.toList w w1 ∧ (∀ b, b < w.heap.size → upd col W.heap.size 0 b = col b) := by
  have hs0 := hW.size
  have hu2 : ∀ b, b < w.heap.size → upd col W.heap.size 0 b = col b := fun b hb => upd_old (by omega)
  have k3 : Kept v.ownBlock.toList w w1 := (hW.mono (T := v.ownBlock.toList) (fun i hi => by simp at hi)).trans ((Kept.refl _ W).grown hgrow (fun k e => Or.inl (by rw [e]; simp))) (fun i hi => Or.inl hi)
  have ho : Own w1 0 v' (List.replicate (n + 1) x) := by
    unfold Own
    rw [List.replicate_succ', List.map_append, List.length_append, List.length_replicate]
    exact hown
  have rcol : ∀ {w2 : World} {v2 : Value} {us : List Value} {gs : List (List UInt8)} {c q : Nat}, w2 = w → FrP w2 v2 us gs (fun b => col b = c) q → FrP w2 v2 us gs (fun b => upd col W.heap.size 0 b = c) q := fun {w2 v2 us gs c q} e hh => hh.recol (fun b hb hc => by subst e; rw [hu2 b hb]; exact hc)
  have lcol : FrP w lv L F (fun b => upd col W.heap.size 0 b = 0 ∨ InH hs p b) 0 := h.l.recol (fun b hb e => by rw [hu2 b hb]; exact e)
  have hcc : ∀ b, InH hs hs.length b → upd col W.heap.size 0 b = 2 ∧ b < w1.heap.size := fun b hb => by
    have a := h.hc b hb
    exact ⟨by rw [hu2 b a.2]; exact a.1, Nat.lt_of_lt_of_le a.2 k3.size⟩
  rcases hcap with ⟨g, c, rfl, rfl⟩ | ⟨hg0, hnew⟩
  · have hgp := hvp g rfl
    have hgl := (hv0.lt g rfl).2
    obtain ⟨cs, hcs⟩ : ∃ cs, w.heap[g]? = some (.cells cs 5 (0, 0)) := by
      rcases hv0.2 with ⟨e, _⟩ | ⟨g', cap, cur, e, _, hgg, _⟩
      · cases (Value.slice.inj e).1
      · have e2 : g = g' := by simpa using (Value.slice.inj e).1
        subst e2
        exact ⟨_, hgg⟩
    have hg02 : col g = 0 ∨ col g = 2 := by
      rcases hgp with e | e
      · exact Or.inl e
      · exact Or.inr (h.hc g e).1
    have k4 : Kept [g] w w1 := k3
    have nb : ∀ {e2 : TypeId} {u : Value} {m : Nat} {zs : List Value}, w.ownsRow 0 e2 1 u m zs → e2 ≠ 5 → ∀ b, u.ownBlock = some b → b ∉ [g] := fun {e2 u m zs} hr hne b hb hm => by
      simp at hm
      exact own_neB hr hcs hne b hb hm
    have cc : ∀ c, c ≠ 0 → c ≠ 2 → ∀ b ∈ [g], upd col W.heap.size 0 b = c → w.heap.size ≤ b := fun c h0 h2 b hb e => by
      simp at hb
      subst hb
      rw [hu2 b hgl] at e
      omega
    have hck := h.ck
    have hwb : W.heap.size ≠ g := by omega
    refine ⟨⟨(k4.block k (block_lt h.box) (fun hm => by simp at hm; rw [hm] at hck; omega)).trans h.box, ⟨lcol.len, ownsRow_kept lcol.own k4 (nb lcol.own (by decide)), fun i h1 h2 h3 => ?_, lcol.blk⟩, fun b hb => by rw [hu2 b (h.l.own.lt b hb).2]; exact h.lc b hb, ownsRow_kept h.m k4 (fun b e hm => by simp at hm; subst hm; have := h.mc b e; omega), fun b hb => by rw [hu2 b (h.m.lt b hb).2]; exact h.mc b hb, ⟨h.h.len, ownsRow_kept h.h.own k4 (nb h.h.own (by decide)), fun i h1 h2 h3 => by omega, fun b hb => by rw [hu2 b (h.h.own.lt b hb).2]; exact h.h.blk b hb⟩, (rcol rfl h.f).kept k4 (cc 4 (by decide) (by decide)), (rcol rfl h.s).kept k4 (cc 5 (by decide) (by decide)), by rw [hu2 k (block_lt h.box)]; exact hck, hcc, h.hd, h.fd⟩, ho, fun b hb => Or.inr (by simpa [Value.ownBlock] using hb), fun e he g' h1 h2 => Nat.le_succ_of_le (hu e he g' h1 (by simpa [Value.ownBlock] using h2)), k3, hu2⟩
    obtain ⟨a1, a2⟩ := lcol.el i h1 h2 h3
    refine ⟨?_, a2⟩
    by_cases hgb : L[i].ownBlock = some g
    · obtain ⟨ea, ec, ee⟩ := own_slice a1
      have hea : ea = some ⟨g, 0, none⟩ := by
        rcases a1.2 with ⟨e, _⟩ | ⟨g', cap', cur', e, _⟩
        · rw [e] at hgb; cases hgb
        · rw [e] at hgb ee
          cases hgb
          exact (Value.slice.inj ee).1.symm
      subst hea
      have hle := hu L[i] (List.getElem_mem h1) g hgb rfl
      rw [ee] at a1 hle ⊢
      exact own_under a1 hv0 hle hown
    · exact ownsRow_kept a1 k4 (fun b e hm => by simp at hm; subst hm; exact hgb e)
  · have k0 : Kept [] w w1 := hW.trans ((Kept.refl [] W).grown hg0 (fun k e => by cases e)) (fun i hi => by simp at hi)
    have hnb : v'.ownBlock = some W.heap.size := by
      rcases hnew with e | e
      · subst e
        exfalso
        obtain ⟨a1, c1, e1⟩ := own_slice hown
        obtain ⟨a2, c2, e2⟩ := own_slice hv0
        rw [e1] at e2
        have := (Value.slice.inj e2).2.1
        simp at this
      · exact e
    have h2 := h.pure k0
    have h3 : ∀ b, b < w.heap.size → b ≠ W.heap.size := fun b hb => by omega
    refine ⟨⟨h2.box, lcol.kept k0 (fun b hb => by simp at hb), fun b hb => by rw [hu2 b (h.l.own.lt b hb).2]; exact h.lc b hb, h2.m, fun b hb => by rw [hu2 b (h.m.lt b hb).2]; exact h.mc b hb, (rcol rfl h.h).kept k0 (fun b hb => by simp at hb), (rcol rfl h.f).kept k0 (fun b hb => by simp at hb), (rcol rfl h.s).kept k0 (fun b hb => by simp at hb), by rw [hu2 k (block_lt h.box)]; exact h.ck, hcc, h.hd, h.fd⟩, ho, fun b hb => by rw [hnb] at hb; cases hb; exact Or.inl upd_new, fun e he g' h4 h5 => ?_, k3, hu2⟩
    rw [hnb] at h5
    cases h5
    obtain ⟨i, hi, rfl⟩ := List.mem_iff_getElem.1 he
    have := ((h.l.el i hi (by rw [← h.l.len]; exact hi) (Nat.zero_le _)).1.lt _ h4).2
    omega
end
end Go.Proofs.Ytgdaiajjnfnomaa
