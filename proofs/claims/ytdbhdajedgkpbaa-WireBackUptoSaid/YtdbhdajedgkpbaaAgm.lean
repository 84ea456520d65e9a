/- WireBack: steps in memory; a stack of readers of parts of parts, each with what is left to it. No program's run. -/
import Derived.Test.YtdbhdajedgkpbaaBfl
import Derived.Test.YtdbhdajedgkpbaaRop
namespace Go.Proofs.Ytdbhdajedgkpbaa
set_option linter.unusedVariables false
open Go.RowKit

structure Stp where
  who : Int
  kind : Int
  n : Nat
  k : Int
  b : Value
  s : ByteArray
def Stp.cells (o : Stp) : List Value := [.int .i64 o.who, .int .i64 o.kind, .int .u64 o.n, .int .i64 o.k, o.b, .string o.s]
def Stp.val (o : Stp) : Value := .agg #[.int .i64 o.who, .int .i64 o.kind, .int .u64 o.n, .int .i64 o.k, o.b, .string o.s]
/-- A step can be read. -/
structure StpOk (w : World) (o : Stp) (bs : List UInt8) (T : List Nat) : Prop where
  n : o.n ≤ 18446744073709551615
  s : o.s.size ≤ 1048576
  b : Src w o.b bs T
  bl : bs.length ≤ 1048576
theorem StpOk.kept {w w' : World} {o : Stp} {bs : List UInt8} {T S : List Nat} (h : StpOk w o bs T) (hk : Kept S w w') (hd : ∀ k ∈ T, k ∉ S) : StpOk w' o bs T := ⟨h.n, h.s, h.b.kept hk hd, h.bl⟩
/-- A list of steps, as its cells stand. -/
def cellsOf : List (Stp × List UInt8) → List Value
  | [] => []
  | x :: l => x.1.cells ++ cellsOf l
theorem cellsOf_length : ∀ (l : List (Stp × List UInt8)), (cellsOf l).length = l.length * 6
  | [] => rfl
  | x :: l => by simp only [cellsOf, List.length_append, cellsOf_length l, List.length_cons, Stp.cells, List.length_nil]; omega
theorem cellsOf_append : ∀ (l m : List (Stp × List UInt8)), cellsOf (l ++ m) = cellsOf l ++ cellsOf m
  | [], m => rfl
  | x :: l, m => by simp only [List.cons_append, cellsOf, cellsOf_append l m, List.append_assoc]
theorem cellsOf_get : ∀ (l : List (Stp × List UInt8)) (i : Nat) (h : i < l.length) (j : Nat), j < 6 → (cellsOf l)[i * 6 + j]? = (l[i].1.cells)[j]?
  | x :: l, 0, h, j, hj => by
    simp only [cellsOf, Nat.zero_mul, Nat.zero_add, List.getElem_cons_zero]
    rw [List.getElem?_append_left (by simp [Stp.cells]; omega)]
  | x :: l, i + 1, h, j, hj => by
    have e : (i + 1) * 6 + j = x.1.cells.length + (i * 6 + j) := by simp [Stp.cells]; omega
    simp only [cellsOf, List.getElem_cons_succ]
    rw [e, List.getElem?_append_right (Nat.le_add_right _ _), Nat.add_sub_cancel_left]
    exact cellsOf_get l i (by simpa using h) j hj
theorem cellsOf_one (l : List (Stp × List UInt8)) : ∀ u ∈ cellsOf l, (∀ x ∈ l, x.1.b.oneCell' = true) → u.oneCell' = true := by
  induction l with
  | nil => intro u hu; simp [cellsOf] at hu
  | cons x l ih =>
    intro u hu hb
    rcases List.mem_append.1 hu with q | q
    · simp only [Stp.cells, List.mem_cons, List.not_mem_nil, or_false] at q
      rcases q with rfl | rfl | rfl | rfl | rfl | rfl
      · rfl
      · rfl
      · rfl
      · rfl
      · exact hb x (by simp)
      · rfl
    · exact ih u q (fun y hy => hb y (List.mem_cons_of_mem _ hy))
/-- A step as the mathematics sees it. -/
def seen (x : Stp × List UInt8) : Int × List UInt8 := (x.1.kind, stb x.1.kind x.1.n x.2 x.1.s)
def rp (r : Nat) : Value := .pointer (some ⟨r, 0, none⟩)

theorem ownRow_kept {w w' : World} {S : List Nat} {base : Nat} {e : TypeId} {size : Nat} {v : Value} {n : Nat} {xs : List Value} (h : w.ownsRow base e size v n xs) (hk : Kept S w w') (hd : ∀ k, v.ownBlock = some k → k ∉ S) : w'.ownsRow base e size v n xs := by
  refine ⟨h.1, ?_⟩
  rcases h.2 with h2 | ⟨g, cap, cur, rfl, a1, a2, a3, a4, a5, a6⟩
  · exact Or.inl h2
  · exact Or.inr ⟨g, cap, cur, rfl, a1, (hk.block g (block_lt a2) (hd g rfl)).trans a2, a3, a4, a5, a6⟩
theorem ownRow_neB {w : World} {base : Nat} {e t : TypeId} {size : Nat} {v : Value} {n p : Nat} {xs : List Value} {cs : Array Value} (h : w.ownsRow base e size v n xs) (hp : w.heap[p]? = some (.cells cs t (0, 0))) (hne : e ≠ t) : ∀ k, v.ownBlock = some k → k ≠ p := by
  intro k hk he
  subst he
  rcases h.2 with ⟨rfl, _⟩ | ⟨g, cap, cur, rfl, hb, hgg, _⟩
  · simp [Value.ownBlock] at hk
  · simp [Value.ownBlock] at hk
    subst hk
    rw [hgg] at hp
    simp at hp
    exact hne hp.2
theorem ownRow_slice {w : World} {base : Nat} {e : TypeId} {size : Nat} {v : Value} {n : Nat} {xs : List Value} (h : w.ownsRow base e size v n xs) : ∃ a c, v = .slice a n c ∧ n ≤ c ∧ c ≤ 9223372036854775807 ∧ (0 < n → ∃ g, a = some ⟨g, 0, none⟩) := by
  rcases h.2 with ⟨rfl, rfl⟩ | ⟨g, cap, cur, rfl, _, _, h1, h2, _⟩
  · exact ⟨_, _, rfl, Nat.le_refl _, by omega, fun h => by omega⟩
  · exact ⟨_, _, rfl, h1, by unfold maxLen at h2; omega, fun _ => ⟨g, rfl⟩⟩
/-- A row without its end. -/
theorem own_cut {w : World} {base : Nat} {e : TypeId} {a : Option Addr} {n m c : Nat} {xs : List Value} (h : w.ownsRow base e 1 (.slice a n c) n xs) (hm : m < n) : w.ownsRow base e 1 (.slice a m c) m (xs.take m) := by
  have h1 := h.1
  refine ⟨by rw [List.length_take]; omega, ?_⟩
  rcases h.2 with ⟨_, h0⟩ | ⟨g, cap, cur, hv, a1, a2, a3, a4, a5, a6⟩
  · omega
  · simp only [Value.slice.injEq] at hv
    obtain ⟨rfl, -, rfl⟩ := hv
    refine Or.inr ⟨g, c, cur, rfl, a1, a2, by omega, a4, a5, ?_⟩
    rw [← a6, List.take_take, Nat.min_eq_left (by omega), Nat.mul_one]

/-- Readers, the innermost first, each with what is left to it; N: where the outermost one ends. -/
def Stk (w : World) (T : List Nat) (N : Nat) : List (Nat × Nat × Nat) → List (List UInt8) → Prop
  | [], [] => True
  | x :: xs, r :: rs => Rd w x.1 T ⟨r, x.2.1, 0, x.2.2⟩ ∧ x.2.1 + r.length ≤ N ∧ (∀ y ∈ xs, y.1 ≠ x.1) ∧ (xs = [] → x.2.1 + r.length = N) ∧ Stk w T N xs rs
  | _, _ => False
theorem Stk.kept {w w' : World} {T S : List Nat} {N : Nat} (hk : Kept S w w') (hT : ∀ k ∈ T, k ∉ S) : ∀ (xs : List (Nat × Nat × Nat)) (rs : List (List UInt8)), Stk w T N xs rs → (∀ x ∈ xs, x.1 ∉ S) → Stk w' T N xs rs
  | [], [], _, _ => trivial
  | x :: xs, r :: rs, h, hS => ⟨h.1.kept hk (hS x (by simp)) hT, h.2.1, h.2.2.1, h.2.2.2.1, Stk.kept hk hT xs rs h.2.2.2.2 (fun y hy => hS y (List.mem_cons_of_mem _ hy))⟩
  | [], _ :: _, h, _ => h.elim
  | _ :: _, [], h, _ => h.elim
theorem Stk.lt {w : World} {T : List Nat} {N : Nat} : ∀ (xs : List (Nat × Nat × Nat)) (rs : List (List UInt8)), Stk w T N xs rs → ∀ x ∈ xs, x.1 < w.heap.size ∧ ∃ cs, w.heap[x.1]? = some (.cells cs 90 (0, 0))
  | [], [], _, x, hx => by simp at hx
  | y :: xs, r :: rs, h, x, hx => by
    rcases List.mem_cons.1 hx with rfl | hx
    · obtain ⟨v, h1, -⟩ := h.1
      exact ⟨block_lt h1, _, h1⟩
    · exact Stk.lt xs rs h.2.2.2.2 x hx
  | [], _ :: _, h, _, _ => h.elim
  | _ :: _, [], h, _, _ => h.elim

/-- What stands while the steps are read again. -/
structure AgI (w w1 : World) (T : List Nat) (N : Nat) (ov : Value) (r pos bad : Nat) (tl : List (Nat × Nat × Nat)) (r0 : List UInt8) (rs : List (List UInt8)) (wr : World) : Prop where
  stk : Stk wr T N ((r, pos, bad) :: tl) (r0 :: rs)
  out : wr.ownsRow w1.heap.size 55 1 ov tl.length (tl.reverse.map (fun x => rp x.1))
  far : ∀ x ∈ (r, pos, bad) :: tl, w.heap.size ≤ x.1
  ts : ∀ k ∈ T, k < w1.heap.size
  kept : Kept [] w wr
  big : w1.heap.size ≤ wr.heap.size
  old : w.heap.size ≤ w1.heap.size
theorem AgI.turn {w w1 wr w' : World} {T : List Nat} {N : Nat} {ov : Value} {r pos bad pos' : Nat} {tl : List (Nat × Nat × Nat)} {r0 r1 : List UInt8} {rs : List (List UInt8)} (h : AgI w w1 T N ov r pos bad tl r0 rs wr)
    (hr : Rd w' r T ⟨r1, pos', 0, bad⟩) (k : Kept [r] wr w') (e : pos' + r1.length = pos + r0.length) : AgI w w1 T N ov r pos' bad tl r1 rs w' := by
  obtain ⟨s1, s2, s3, s4, s5⟩ := h.stk
  have s2' : pos + r0.length ≤ N := s2
  have s4' : tl = [] → pos + r0.length = N := s4
  have hrT : r ∉ T := by obtain ⟨v, -, -, h3⟩ := s1; exact h3
  have hne : ∀ k, ov.ownBlock = some k → k ∉ [r] := fun k hk hm => by
    obtain ⟨v, h1, -⟩ := s1
    have := ownRow_neB h.out h1 (by decide) k hk
    simp at hm
    exact this hm
  refine ⟨⟨hr, by show pos' + r1.length ≤ N; omega, s3, fun h => by show pos' + r1.length = N; have := s4' h; omega, Stk.kept k (fun i hi hm => by simp at hm; subst hm; exact hrT hi) tl rs s5 (fun x hx hm => by simp at hm; exact s3 x hx hm)⟩, ownRow_kept h.out k hne, fun x hx => ?_, h.ts, h.kept.trans k (fun i hi => ?_), Nat.le_trans h.big k.size, h.old⟩
  · rcases List.mem_cons.1 hx with rfl | hx
    · exact h.far (r, pos, bad) (by simp)
    · exact h.far x (by simp [hx])
  · simp at hi
    subst hi
    exact Or.inr (h.far (i, pos, bad) (by simp))
theorem AgI.pure {w w1 wr w' : World} {T : List Nat} {N : Nat} {ov : Value} {r pos bad : Nat} {tl : List (Nat × Nat × Nat)} {r0 : List UInt8} {rs : List (List UInt8)} (h : AgI w w1 T N ov r pos bad tl r0 rs wr) (k : Kept [] wr w') : AgI w w1 T N ov r pos bad tl r0 rs w' :=
  ⟨Stk.kept k (fun _ _ hm => by simp at hm) _ _ h.stk (fun _ _ hm => by simp at hm), ownRow_kept h.out k (fun _ _ hm => by simp at hm), h.far, h.ts, h.kept.trans k (fun i hi => by simp at hi), Nat.le_trans h.big k.size, h.old⟩
/-- The reader is kept beneath. -/
structure AgP (w w1 : World) (T : List Nat) (N : Nat) (ov : Value) (r pos bad : Nat) (tl : List (Nat × Nat × Nat)) (r0 : List UInt8) (rs : List (List UInt8)) (wr : World) : Prop where
  stk : Stk wr T N ((r, pos, bad) :: tl) (r0 :: rs)
  out : wr.ownsRow w1.heap.size 55 1 ov (tl.length + 1) (tl.reverse.map (fun x => rp x.1) ++ [rp r])
  far : ∀ x ∈ (r, pos, bad) :: tl, w.heap.size ≤ x.1
  ts : ∀ k ∈ T, k < w1.heap.size
  kept : Kept [] w wr
  big : w1.heap.size ≤ wr.heap.size
  old : w.heap.size ≤ w1.heap.size
theorem AgI.push {w w1 wr W w2 : World} {T : List Nat} {N : Nat} {ov ov' : Value} {r pos bad n : Nat} {tl : List (Nat × Nat × Nat)} {r0 : List UInt8} {rs : List (List UInt8)} (h : AgI w w1 T N ov r pos bad tl r0 rs wr)
    (hW : Kept [] wr W) (hn : n = tl.length) (hown : w2.ownsRow w1.heap.size 55 1 ov' (n + 1) (tl.reverse.map (fun x => rp x.1) ++ [rp r])) (hg : W.grownBy w2 ov.ownBlock) : AgP w w1 T N ov' r pos bad tl r0 rs w2 := by
  subst hn
  have k2 : Kept ov.ownBlock.toList wr w2 := (hW.mono (T := ov.ownBlock.toList) (fun i hi => by simp at hi)).grown hg (fun k e => Or.inl (by rw [e]; simp))
  have hge : ∀ k ∈ ov.ownBlock.toList, w1.heap.size ≤ k := fun k hk => (h.out.lt k (by simpa using hk)).1
  refine ⟨Stk.kept k2 (fun k hk hm => by have := h.ts k hk; have := hge k hm; omega) _ _ h.stk (fun x hx hm => ?_), hown, h.far, h.ts, h.kept.trans k2 (fun i hi => Or.inr (Nat.le_trans h.old (hge i hi))), Nat.le_trans h.big k2.size, h.old⟩
  obtain ⟨-, cs, hc⟩ := Stk.lt _ _ h.stk x hx
  exact ownRow_neB h.out hc (by decide) x.1 (by simpa using hm) rfl
theorem AgP.part {w w1 wr w' : World} {T : List Nat} {N : Nat} {ov : Value} {r pos bad q : Nat} {tl : List (Nat × Nat × Nat)} {a o : List UInt8} {rs : List (List UInt8)} (h : AgP w w1 T N ov r pos bad tl (le 2 a.length ++ (a ++ o)) rs wr)
    (hq : wr.heap.size ≤ q) (h1 : Rd w' q T ⟨a, pos + 2, 0, 0⟩) (h2 : Rd w' r T ⟨o, pos + (2 + a.length), 0, bad⟩) (k : Kept [r] wr w') : AgI w w1 T N ov q (pos + 2) 0 ((r, pos + (2 + a.length), bad) :: tl) a (o :: rs) w' := by
  obtain ⟨s1, s2, s3, s4, s5⟩ := h.stk
  have s2' : pos + (le 2 a.length ++ (a ++ o)).length ≤ N := s2
  have s4' : tl = [] → pos + (le 2 a.length ++ (a ++ o)).length = N := s4
  rw [List.length_append, List.length_append, le_length] at s2' s4'
  have hrT : r ∉ T := by obtain ⟨v, -, -, h3⟩ := s1; exact h3
  have hlt := Stk.lt _ _ h.stk
  have hne : ∀ k, ov.ownBlock = some k → k ∉ [r] := fun k hk hm => by
    obtain ⟨v, h1, -⟩ := s1
    have := ownRow_neB h.out h1 (by decide) k hk
    simp at hm
    exact this hm
  have s5' := Stk.kept k (fun i hi hm => by simp at hm; subst hm; exact hrT hi) tl rs s5 (fun x hx hm => by simp at hm; exact s3 x hx hm)
  refine ⟨⟨h1, by show pos + 2 + a.length ≤ N; omega, fun y hy => ?_, (fun e => by cases e), h2, by show pos + (2 + a.length) + o.length ≤ N; omega, s3, fun e => by show pos + (2 + a.length) + o.length = N; have := s4' e; omega, s5'⟩, ?_, fun x hx => ?_, h.ts, h.kept.trans k (fun i hi => ?_), Nat.le_trans h.big k.size, h.old⟩
  · have : y.1 < wr.heap.size := by
      rcases List.mem_cons.1 hy with rfl | hy
      · exact (hlt (r, pos, bad) (by simp)).1
      · exact (hlt y (by simp [hy])).1
    show y.1 ≠ q
    omega
  · have e : ((r, pos + (2 + a.length), bad) :: tl).reverse.map (fun x => rp x.1) = tl.reverse.map (fun x => rp x.1) ++ [rp r] := by simp
    rw [e]
    exact ownRow_kept h.out k hne
  · rcases List.mem_cons.1 hx with rfl | hx
    · show w.heap.size ≤ q
      have := h.big
      have := h.old
      omega
    · rcases List.mem_cons.1 hx with rfl | hx
      · exact h.far (r, pos, bad) (by simp)
      · exact h.far x (by simp [hx])
  · simp at hi
    subst hi
    exact Or.inr (h.far (i, pos, bad) (by simp))
/-- A part's end: the reader beneath goes on. -/
theorem AgI.pop {w w1 wr : World} {T : List Nat} {N : Nat} {a : Option Addr} {c n : Nat} {r pos bad : Nat} {y : Nat × Nat × Nat} {tl : List (Nat × Nat × Nat)} {r1 : List UInt8} {rs : List (List UInt8)} {r0 : List UInt8} (hn : n = tl.length + 1) (h : AgI w w1 T N (.slice a n c) r pos bad (y :: tl) r0 (r1 :: rs) wr) :
    AgI w w1 T N (.slice a tl.length c) y.1 y.2.1 y.2.2 tl r1 rs wr := by
  subst hn
  have h5 := h.stk.2.2.2.2
  refine ⟨h5, ?_, fun x hx => h.far x (List.mem_cons_of_mem _ hx), h.ts, h.kept, h.big, h.old⟩
  have ho : wr.ownsRow w1.heap.size 55 1 (.slice a (tl.length + 1) c) (tl.length + 1) ((y :: tl).reverse.map (fun x => rp x.1)) := h.out
  have hc := own_cut ho (Nat.lt_succ_self tl.length)
  have e : (((y :: tl).reverse.map (fun x => rp x.1)).take tl.length) = tl.reverse.map (fun x => rp x.1) := by
    rw [List.reverse_cons, List.map_append]
    rw [List.take_append_of_le_length (by simp)]
    exact List.take_of_length_le (by simp)
  rw [e] at hc
  exact hc
/-- What the list's last element is. -/
theorem AgI.last {w w1 wr : World} {T : List Nat} {N : Nat} {ov : Value} {r pos bad : Nat} {y : Nat × Nat × Nat} {tl : List (Nat × Nat × Nat)} {r0 : List UInt8} {rs : List (List UInt8)} (h : AgI w w1 T N ov r pos bad (y :: tl) r0 rs wr) :
    ∃ g c, ov = .slice (some ⟨g, 0, none⟩) (tl.length + 1) c ∧ tl.length + 1 ≤ c ∧ c ≤ 9223372036854775807 ∧ wr.cell? ⟨g, tl.length, none⟩ = some (rp y.1) := by
  obtain ⟨a, c, rfl, hc1, hc2, hg⟩ := ownRow_slice h.out
  obtain ⟨g, rfl⟩ := hg (by simp)
  refine ⟨g, c, rfl, by simpa using hc1, hc2, ?_⟩
  have := h.out.cells (g := g) rfl tl.length (rp y.1) (by simp)
  rw [Addr.add_lit, Nat.zero_add] at this
  exact this
end Go.Proofs.Ytdbhdajedgkpbaa
