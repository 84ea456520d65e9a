/- Maps in memory, by what they answer, with the stamps of their entries, ranged over: 'Mp M w b n f': block b is a map of n entries that answers f. Keys by an encoding of one's own (numbers, pairs). Whatever program; no program's run. -/
import Derived.Test.YtjogpafbiackbaaKept
import Derived.Maps.OwnSet
import Derived.WalkArith
import Derived.Maps.RangeRun
namespace Go.Proofs.Ytjogpafbiackbaa.Mpf
open Go.Proofs.Ytjogpafbiackbaa
open Go.RowKit Go.ChangeMaps Go.MapKept
open Go.Maps (Keyed)

/-- A kind of map: its keys' type, how a key lies, which ones may be. -/
structure MapK (P : Program) (k : TypeId) (K : Type) where
  enc : K → Value
  ok : K → Prop
  keyed : Keyed P k
  key : ∀ x, ok x → ∃ l, keyOf P k (enc x) = some l
  inj : ∀ x y, enc x = enc y → x = y

variable {P : Program} {k : TypeId} {K : Type}

def upd {K : Type} [DecidableEq K] (f : K → Option Value) (x : K) (v : Option Value) : K → Option Value := fun y => if y = x then v else f y
theorem upd_same {K : Type} [DecidableEq K] (f : K → Option Value) (x : K) (v : Option Value) : upd f x v x = v := by simp [upd]
theorem upd_other {K : Type} [DecidableEq K] (f : K → Option Value) {x y : K} (v : Option Value) (h : y ≠ x) : upd f x v y = f y := by simp [upd, h]

/-- The entries answer f. -/
structure Ans (M : MapK P k K) (es : List MapEntry) (f : K → Option Value) : Prop where
  there : ∀ e ∈ es, ∃ x, M.ok x ∧ e.key = M.enc x ∧ f x = some e.val
  all : ∀ x v, f x = some v → ∃ e ∈ es, e.key = M.enc x
  apart : es.Pairwise fun a b => a.key ≠ b.key
  born : es.Pairwise fun a b => a.born ≠ b.born

/-- Block b of w is a map of n entries that answers f. -/
def Mp (M : MapK P k K) (w : World) (b n : Nat) (f : K → Option Value) : Prop :=
  ∃ es clock, w.heap[b]? = some (.map es clock) ∧ es.size = n ∧ Ans M es.toList f ∧ ∀ e ∈ es.toList, e.born < clock

variable {M : MapK P k K} {w : World} {b n : Nat} {f : K → Option Value}

theorem Mp.lt (h : Mp M w b n f) : b < w.heap.size := by
  obtain ⟨es, clock, hb, _⟩ := h
  exact (Array.getElem?_eq_some_iff.1 hb).1
theorem Mp.of_block {w' : World} (h : Mp M w b n f) (e : w'.heap[b]? = w.heap[b]?) : Mp M w' b n f := by
  obtain ⟨es, clock, hb, r⟩ := h
  exact ⟨es, clock, e.trans hb, r⟩
theorem Mp.kept {S : List Nat} {w' : World} (h : Mp M w b n f) (hk : Kept S w w') (hb : b ∉ S) : Mp M w' b n f := h.of_block (hk.block b h.lt hb)
theorem Mp.setCell (h : Mp M w b n f) {a : Addr} (ha : a.block ≠ b) (u : Value) : Mp M (w.setCell a u) b n f :=
  h.of_block (Below.heap_setCell _ _ _ _ (fun e => ha e.symm))
theorem Mp.alloc (h : Mp M w b n f) (o : Obj) : Mp M (w.alloc o) b n f := h.of_block (Below.heap_alloc _ _ _ h.lt)
theorem Mp.drew (h : Mp M w b n f) : Mp M w.drew b n f := h
/-- What is no row is no map. -/
theorem Mp.ne {w : World} {p : Nat} (h : Mp M w b n f) {cs : Array Value} {t : TypeId} {z : Nat × Nat} (hp : w.heap[p]? = some (.cells cs t z)) : b ≠ p := by
  rintro rfl
  obtain ⟨es, clock, hb, _⟩ := h
  rw [hp] at hb
  cases hb
theorem Mp.made (M : MapK P k K) (w : World) : Mp M (w.alloc (.map #[] 0)) w.heap.size 0 (fun _ => none) :=
  ⟨#[], 0, (MapKept.heap_alloc w _).1, rfl, ⟨fun e he => (by simp at he), fun x v h => (by cases h), by simp, by simp⟩, fun e he => (by simp at he)⟩
theorem Mp.nothing (h : Mp M w b 0 f) (x : K) : f x = .none := by
  obtain ⟨es, clock, hb, hs, A, hst⟩ := h
  cases hx : f x with
  | none => rfl
  | some v =>
    obtain ⟨e, he, _⟩ := A.all x v hx
    have : es.toList = [] := by simpa using hs
    rw [this] at he
    cases he

theorem Ans.keys {es : List MapEntry} (A : Ans M es f) : ∀ e ∈ es, ∃ l, keyOf P k e.key = some l := by
  intro e he
  obtain ⟨x, hx, hk, _⟩ := A.there e he
  rw [hk]
  exact M.key x hx

/-- The find of a key. -/
theorem Ans.find {es : List MapEntry} (A : Ans M es f) (w : World) {x : K} (hx : M.ok x) :
    ((Instr.findKey k (M.enc x) es).run P w = .ok none w ∧ f x = none ∧ ∀ e ∈ es, e.key ≠ M.enc x) ∨
      ∃ j e, (Instr.findKey k (M.enc x) es).run P w = .ok (some (j, e.val)) w ∧ es[j]? = some e ∧ e.key = M.enc x ∧ f x = some e.val := by
  obtain ⟨l, hl⟩ := M.key x hx
  rcases M.keyed.find w hl es A.keys with ⟨h1, h2⟩ | ⟨j, e, h1, h2, h3⟩
  · refine Or.inl ⟨h1, ?_, h2⟩
    cases hf : f x with
    | none => rfl
    | some v =>
      obtain ⟨e, he, hk⟩ := A.all x v hf
      exact absurd hk (h2 e he)
  · refine Or.inr ⟨j, e, h1, h2, h3, ?_⟩
    obtain ⟨y, _, hk, hf⟩ := A.there e (List.mem_of_getElem? h2)
    rw [h3] at hk
    rw [M.inj x y hk]
    exact hf

theorem Mp.look {t e : TypeId} (h : Mp M w b n f) (ht : P.underlying t = some (.map k e)) {z : Value} (hz : (zeroValue e).run P w = .ok z w) {x : K} (hx : M.ok x) (c : Bool) :
    (Instr.lookup t (.map (some b)) (M.enc x) c).run P w = .ok (if c then .tuple #[(f x).getD z, .bool (f x).isSome] else (f x).getD z) w := by
  obtain ⟨es, clock, hb, hs, A, hst⟩ := h
  obtain ⟨l, hl⟩ := M.key x hx
  rcases A.find w hx with ⟨h1, h2, _⟩ | ⟨j, e0, h1, _, _, h2⟩
  · cases c <;> simp [Instr.lookup, run_underlying ht, MapKept.run_getObj_map hb, M.keyed.check w _ hl, h1, hz, h2, Result.andThen]
  · cases c <;> simp [Instr.lookup, run_underlying ht, MapKept.run_getObj_map hb, M.keyed.check w _ hl, h1, h2, Result.andThen]

theorem Mp.len {t e : TypeId} (h : Mp M w b n f) (ht : P.underlying t = some (.map k e)) (ty : TypeId) : (Builtin.len_ #[t] ty #[.map (some b)]).run P w = .ok (.int .i64 n) w := by
  obtain ⟨es, clock, hb, hs, _, _⟩ := h
  subst hs
  simp [Builtin.len_, run_underlying ht, MapKept.run_getObj_map hb, goInt, Result.andThen]

theorem kept_setBlock {es : Array MapEntry} {clock : Nat} (hb : w.heap[b]? = some (.map es clock)) (o : Obj) : Kept [b] w (setBlock w b o) :=
  ⟨rfl, rfl, rfl, by simp [setBlock], fun i _ hi => heap_setBlock_other hb _ (fun e => hi (by simp [e]))⟩

theorem modify_set (es : Array MapEntry) (j : Nat) (g : MapEntry → MapEntry) {e0 : MapEntry} (h : es.toList[j]? = some e0) : (es.modify j g).toList = es.toList.set j (g e0) := by
  rw [Array.toList_modify, modify_eq_set _ _ _ _ h]

theorem mem_set_apart {es : List MapEntry} (ha : es.Pairwise fun a b => a.key ≠ b.key) {j : Nat} {e0 e1 : MapEntry} (h : es[j]? = some e0) {e : MapEntry} (he : e ∈ es.set j e1) : e = e1 ∨ (e ∈ es ∧ e.key ≠ e0.key) := by
  obtain ⟨i, hi, ex⟩ := List.getElem_of_mem he
  rw [List.getElem_set] at ex
  split at ex
  · exact Or.inl ex.symm
  · rename_i hne
    have hi' : i < es.length := by simpa using hi
    have hj' : j < es.length := (List.getElem?_eq_some_iff.1 h).1
    have hj2 : es[j] = e0 := (List.getElem?_eq_some_iff.1 h).2
    refine Or.inr ⟨ex ▸ List.getElem_mem hi', ?_⟩
    rw [List.pairwise_iff_getElem] at ha
    rcases Nat.lt_trichotomy i j with q | q | q
    · have := ha i j hi' hj' q; rw [ex, hj2] at this; exact this
    · exact absurd q.symm hne
    · have := ha j i hj' hi' q; rw [ex, hj2] at this; exact fun e => this e.symm

theorem Mp.update [DecidableEq K] {t e : TypeId} (h : Mp M w b n f) (ht : P.underlying t = some (.map k e)) {x : K} (hx : M.ok x) (v : Value) :
    ∃ w', (Instr.mapUpdate t (.map (some b)) (M.enc x) v).run P w = .ok () w' ∧ Mp M w' b (if (f x).isSome then n else n + 1) (upd f x (some v)) ∧ Kept [b] w w' ∧ w'.heap.size = w.heap.size := by
  obtain ⟨es, clock, hb, hs, A, hst⟩ := h
  obtain ⟨l, hl⟩ := M.key x hx
  rcases A.find w hx with ⟨h1, h2, h4⟩ | ⟨j, e0, h1, h5, h3, h2⟩
  · refine ⟨setBlock w b (.map (es.push ⟨M.enc x, v, clock⟩) (clock + 1)), ?_, ⟨_, _, heap_setBlock_same hb _, by simp [h2, hs], ⟨?_, ?_, ?_, ?_⟩, ?_⟩, kept_setBlock hb _, by simp [setBlock]⟩
    · simp [Instr.mapUpdate, run_underlying ht, MapKept.run_getObj_map hb, M.keyed.check w false hl, h1, MapKept.run_setObj_map _ hb, Result.andThen, setBlock]
    · intro e he
      simp only [Array.toList_push, List.mem_append, List.mem_singleton] at he
      rcases he with he | rfl
      · obtain ⟨y, hy, hk, hf⟩ := A.there e he
        refine ⟨y, hy, hk, ?_⟩
        rw [upd_other]
        · exact hf
        · rintro rfl; exact h4 e he hk
      · exact ⟨x, hx, rfl, upd_same _ _ _⟩
    · intro y u hy
      by_cases hyx : y = x
      · subst hyx; exact ⟨⟨M.enc y, v, clock⟩, by simp, rfl⟩
      · rw [upd_other _ _ hyx] at hy
        obtain ⟨e, he, hk⟩ := A.all y u hy
        exact ⟨e, by simp [he], hk⟩
    · rw [Array.toList_push, List.pairwise_append]
      exact ⟨A.apart, by simp, fun a ha c hc => by simp only [List.mem_singleton] at hc; subst hc; exact h4 a ha⟩
    · rw [Array.toList_push, List.pairwise_append]
      exact ⟨A.born, by simp, fun a ha c hc => by simp only [List.mem_singleton] at hc; subst hc; have := hst a ha; simp; omega⟩
    · intro e he
      simp only [Array.toList_push, List.mem_append, List.mem_singleton] at he
      rcases he with he | rfl
      · have := hst e he; omega
      · simp
  · have hj : es[j]? = some e0 := by simpa using h5
    have hlist := modify_set es j (fun e' => { e' with key := M.enc x, val := v }) h5
    refine ⟨setBlock w b (.map (es.modify j (fun e' => { e' with key := M.enc x, val := v })) clock), ?_, ⟨_, _, heap_setBlock_same hb _, by simp [h2, hs], ⟨?_, ?_, ?_, ?_⟩, ?_⟩, kept_setBlock hb _, by simp [setBlock]⟩
    · simp [Instr.mapUpdate, run_underlying ht, MapKept.run_getObj_map hb, M.keyed.check w false hl, h1, hj, h3, M.keyed.stays w hl, MapKept.run_setObj_map _ hb, Result.andThen, setBlock]
    · intro e he
      rw [hlist] at he
      rcases mem_set_apart A.apart h5 he with rfl | ⟨he', hne⟩
      · exact ⟨x, hx, rfl, upd_same _ _ _⟩
      · obtain ⟨y, hy, hk, hf⟩ := A.there e he'
        refine ⟨y, hy, hk, ?_⟩
        rw [upd_other]
        · exact hf
        · rintro rfl; exact hne (hk.trans h3.symm)
    · intro y u hy
      rw [hlist]
      have hjl : j < es.toList.length := (List.getElem?_eq_some_iff.1 h5).1
      by_cases hyx : y = x
      · subst hyx; exact ⟨{ e0 with key := M.enc y, val := v }, List.mem_iff_getElem.2 ⟨j, by simpa using hjl, by simp⟩, rfl⟩
      · rw [upd_other _ _ hyx] at hy
        obtain ⟨e, he, hk⟩ := A.all y u hy
        obtain ⟨i, hi, ex⟩ := List.getElem_of_mem he
        refine ⟨e, List.mem_iff_getElem.2 ⟨i, by simpa using hi, ?_⟩, hk⟩
        rw [List.getElem_set, if_neg]
        · exact ex
        · rintro rfl
          have := (List.getElem?_eq_some_iff.1 h5).2
          rw [ex] at this
          subst this
          exact hyx (M.inj _ _ (hk.symm.trans h3))
    · rw [hlist]
      rw [List.pairwise_iff_getElem]
      intro i i' hi hi' hlt
      have hA := List.pairwise_iff_getElem.1 A.apart
      have hj2 : ∀ (h : j < es.toList.length), es.toList[j] = e0 := fun _ => (List.getElem?_eq_some_iff.1 h5).2
      rw [List.getElem_set, List.getElem_set]
      rw [List.length_set] at hi hi'
      split <;> split
      · omega
      · rename_i q _; subst q
        have := hA j i' hi hi' hlt
        rw [hj2 hi, h3] at this
        exact this
      · rename_i _ q; subst q
        have := hA i j hi hi' hlt
        rw [hj2 hi', h3] at this
        exact this
      · exact hA i i' hi hi' hlt
    · rw [hlist, List.pairwise_iff_getElem]
      intro i i' hi hi' hlt
      have hA := List.pairwise_iff_getElem.1 A.born
      have hj2 : ∀ (h : j < es.toList.length), es.toList[j] = e0 := fun _ => (List.getElem?_eq_some_iff.1 h5).2
      rw [List.getElem_set, List.getElem_set]
      rw [List.length_set] at hi hi'
      split <;> split
      · omega
      · rename_i q _; subst q
        have := hA j i' hi hi' hlt
        rw [hj2 hi] at this
        exact this
      · rename_i _ q; subst q
        have := hA i j hi hi' hlt
        rw [hj2 hi'] at this
        exact this
      · exact hA i i' hi hi' hlt
    · intro e he
      rw [hlist] at he
      rcases mem_set_apart A.apart h5 he with rfl | ⟨he', -⟩
      · exact hst e0 (List.mem_of_getElem? h5)
      · exact hst e he'

theorem Mp.drop [DecidableEq K] {t e : TypeId} (h : Mp M w b n f) (ht : P.underlying t = some (.map k e)) {x : K} (hx : M.ok x) (ty : TypeId) :
    ∃ w', (Builtin.delete_ #[t, k] ty #[.map (some b), M.enc x]).run P w = .ok (.tuple #[]) w' ∧ Mp M w' b (if (f x).isSome then n - 1 else n) (upd f x none) ∧ Kept [b] w w' ∧ w'.heap.size = w.heap.size := by
  obtain ⟨es, clock, hb, hs, A, hst⟩ := h
  obtain ⟨l, hl⟩ := M.key x hx
  rcases A.find w hx with ⟨h1, h2, h4⟩ | ⟨j, e0, h1, h5, h3, h2⟩
  · refine ⟨setBlock w b (.map es clock), ?_, ⟨_, _, heap_setBlock_same hb _, by simp [h2, hs], ⟨?_, ?_, A.apart, A.born⟩, hst⟩, kept_setBlock hb _, by simp [setBlock]⟩
    · simp [Builtin.delete_, run_underlying ht, MapKept.run_getObj_map hb, M.keyed.check w _ hl, h1, MapKept.run_setObj_map _ hb, Result.andThen, setBlock]
    · intro e he
      obtain ⟨y, hy, hk, hf⟩ := A.there e he
      refine ⟨y, hy, hk, ?_⟩
      rw [upd_other]
      · exact hf
      · rintro rfl; exact h4 e he hk
    · intro y u hy
      by_cases hyx : y = x
      · subst hyx; rw [upd_same] at hy; cases hy
      · rw [upd_other _ _ hyx] at hy
        exact A.all y u hy
  · have hjl : j < es.toList.length := (List.getElem?_eq_some_iff.1 h5).1
    have hj2 : es.toList[j] = e0 := (List.getElem?_eq_some_iff.1 h5).2
    have hlist : (es.eraseIdxIfInBounds j).toList = es.toList.eraseIdx j := by simp [Array.eraseIdxIfInBounds]; split <;> rename_i q <;> simp_all
    have hA := List.pairwise_iff_getElem.1 A.apart
    refine ⟨setBlock w b (.map (es.eraseIdxIfInBounds j) clock), ?_, ⟨_, _, heap_setBlock_same hb _, ?_, ⟨?_, ?_, ?_, ?_⟩, ?_⟩, kept_setBlock hb _, by simp [setBlock]⟩
    · simp [Builtin.delete_, run_underlying ht, MapKept.run_getObj_map hb, M.keyed.check w _ hl, h1, MapKept.run_setObj_map _ hb, Result.andThen, setBlock]
    · have : (es.eraseIdxIfInBounds j).toList.length = es.size - 1 := by rw [hlist, List.length_eraseIdx, if_pos hjl]; simp
      simp only [Array.length_toList] at this
      rw [this, h2, hs]; rfl
    · intro e he
      rw [hlist] at he
      obtain ⟨i, hne, hi⟩ := List.mem_eraseIdx_iff_getElem?.1 he
      obtain ⟨y, hy, hk, hf⟩ := A.there e (List.mem_of_getElem? hi)
      refine ⟨y, hy, hk, ?_⟩
      rw [upd_other]
      · exact hf
      · rintro rfl
        have hil := (List.getElem?_eq_some_iff.1 hi).1
        have hie := (List.getElem?_eq_some_iff.1 hi).2
        rcases Nat.lt_or_ge i j with q | q
        · have := hA i j hil hjl q; rw [hie, hj2] at this; exact this (hk.trans h3.symm)
        · have := hA j i hjl hil (by omega); rw [hie, hj2] at this; exact this (h3.trans hk.symm)
    · intro y u hy
      rw [hlist]
      by_cases hyx : y = x
      · subst hyx; rw [upd_same] at hy; cases hy
      · rw [upd_other _ _ hyx] at hy
        obtain ⟨e, he, hk⟩ := A.all y u hy
        obtain ⟨i, hi, ex⟩ := List.getElem_of_mem he
        refine ⟨e, List.mem_eraseIdx_iff_getElem?.2 ⟨i, ?_, by rw [List.getElem?_eq_getElem hi, ex]⟩, hk⟩
        rintro rfl
        rw [ex] at hj2
        subst hj2
        exact hyx (M.inj _ _ (hk.symm.trans h3))
    · rw [hlist]
      exact A.apart.sublist (List.eraseIdx_sublist _ _)
    · rw [hlist]
      exact A.born.sublist (List.eraseIdx_sublist _ _)
    · intro e he
      rw [hlist] at he
      exact hst e (List.mem_of_mem_eraseIdx he)

/-- 'clear(m)'. -/
theorem Mp.clear {t e : TypeId} (h : Mp M w b n f) (ht : P.underlying t = some (.map k e)) (ty : TypeId) :
    ∃ w', (Builtin.clear_ #[t] ty #[.map (some b)]).run P w = .ok (.tuple #[]) w' ∧ Mp M w' b 0 (fun _ => none) ∧ Kept [b] w w' ∧ w'.heap.size = w.heap.size := by
  obtain ⟨es, clock, hb, hs, A, hst⟩ := h
  refine ⟨setBlock w b (.map #[] clock), ?_, ⟨_, _, heap_setBlock_same hb _, rfl, ⟨fun e he => (by simp at he), fun x v h => (by cases h), by simp, by simp⟩, fun e he => (by simp at he)⟩, kept_setBlock hb _, by simp [setBlock]⟩
  simp [Builtin.clear_, run_underlying ht, MapKept.run_getObj_map hb, MapKept.run_setObj_map _ hb, Result.andThen, setBlock]

/-! ### at the operation, for the walk -/
section
variable (w : World) {ops : Array Oper} {rest : List Oper} {o : Oper} {a : Act} {Q : Exit → Act → World → Prop}

/-- 'v, ok := m[k]'. -/
theorem wpList_look_ok (M : MapK P k K) (hg : o.guard = none) (m x : Operand) (t : TypeId) (hop : o.op = Op.lookup t m x true) (e : TypeId) (ht : P.underlying t = some (.map k e)) {z : Value} (hz : (zeroValue e).run P w = .ok z w) {b n : Nat} {f : K → Option Value}
    (h : Mp M w b n f) (hm : a.eval m = .map (some b)) (y : K) (hy : M.ok y) (hx : a.eval x = M.enc y)
    (hK : wpList P ops Q rest (a.put o.dst (.tuple #[(f y).getD z, .bool (f y).isSome])) w) : wpList P ops Q (o :: rest) a w := by
  refine wpList_plain hg fun K' hK' => ?_
  have hrun := h.look ht hz hy true
  unfold Oper.wp
  simp [execOp, hop, hm, hx, hrun, Result.andThen]
  exact hK' _ _ hK
/-- 'm[k]'. -/
theorem wpList_look (M : MapK P k K) (hg : o.guard = none) (m x : Operand) (t : TypeId) (hop : o.op = Op.lookup t m x false) (e : TypeId) (ht : P.underlying t = some (.map k e)) {z : Value} (hz : (zeroValue e).run P w = .ok z w) {b n : Nat} {f : K → Option Value}
    (h : Mp M w b n f) (hm : a.eval m = .map (some b)) (y : K) (hy : M.ok y) (hx : a.eval x = M.enc y)
    (hK : wpList P ops Q rest (a.put o.dst ((f y).getD z)) w) : wpList P ops Q (o :: rest) a w := by
  refine wpList_plain hg fun K' hK' => ?_
  have hrun := h.look ht hz hy false
  unfold Oper.wp
  simp [execOp, hop, hm, hx, hrun, Result.andThen]
  exact hK' _ _ hK
/-- 'm[k] = v'. -/
theorem wpList_update [DecidableEq K] (M : MapK P k K) (hg : o.guard = none) (m x v : Operand) (t : TypeId) (hop : o.op = Op.mapUpdate t m x v) (e : TypeId) (ht : P.underlying t = some (.map k e)) {b n : Nat} {f : K → Option Value}
    (h : Mp M w b n f) (hm : a.eval m = .map (some b)) (y : K) (hy : M.ok y) (hx : a.eval x = M.enc y) (u : Value) (hv : a.eval v = u)
    (hK : ∀ w', Mp M w' b (if (f y).isSome then n else n + 1) (upd f y (some u)) → Kept [b] w w' → w'.heap.size = w.heap.size → wpList P ops Q rest (a.put o.dst undef) w') : wpList P ops Q (o :: rest) a w := by
  refine wpList_plain hg fun K' hK' => ?_
  obtain ⟨w', hrun, r1, r2, r3⟩ := h.update ht hy u
  unfold Oper.wp
  simp [execOp, hop, hm, hx, hv, hrun, Result.andThen]
  exact hK' _ _ (hK w' r1 r2 r3)
/-- 'delete(m, k)'. -/
theorem wpList_drop [DecidableEq K] (M : MapK P k K) (hg : o.guard = none) (m x : Operand) (t : TypeId) (hop : o.op = Op.call { callee := Callee.builtin Builtin.delete, args := #[m, x], argTypes := #[t, k] }) (e : TypeId) (ht : P.underlying t = some (.map k e)) {b n : Nat} {f : K → Option Value}
    (h : Mp M w b n f) (hm : a.eval m = .map (some b)) (y : K) (hy : M.ok y) (hx : a.eval x = M.enc y)
    (hK : ∀ w', Mp M w' b (if (f y).isSome then n - 1 else n) (upd f y none) → Kept [b] w w' → w'.heap.size = w.heap.size → wpList P ops Q rest (a.put o.dst (.tuple #[])) w') : wpList P ops Q (o :: rest) a w := by
  refine wpList_plain hg fun K' hK' => ?_
  obtain ⟨w', hrun, r1, r2, r3⟩ := h.drop ht hy o.type
  unfold Oper.wp
  simp [execOp, hop, resolve, invoke, builtin, hm, hx, hrun, Result.andThen]
  exact hK' _ _ (hK w' r1 r2 r3)
/-- 'len(m)'. -/
theorem wpList_size (M : MapK P k K) (hg : o.guard = none) (m : Operand) (t : TypeId) (hop : o.op = Op.call { callee := Callee.builtin Builtin.len, args := #[m], argTypes := #[t] }) (e : TypeId) (ht : P.underlying t = some (.map k e)) {b n : Nat} {f : K → Option Value}
    (h : Mp M w b n f) (hm : a.eval m = .map (some b)) (hK : wpList P ops Q rest (a.put o.dst (.int .i64 n)) w) : wpList P ops Q (o :: rest) a w := by
  refine wpList_plain hg fun K' hK' => ?_
  unfold Oper.wp
  simp [execOp, hop, resolve, invoke, builtin, hm, h.len ht o.type, Result.andThen]
  exact hK' _ _ hK
/-- 'len(m)' as a step of a region. -/
theorem step_size {E : Prop} {K' : Act → World → Prop} (M : MapK P k K) (hg : o.guard = none) (m : Operand) (t : TypeId) (hop : o.op = Op.call { callee := Callee.builtin Builtin.len, args := #[m], argTypes := #[t] }) (e : TypeId) (ht : P.underlying t = some (.map k e)) {b n : Nat} {f : K → Option Value}
    (h : Mp M w b n f) (hm : a.eval m = .map (some b)) (hK : K' (a.put o.dst (.int .i64 n)) w) :
    if Region.wanted o (yielded ops a.tmps) = true then Oper.wp P o a w K' Q else E := by
  have hw : Region.wanted o (yielded ops a.tmps) = true := by simp [Region.wanted, hg]
  rw [if_pos hw]
  unfold Oper.wp
  simp [execOp, hop, resolve, invoke, builtin, hm, h.len ht o.type, Result.andThen]
  exact hK
end

/-- Keys that are numbers. -/
def numK {P : Program} {k : TypeId} (hk : P.underlying k = some (.int .u64)) : MapK P k Nat where
  enc n := .int .u64 n
  ok n := n < 18446744073709551616
  keyed := Go.Maps.int_keyed hk
  key x hx := ⟨_, Go.Maps.keyOf_int_mk hk (by have hx2 : x < 18446744073709551616 := hx; exact WalkArith.wf_u64 (by omega))⟩
  inj x y h := by simp at h; omega
/-! ### ranged over -/
/-- Block r goes through the map b; done: the keys met so far. -/
def Rg (M : MapK P k K) (w : World) (b r n : Nat) (f : K → Option Value) (done : List K) : Prop :=
  ∃ es clock since seen c0, w.heap[b]? = some (.map es clock) ∧ es.size = n ∧ Ans M es.toList f ∧ (∀ e ∈ es.toList, e.born < clock) ∧ w.heap[r]? = some (.mapIter (some b) since seen c0) ∧ (∀ e ∈ es.toList, e.born < since) ∧ since ≤ c0 ∧ since ≤ clock ∧
    (∀ e ∈ es.toList, ∀ x, e.key = M.enc x → (seen.contains e.born = true ↔ x ∈ done)) ∧ (∀ x ∈ done, M.ok x ∧ (f x).isSome = true) ∧ done.Nodup
theorem Rg.map {w : World} {b r n : Nat} {f : K → Option Value} {done : List K} (h : Rg M w b r n f done) : Mp M w b n f := by
  obtain ⟨es, clock, since, seen, c0, hb, hs, A, hst, _⟩ := h
  exact ⟨es, clock, hb, hs, A, hst⟩
theorem Rg.ne {w : World} {b r n : Nat} {f : K → Option Value} {done : List K} (h : Rg M w b r n f done) : r ≠ b := by
  obtain ⟨es, clock, since, seen, c0, hb, hs, A, hst, hr, _⟩ := h
  intro e
  rw [e, hb] at hr
  cases hr
theorem Rg.lt {w : World} {b r n : Nat} {f : K → Option Value} {done : List K} (h : Rg M w b r n f done) : r < w.heap.size := by
  obtain ⟨es, clock, since, seen, c0, hb, hs, A, hst, hr, _⟩ := h
  exact (Array.getElem?_eq_some_iff.1 hr).1
theorem Rg.kept {S : List Nat} {w w' : World} {b r n : Nat} {f : K → Option Value} {done : List K} (h : Rg M w b r n f done) (k' : Kept S w w') (hb' : b ∉ S) (hr' : r ∉ S) : Rg M w' b r n f done := by
  have h1 := h.map.lt
  have h2 := h.lt
  obtain ⟨es, clock, since, seen, c0, hb, hs, A, hst, hr, q⟩ := h
  exact ⟨es, clock, since, seen, c0, (k'.block b h1 hb').trans hb, hs, A, hst, (k'.block r h2 hr').trans hr, q⟩
/-- How many are left. -/
def leftN (w : World) (b r : Nat) : Nat :=
  match w.heap[b]?, w.heap[r]? with
  | some (.map es _), some (.mapIter _ _ seen _) => (leftOf es seen).size
  | _, _ => 0
theorem leftN_eq {w : World} {b r : Nat} {es : Array MapEntry} {ck : Nat} {m : Option Nat} {s : Nat} {seen : Array Nat} {c : Nat} (hb : w.heap[b]? = some (.map es ck)) (hr : w.heap[r]? = some (.mapIter m s seen c)) : leftN w b r = (leftOf es seen).size := by
  unfold leftN
  rw [hb, hr]
theorem leftN_kept {S : List Nat} {w w' : World} {b r : Nat} (k : Kept S w w') (hb : b ∉ S) (hr : r ∉ S) (lb : b < w.heap.size) (lr : r < w.heap.size) : leftN w' b r = leftN w b r := by
  unfold leftN
  rw [k.block b lb hb, k.block r lr hr]
theorem Mp.rg {w : World} {b n : Nat} {f : K → Option Value} (h : Mp M w b n f) {t e : TypeId} (ht : P.underlying t = some (.map k e)) :
    ∃ w', (Instr.range t (.map (some b))).run P w = .ok (.pointer (some ⟨w.heap.size, 0, none⟩)) w' ∧ Rg M w' b w.heap.size n f [] ∧ Kept [] w w' ∧ w'.heap.size = w.heap.size + 1 := by
  have hlt := h.lt
  obtain ⟨es, clock, hb, hs, A, hst⟩ := h
  refine ⟨_, run_range_map w t k e b es clock ht hb, ⟨es, clock, clock, #[], clock, ((MapKept.heap_alloc w _).2 b hlt).trans hb, hs, A, hst, (MapKept.heap_alloc w _).1, hst, Nat.le_refl _, Nat.le_refl _, fun e he x hx => by simp, by simp, by simp⟩, (Kept.refl _ _).alloc _, by simp⟩
theorem nodup_born {es : List MapEntry} {f : K → Option Value} (A : Ans M es f) : (es.map (·.born)).Nodup := by
  rw [List.Nodup, List.pairwise_map]
  exact A.born
theorem Rg.next {w : World} {b r n : Nat} {f : K → Option Value} {done : List K} (h : Rg M w b r n f done) (ty : TypeId) :
    ((∀ x, (f x).isSome = true → M.ok x → x ∈ done) ∧ (Instr.next (.pointer (some ⟨r, 0, none⟩)) false ty).run P w = .ok (.tuple #[.bool false]) w) ∨
    ∃ x v w', M.ok x ∧ f x = some v ∧ x ∉ done ∧ (Instr.next (.pointer (some ⟨r, 0, none⟩)) false ty).run P w = .ok (.tuple #[.bool true, M.enc x, v]) w' ∧
      Rg M w' b r n f (done ++ [x]) ∧ leftN w' b r < leftN w b r ∧ Kept [r] w w' ∧ w'.heap.size = w.heap.size ∧ (Instr.entry (.pointer (some ⟨r, 0, none⟩))).run P w' = .ok (.tuple #[M.enc x, v]) w' := by
  have hne := h.ne
  obtain ⟨es, clock, since, seen, c0, hb, hs, A, hst, hr, hold, hsc, hsk, hsd, hd, hnd⟩ := h
  have hborn := nodup_born A
  rcases run_next_at (P := P) w ty r b since c0 seen es clock hr hb hold hsc with ⟨h0, hrun⟩ | ⟨e, he, w1, hal, hrun⟩
  · refine Or.inl ⟨fun x hx hok => ?_, hrun⟩
    obtain ⟨v, hv⟩ := Option.isSome_iff_exists.1 hx
    obtain ⟨e, he, hk⟩ := A.all x v hv
    exact (hsd e he x hk).1 (all_seen es seen h0 e he)
  · obtain ⟨hem, hes⟩ := mem_left he
    obtain ⟨x, hx, hk, hf⟩ := A.there e hem
    have hr1 : w1.heap[r]? = some (.mapIter (some b) since seen c0) := by rcases hal with rfl | rfl <;> exact hr
    have hb1 : w1.heap[b]? = some (.map es clock) := by rcases hal with rfl | rfl <;> exact hb
    have hset := MapKept.heap_set (o' := .mapIter (some b) since (seen.push e.born) clock) hr1
    have hb' : (setBlock w1 r (.mapIter (some b) since (seen.push e.born) clock)).heap[b]? = some (.map es clock) := (hset.2 b (fun e1 => hne e1.symm)).trans hb1
    have hxd : x ∉ done := fun hm => by
      have := (hsd e hem x hk).2 hm
      rw [hes] at this
      cases this
    rw [hk] at hrun
    refine Or.inr ⟨x, e.val, _, hx, hf, hxd, hrun, ⟨es, clock, since, seen.push e.born, clock, hb', hs, A, hst, hset.1, hold, hsk, hsk, fun e' he' y hy => ?_, fun y hy => ?_, ?_⟩, ?_, ?_, ?_, ?_⟩
    · rw [contains_push, Bool.or_eq_true, hsd e' he' y hy, List.mem_append, List.mem_singleton, beq_iff_eq]
      refine or_congr Iff.rfl ⟨fun q => ?_, fun q => ?_⟩
      · have := born_inj hborn he' hem q
        subst this
        exact M.inj _ _ (hy.symm.trans hk)
      · subst q
        have hA := List.pairwise_iff_getElem.1 A.apart
        obtain ⟨i, hi, rfl⟩ := List.getElem_of_mem he'
        obtain ⟨j, hj, rfl⟩ := List.getElem_of_mem hem
        rcases Nat.lt_trichotomy i j with q | q | q
        · exact absurd (hy.trans hk.symm) (hA i j hi hj q)
        · subst q; rfl
        · exact absurd (hk.trans hy.symm) (hA j i hj hi q)
    · rw [List.mem_append, List.mem_singleton] at hy
      rcases hy with hy | rfl
      · exact hd y hy
      · exact ⟨hx, by rw [hf]; rfl⟩
    · rw [List.nodup_append]
      exact ⟨hnd, by simp, fun a ha c hc => by simp only [List.mem_singleton] at hc; subst hc; exact fun q => hxd (q ▸ ha)⟩
    · rw [leftN_eq hb hr, leftN_eq hb' hset.1]
      exact left_shrinks es seen e he
    · rcases hal with rfl | rfl <;> exact ⟨rfl, rfl, rfl, by simp [setBlock], fun i _ hi => hset.2 i (fun e1 => hi (by simp [e1]))⟩
    · rcases hal with rfl | rfl <;> simp [setBlock]
    · have := run_entry_at (P := P) _ r b since seen es clock e hset.1 hb' hem hborn
      rw [hk] at this
      exact this

section
variable (w : World) {ops : Array Oper} {rest : List Oper} {o : Oper} {a : Act} {Q : Exit → Act → World → Prop}
/-- 'range m'. -/
theorem wpList_rg (M : MapK P k K) (hg : o.guard = none) (m : Operand) (t : TypeId) (hop : o.op = Op.range t m) (e : TypeId) (ht : P.underlying t = some (.map k e)) {b n : Nat} {f : K → Option Value} (h : Mp M w b n f) (hm : a.eval m = .map (some b))
    (hK : ∀ w', Rg M w' b w.heap.size n f [] → Kept [] w w' → w'.heap.size = w.heap.size + 1 → wpList P ops Q rest (a.put o.dst (.pointer (some ⟨w.heap.size, 0, none⟩))) w') : wpList P ops Q (o :: rest) a w := by
  refine wpList_plain hg fun K' hK' => ?_
  obtain ⟨w', hrun, r1, r2, r3⟩ := h.rg ht
  unfold Oper.wp
  simp [execOp, hop, hm, hrun, Result.andThen]
  exact hK' _ _ (hK w' r1 r2 r3)
/-- The step. -/
theorem wpList_rgnext (M : MapK P k K) (hg : o.guard = none) (it : Operand) (hop : o.op = Op.next it false) {b r n : Nat} {f : K → Option Value} {done : List K} (hit : a.eval it = .pointer (some ⟨r, 0, none⟩)) (h : Rg M w b r n f done)
    (hDone : (∀ x, (f x).isSome = true → M.ok x → x ∈ done) → wpList P ops Q rest (a.put o.dst (.tuple #[.bool false])) w)
    (hMore : ∀ x v w', M.ok x → f x = some v → x ∉ done → Rg M w' b r n f (done ++ [x]) → leftN w' b r < leftN w b r → Kept [r] w w' → w'.heap.size = w.heap.size → (Instr.entry (.pointer (some ⟨r, 0, none⟩))).run P w' = .ok (.tuple #[M.enc x, v]) w' →
      wpList P ops Q rest (a.put o.dst (.tuple #[.bool true, M.enc x, v])) w') : wpList P ops Q (o :: rest) a w := by
  refine wpList_plain hg fun K' hK' => ?_
  unfold Oper.wp
  rcases h.next o.type with ⟨h0, hrun⟩ | ⟨x, v, w', h1, h2, h3, hrun, h4, h5, h6, h7, h8⟩
  · simp [execOp, hop, hit, hrun, Result.andThen]
    exact hK' _ _ (hDone h0)
  · simp [execOp, hop, hit, hrun, Result.andThen]
    exact hK' _ _ (hMore x v w' h1 h2 h3 h4 h5 h6 h7 h8)
end
end Go.Proofs.Ytjogpafbiackbaa.Mpf
