/- WireBack: what a writer that lays steps has, and what is read of it. The two lists beside it. No program's run. -/
import Derived.Test.YtdbhdajedgkpbaaAgm
namespace Go.Proofs.Ytdbhdajedgkpbaa
set_option linter.unusedVariables false
open Go.RowKit

theorem set_two : ∀ (bs : List UInt8) (p : Nat) (a b : UInt8), p + 2 ≤ bs.length → (bs.set p a).set (p + 1) b = bs.take p ++ ([a, b] ++ bs.drop (p + 2))
  | x :: y :: l, 0, a, b, _ => by simp
  | x :: l, p + 1, a, b, h => by
    have ih := set_two l p a b (by simp at h; omega)
    show x :: ((l.set p a).set (p + 1) b) = x :: (l.take p ++ ([a, b] ++ l.drop (p + 2)))
    rw [ih]
  | [x], 0, a, b, h => by simp at h
  | [], p, a, b, h => by simp at h
theorem le_two (n : Nat) : le 2 n = [UInt8.ofNat n, UInt8.ofNat (n / 256)] := by
  rw [le_front 1 n, le_front 0 (n / 256)]
  rfl

/-- A writer that has laid these steps. -/
structure Wb (L : List (Stp × List UInt8)) (st : WS) : Prop where
  err : st.err = 0
  lim : st.lim = 60000
  len : st.bs.length ≤ 60000
  fit : st.Fit
  os2 : 2 * st.os.length ≤ st.bs.length
  math : ∀ rest, runs st.os.length rest → runs 0 (L.map seen ++ rest) ∧ fill [] [] (restOf (L.map seen ++ rest)) = fill st.bs st.os.reverse (restOf rest)
theorem Wb.ok {L : List (Stp × List UInt8)} {st : WS} (h : Wb L st) : st.Ok := ⟨by rw [h.lim]; decide, by rw [h.lim]; exact h.len, h.os2⟩
theorem Wb.fits {L : List (Stp × List UInt8)} {st : WS} (h : Wb L st) : Fits st.bs st.os.reverse := by
  rcases List.eq_nil_or_concat st.os with e | ⟨l, p, e⟩
  · rw [e]; trivial
  · rw [e, List.concat_eq_append, List.reverse_append]
    exact h.fit p (by rw [e, List.concat_eq_append]; simp)
theorem Wb.start : Wb [] ⟨60000, [], [], 0⟩ := ⟨rfl, rfl, by simp, fun q hq => by simp at hq, by simp, fun rest h => ⟨h, rfl⟩⟩
theorem runs_one {k : Int} {x : List UInt8} {d : Nat} {l : List (Int × List UInt8)} (h7 : k ≠ 7) (h8 : k ≠ 8) (h : runs d l) : runs d ((k, x) :: l) := by
  unfold runs
  rw [if_neg h7, if_neg h8]
  exact h
/-- A step that is neither Open nor Shut. -/
theorem Wb.lay {L : List (Stp × List UInt8)} {st : WS} (h : Wb L st) (o : Stp) (bo : List UInt8) (h7 : o.kind ≠ 7) (h8 : o.kind ≠ 8) (hl : st.bs.length + szof o.kind bo.length o.s ≤ 60000) :
    st.lays o.kind o.n bo o.s = { st with bs := st.bs ++ stb o.kind o.n bo o.s } ∧ Wb (L ++ [(o, bo)]) { st with bs := st.bs ++ stb o.kind o.n bo o.s } ∧ (st.bs ++ stb o.kind o.n bo o.s).length = st.bs.length + szof o.kind bo.length o.s := by
  have hsl := stb_length o.kind o.n bo o.s h7
  have hlen : (st.bs ++ stb o.kind o.n bo o.s).length = st.bs.length + szof o.kind bo.length o.s := by rw [List.length_append, hsl]
  refine ⟨lays_fits h.err o.kind o.n bo o.s (by rw [hsl, h.lim]; exact hl), ⟨h.err, h.lim, by show (st.bs ++ _).length ≤ _; omega, fun q hq => ?_, by have := h.os2; show 2 * st.os.length ≤ (st.bs ++ _).length; omega, fun rest hr => ?_⟩, hlen⟩
  · have := h.fit q hq
    show q + 2 ≤ (st.bs ++ _).length
    omega
  · have h1 := h.math (seen (o, bo) :: rest) (runs_one h7 h8 hr)
    have hrl := restOf_length rest _ hr
    obtain ⟨r0, rs, he⟩ : ∃ r0 rs, restOf rest = r0 :: rs := by
      match hq : restOf rest, hrl with
      | a :: b, _ => exact ⟨a, b, rfl⟩
      | [], h => simp at h
    have h2 := fill_step (x := stb o.kind o.n bo o.s) h7 h8 he h.fits
    have e : (L ++ [(o, bo)]).map seen ++ rest = L.map seen ++ (seen (o, bo) :: rest) := by simp
    rw [e]
    exact ⟨h1.1, h1.2.trans h2⟩
/-- Open. -/
theorem Wb.opens {L : List (Stp × List UInt8)} {st : WS} (h : Wb L st) (o : Stp) (bo : List UInt8) (h7 : o.kind = 7) (hl : st.bs.length + 2 ≤ 60000) :
    st.opened = { st with bs := st.bs ++ [0, 0], os := st.os ++ [st.bs.length] } ∧ st.place = st.bs.length ∧ Wb (L ++ [(o, bo)]) { st with bs := st.bs ++ [0, 0], os := st.os ++ [st.bs.length] } := by
  have hr : st.room 2 = st := by unfold WS.room; rw [h.lim, if_neg (by omega)]
  have e1 : st.opened = { st with bs := st.bs ++ [0, 0], os := st.os ++ [st.bs.length] } := by unfold WS.opened; rw [hr, if_pos h.err]
  have e2 : st.place = st.bs.length := by unfold WS.place; rw [hr, if_pos h.err]
  refine ⟨e1, e2, h.err, h.lim, by show (st.bs ++ [0, 0]).length ≤ _; simp; omega, fun q hq => ?_, by have := h.os2; show 2 * (st.os ++ [st.bs.length]).length ≤ (st.bs ++ [0, 0]).length; simp; omega, fun rest hr => ?_⟩
  · show q + 2 ≤ (st.bs ++ [0, 0]).length
    rcases List.mem_append.1 hq with q1 | q1
    · have := h.fit q q1; simp; omega
    · simp at q1; simp; omega
  · have hr2 : runs (st.os.length + 1) rest := by
      have e : (st.os ++ [st.bs.length]).length = st.os.length + 1 := by simp
      exact e ▸ hr
    have hrc : runs st.os.length ((7, stb o.kind o.n bo o.s) :: rest) := by
      unfold runs
      rw [if_pos rfl]
      exact hr2
    have es : seen (o, bo) = (7, stb o.kind o.n bo o.s) := by unfold seen; simp only []; rw [h7]
    have h1 := h.math (seen (o, bo) :: rest) (by rw [es]; exact hrc)
    have hrl := restOf_length rest _ hr2
    obtain ⟨i, r0, rs, he⟩ : ∃ i r0 rs, restOf rest = i :: r0 :: rs := by
      match hq : restOf rest, hrl with
      | a :: b :: c, _ => exact ⟨a, b, c, rfl⟩
      | [a], h => simp at h
      | [], h => simp at h
    have h2 := fill_step_open (x := stb o.kind o.n bo o.s) (z := [0, 0]) he h.fits rfl
    have e : (L ++ [(o, bo)]).map seen ++ rest = L.map seen ++ (seen (o, bo) :: rest) := by simp
    rw [e]
    refine ⟨h1.1, ?_⟩
    rw [h1.2, es, h2]
    show fill (st.bs ++ [0, 0]) (st.bs.length :: st.os.reverse) _ = fill (st.bs ++ [0, 0]) (st.os ++ [st.bs.length]).reverse _
    rw [List.reverse_append]
    rfl
/-- Shut of the innermost part. -/
theorem Wb.shuts {L : List (Stp × List UInt8)} {st : WS} (h : Wb L st) (o : Stp) (bo : List UInt8) (h8 : o.kind = 8) (os : List Nat) (p : Nat) (x : Int) (hx : x = p) (ho : st.os = os ++ [p]) :
    ∃ bs, st.shut x = { st with bs := bs, os := os } ∧ bs.length = st.bs.length ∧ Wb (L ++ [(o, bo)]) { st with bs := bs, os := os } := by
  subst hx
  have hp : p + 2 ≤ st.bs.length := h.fit p (by rw [ho]; simp)
  have hlen := h.len
  obtain ⟨n, hn⟩ : ∃ n, n = st.bs.length - p - 2 := ⟨_, rfl⟩
  have hd : (st.bs.drop (p + 2)).length = n := by rw [List.length_drop]; omega
  have hset : (st.bs.set p (UInt8.ofNat n)).set (p + 1) (UInt8.ofNat (n / 256)) = st.bs.take p ++ (le 2 (st.bs.drop (p + 2)).length ++ st.bs.drop (p + 2)) := by
    rw [set_two _ _ _ _ hp, hd, le_two]
  have hbl : (st.bs.take p ++ (le 2 (st.bs.drop (p + 2)).length ++ st.bs.drop (p + 2))).length = st.bs.length := by
    rw [List.length_append, List.length_append, le_length, List.length_take, hd]
    omega
  have e : st.shut (p : Int) = { st with bs := st.bs.take p ++ (le 2 (st.bs.drop (p + 2)).length ++ st.bs.drop (p + 2)), os := os } := by
    unfold WS.shut
    rw [if_neg (by rw [h.err]; simp), ho]
    rw [List.getLast?_append, List.getLast?_singleton]
    simp only [Option.some_or]
    rw [if_neg (by simp), if_neg (by omega), ← hn, hset, List.dropLast_concat]
  refine ⟨_, e, hbl, h.err, h.lim, by show List.length _ ≤ _; rw [hbl]; exact hlen, fun q hq => ?_, ?_, fun rest hr => ?_⟩
  · show q + 2 ≤ List.length _
    rw [hbl]
    exact h.fit q (by rw [ho]; exact List.mem_append_left _ hq)
  · show 2 * os.length ≤ List.length _
    rw [hbl]
    have := h.os2
    rw [ho] at this
    simp at this
    omega
  · have hol : st.os.length = os.length + 1 := by rw [ho]; simp
    have hrc : runs st.os.length ((8, stb o.kind o.n bo o.s) :: rest) := by
      rw [hol]
      unfold runs
      rw [if_neg (by decide), if_pos rfl]
      exact ⟨by omega, hr⟩
    have es : seen (o, bo) = (8, stb o.kind o.n bo o.s) := by unfold seen; simp only []; rw [h8]
    have h1 := h.math (seen (o, bo) :: rest) (by rw [es]; exact hrc)
    have e2 : (L ++ [(o, bo)]).map seen ++ rest = L.map seen ++ (seen (o, bo) :: rest) := by simp
    rw [e2]
    refine ⟨h1.1, ?_⟩
    rw [h1.2, es, ho, List.reverse_append]
    exact fill_step_shut
/-- All is shut: what was laid is what is to be read. -/
theorem Wb.done {L : List (Stp × List UInt8)} {st : WS} (h : Wb L st) (ho : st.os = []) : restOf (L.map seen) = [st.bs] ∧ runs 0 (L.map seen) := by
  have h1 := h.math [] (by rw [ho]; rfl)
  rw [List.append_nil, ho] at h1
  refine ⟨?_, h1.1⟩
  have hl := restOf_length _ _ h1.1
  obtain ⟨r0, he⟩ : ∃ r0, restOf (L.map seen) = [r0] := by
    match hq : restOf (L.map seen), hl with
    | [a], _ => exact ⟨a, rfl⟩
    | [], h => simp at h
    | _ :: _ :: _, h => simp at h
  have h2 := h1.2
  rw [he] at h2 ⊢
  have h3 : r0 = st.bs := by
    have e1 : fill [] [] [r0] = r0 := by simp [fill]
    have e2 : fill st.bs ([] : List Nat).reverse (restOf []) = st.bs := by simp [fill, restOf]
    rw [e1] at h2
    rw [h2]
    exact e2
  rw [h3]

/-- What stands while the steps are laid: the writer, the list of open places, the list of steps. -/
structure BkL (w w1 : World) (p : Nat) (st : WS) (S : List Nat) (pv lv : Value) (L : List (Stp × List UInt8)) (wr : World) : Prop where
  wrt : Wr 81 wr p S st
  pl : wr.ownsRow w1.heap.size 3 1 pv st.os.length (st.os.map iv)
  li : wr.ownsRow w1.heap.size 43 6 lv L.length (cellsOf L)
  sepp : ∀ k, pv.ownBlock = some k → k ∉ S
  sepl : ∀ k, lv.ownBlock = some k → k ∉ S
  far : ∀ k ∈ S, w.heap.size ≤ k
  kept : Kept [] w wr
  big : w1.heap.size ≤ wr.heap.size
  old : w.heap.size ≤ w1.heap.size
theorem BkL.pure {w w1 wr w' : World} {p : Nat} {st : WS} {S : List Nat} {pv lv : Value} {L : List (Stp × List UInt8)} (h : BkL w w1 p st S pv lv L wr) (k : Kept [] wr w') : BkL w w1 p st S pv lv L w' :=
  ⟨h.wrt.kept k (fun _ _ hm => by simp at hm), ownRow_kept h.pl k (fun _ _ hm => by simp at hm), ownRow_kept h.li k (fun _ _ hm => by simp at hm), h.sepp, h.sepl, h.far, h.kept.trans k (fun i hi => by simp at hi), Nat.le_trans h.big k.size, h.old⟩
/-- The writer turns; os: as before. -/
theorem BkL.turn {w w1 wr w' : World} {p : Nat} {st st' : WS} {S : List Nat} {pv lv : Value} {L : List (Stp × List UInt8)} (h : BkL w w1 p st S pv lv L wr) (o : Out 81 wr p S st' w') (e : st'.os = st.os) : ∃ S', BkL w w1 p st' S' pv lv L w' ∧ Kept S wr w' ∧ ∀ k ∈ S', k ∈ S ∨ wr.heap.size ≤ k := by
  obtain ⟨S', h1, h2, h3⟩ := o
  refine ⟨S', ⟨h1.out, ?_, ownRow_kept h.li h2 h.sepl, fun k hk hm => ?_, fun k hk hm => ?_, fun k hk => ?_, h.kept.trans h2 (fun i hi => Or.inr (h.far i hi)), Nat.le_trans h.big h2.size, h.old⟩, h2, h3⟩
  · rw [e]; exact ownRow_kept h.pl h2 h.sepp
  · rcases h3 k hm with q | q
    · exact h.sepp k hk q
    · have := (h.pl.lt k hk).2; omega
  · rcases h3 k hm with q | q
    · exact h.sepl k hk q
    · have := (h.li.lt k hk).2; omega
  · rcases h3 k hk with q | q
    · exact h.far k q
    · have := h.big; have := h.old; omega
/-- What the places are while the writer's own have turned: the list of places is told of by itself. -/
structure BkM (w w1 : World) (p : Nat) (st : WS) (S : List Nat) (os : List Nat) (pv lv : Value) (L : List (Stp × List UInt8)) (wr : World) : Prop where
  wrt : Wr 81 wr p S st
  pl : wr.ownsRow w1.heap.size 3 1 pv os.length (os.map iv)
  li : wr.ownsRow w1.heap.size 43 6 lv L.length (cellsOf L)
  sepp : ∀ k, pv.ownBlock = some k → k ∉ S
  sepl : ∀ k, lv.ownBlock = some k → k ∉ S
  far : ∀ k ∈ S, w.heap.size ≤ k
  kept : Kept [] w wr
  big : w1.heap.size ≤ wr.heap.size
  old : w.heap.size ≤ w1.heap.size
theorem BkL.away {w w1 wr w' : World} {p : Nat} {st st' : WS} {S : List Nat} {pv lv : Value} {L : List (Stp × List UInt8)} (h : BkL w w1 p st S pv lv L wr) (o : Out 81 wr p S st' w') : ∃ S', BkM w w1 p st' S' st.os pv lv L w' ∧ Kept S wr w' ∧ ∀ k ∈ S', k ∈ S ∨ wr.heap.size ≤ k := by
  obtain ⟨S', h1, h2, h3⟩ := o
  refine ⟨S', ⟨h1.out, ownRow_kept h.pl h2 h.sepp, ownRow_kept h.li h2 h.sepl, fun k hk hm => ?_, fun k hk hm => ?_, fun k hk => ?_, h.kept.trans h2 (fun i hi => Or.inr (h.far i hi)), Nat.le_trans h.big h2.size, h.old⟩, h2, h3⟩
  · rcases h3 k hm with q | q
    · exact h.sepp k hk q
    · have := (h.pl.lt k hk).2; omega
  · rcases h3 k hm with q | q
    · exact h.sepl k hk q
    · have := (h.li.lt k hk).2; omega
  · rcases h3 k hk with q | q
    · exact h.far k q
    · have := h.big; have := h.old; omega
/-- A place was appended to the list. -/
theorem BkM.push {w w1 wr W w2 : World} {p q n : Nat} {st : WS} {S os : List Nat} {pv pv' lv : Value} {L : List (Stp × List UInt8)} (h : BkM w w1 p st S os pv lv L wr) (hos : st.os = os ++ [q]) (hW : Kept [] wr W) (hn : n = os.length)
    (hown : w2.ownsRow w1.heap.size 3 1 pv' (n + 1) (os.map iv ++ [iv q])) (hg : W.grownBy w2 pv.ownBlock) (hat : pv'.ownBlock = pv.ownBlock ∨ pv'.ownBlock = some W.heap.size) : BkL w w1 p st S pv' lv L w2 ∧ Kept pv.ownBlock.toList wr w2 := by
  subst hn
  have k2 : Kept pv.ownBlock.toList wr w2 := (hW.mono (T := pv.ownBlock.toList) (fun i hi => by simp at hi)).grown hg (fun k e => Or.inl (by rw [e]; simp))
  have hge : ∀ k ∈ pv.ownBlock.toList, w1.heap.size ≤ k := fun k hk => (h.pl.lt k (by simpa using hk)).1
  have hs := hW.size
  have hne : ∀ k, lv.ownBlock = some k → k ∉ pv.ownBlock.toList := fun k hk hm => by
    rcases h.pl.2 with ⟨e, _⟩ | ⟨g, cap, cur, e, _, hgg, _⟩
    · rw [e] at hm; simp [Value.ownBlock] at hm
    · rw [e] at hm
      simp [Value.ownBlock] at hm
      exact ownRow_neB h.li hgg (by decide) k hk hm
  have hSp : ∀ k ∈ S, k ∉ pv.ownBlock.toList := fun k hk hm => h.sepp k (by simpa using hm) hk
  have hlt := h.wrt.lt
  refine ⟨⟨h.wrt.kept k2 hSp, ?_, ownRow_kept h.li k2 hne, fun k hk hm => ?_, h.sepl, h.far, h.kept.trans k2 (fun i hi => Or.inr (Nat.le_trans h.old (hge i hi))), Nat.le_trans h.big k2.size, h.old⟩, k2⟩
  · rw [hos, List.length_append, List.map_append]; exact hown
  · rcases hat with e | e
    · rw [e] at hk; exact h.sepp k hk hm
    · rw [e] at hk; cases hk; have := hlt _ hm; omega
/-- The last place was taken away. -/
theorem BkM.pop {w w1 wr : World} {p q n m : Nat} {st : WS} {S os : List Nat} {a : Option Addr} {c : Nat} {lv : Value} {L : List (Stp × List UInt8)} (hn : n = os.length + 1) (hm : m = os.length) (h : BkM w w1 p st S (os ++ [q]) (.slice a n c) lv L wr) (hos : st.os = os) : BkL w w1 p st S (.slice a m c) lv L wr := by
  subst hn hm
  have hp := h.pl
  rw [List.length_append] at hp
  have hc := own_cut (m := os.length) hp (by simp)
  have e : ((os ++ [q]).map iv).take os.length = os.map iv := by
    rw [List.map_append, List.take_append_of_le_length (by simp)]
    exact List.take_of_length_le (by simp)
  rw [e] at hc
  exact ⟨h.wrt, by rw [hos]; exact hc, h.li, fun k hk => h.sepp k (by cases a with | none => cases hk | some ad => exact hk), h.sepl, h.far, h.kept, h.big, h.old⟩
/-- The last place, as it lies there. -/
theorem place_last {w w1 : World} {os : List Nat} {q n c : Nat} {a : Option Addr} (hn : n = os.length + 1) (h : w.ownsRow w1.heap.size 3 1 (.slice a n c) n ((os ++ [q]).map iv)) : ∃ g, a = some ⟨g, 0, none⟩ ∧ w.cell? ⟨g, os.length, none⟩ = some (.int .i64 q) := by
  obtain ⟨a', c', e, -, -, hg⟩ := ownRow_slice h
  cases e
  obtain ⟨g, rfl⟩ := hg (by omega)
  refine ⟨g, rfl, ?_⟩
  have := h.cells (g := g) rfl os.length (iv q) (by simp)
  rw [Addr.add_lit, Nat.zero_add] at this
  exact this
/-- A step was appended to the list. -/
theorem BkL.step {w w1 wr W w2 : World} {p n : Nat} {st : WS} {S : List Nat} {pv lv lv' : Value} {L : List (Stp × List UInt8)} (x : Stp × List UInt8) (h : BkL w w1 p st S pv lv L wr) (hW : Kept [] wr W) (hn : n = L.length)
    (hown : w2.ownsRow w1.heap.size 43 6 lv' (n + 1) (cellsOf L ++ x.1.cells)) (hg : W.grownBy w2 lv.ownBlock) (hat : lv'.ownBlock = lv.ownBlock ∨ lv'.ownBlock = some W.heap.size) : BkL w w1 p st S pv lv' (L ++ [x]) w2 := by
  subst hn
  have k2 : Kept lv.ownBlock.toList wr w2 := (hW.mono (T := lv.ownBlock.toList) (fun i hi => by simp at hi)).grown hg (fun k e => Or.inl (by rw [e]; simp))
  have hge : ∀ k ∈ lv.ownBlock.toList, w1.heap.size ≤ k := fun k hk => (h.li.lt k (by simpa using hk)).1
  have hs := hW.size
  have hne : ∀ k, pv.ownBlock = some k → k ∉ lv.ownBlock.toList := fun k hk hm => by
    rcases h.li.2 with ⟨e, _⟩ | ⟨g, cap, cur, e, _, hgg, _⟩
    · rw [e] at hm; simp [Value.ownBlock] at hm
    · rw [e] at hm
      simp [Value.ownBlock] at hm
      exact ownRow_neB h.pl hgg (by decide) k hk hm
  have hSp : ∀ k ∈ S, k ∉ lv.ownBlock.toList := fun k hk hm => h.sepl k (by simpa using hm) hk
  have hlt := h.wrt.lt
  refine ⟨h.wrt.kept k2 hSp, ownRow_kept h.pl k2 hne, ?_, h.sepp, fun k hk hm => ?_, h.far, h.kept.trans k2 (fun i hi => Or.inr (Nat.le_trans h.old (hge i hi))), Nat.le_trans h.big k2.size, h.old⟩
  · have e : cellsOf (L ++ [x]) = cellsOf L ++ x.1.cells := by rw [cellsOf_append]; simp [cellsOf]
    rw [List.length_append, e]
    exact hown
  · rcases hat with e | e
    · rw [e] at hk; exact h.sepl k hk hm
    · rw [e] at hk; cases hk; have := hlt _ hm; omega

/-- Steps that came in. -/
structure Inc (w : World) (a : Option Addr) (cap b off : Nat) (xs : List (Stp × List UInt8)) (T : List Nat) : Prop where
  a : 0 < xs.length → a = some ⟨b, off, none⟩ ∧ xs.length ≤ cap
  t : ∀ i ∈ T, i < w.heap.size
  at' : ∀ i (hi : i < xs.length), b ∈ T ∧ (∀ j, j < 6 → w.cell? ⟨b, off + i * 6 + j, none⟩ = (xs[i].1.cells)[j]?) ∧ StpOk w xs[i].1 xs[i].2 T
theorem Inc.kept {w w' : World} {a : Option Addr} {cap b off : Nat} {xs : List (Stp × List UInt8)} {T S : List Nat} (h : Inc w a cap b off xs T) (hk : Kept S w w') (hd : ∀ i ∈ T, i ∉ S) : Inc w' a cap b off xs T := by
  refine ⟨h.a, fun i hi => Nat.lt_of_lt_of_le (h.t i hi) hk.size, fun i hi => ?_⟩
  obtain ⟨h1, h2, h3⟩ := h.at' i hi
  refine ⟨h1, fun j hj => ?_, h3.kept hk hd⟩
  rw [← h2 j hj]
  exact World.cell?_of_block (hk.block b (h.t b h1) (hd b h1))
theorem Inc.take {w : World} {a : Option Addr} {cap b off : Nat} {xs : List (Stp × List UInt8)} {T : List Nat} (n : Nat) (h : Inc w a cap b off xs T) : Inc w a cap b off (xs.take n) T := by
  refine ⟨fun h0 => ?_, h.t, fun i hi => ?_⟩
  · rw [List.length_take] at h0 ⊢
    have := h.a (by omega)
    exact ⟨this.1, by omega⟩
  · rw [List.getElem_take]
    exact h.at' i (by rw [List.length_take] at hi; omega)
end Go.Proofs.Ytdbhdajedgkpbaa
