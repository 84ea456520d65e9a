/- tags: a table as it lies; refusal, take, free, move, flushOf. -/
import Derived.Test.YtjogpafbiackbaaTga
namespace Go.Proofs.Ytjogpafbiackbaa
set_option linter.unusedVariables false
open Go.RowKit
namespace Tg
open Go.Proofs.Ytjogpafbiackbaa.Mpf Go.PlainAid

/-- What has a tag: the tag, the state, whose a flush is. -/
structure Rq where
  tag : Nat
  st : Nat
  fo : Nat
def Rq.V (r : Rq) : Value := .agg #[.int .u16 r.tag, .int .u8 r.st, .int .i64 r.fo]
/-- A table: by ids, by tags, how many tags are taken, the row. -/
structure TS where
  most : Nat
  last : Nat
  nG : Nat
  R : Nat → Option Rq
  G : Nat → Option Nat
  row : List Rep
def put {α : Type} (f : Nat → Option α) (x : Nat) (v : Option α) : Nat → Option α := fun y => if y = x then v else f y
theorem put_same {α : Type} (f : Nat → Option α) (x : Nat) (v : Option α) : put f x v x = v := by simp [put]
theorem put_other {α : Type} (f : Nat → Option α) {x y : Nat} (v : Option α) (h : y ≠ x) : put f x v y = f y := by simp [put, h]
theorem map_put {α : Type} (g : α → Value) (f : Nat → Option α) (x : Nat) (v : Option α) : upd (fun y => (f y).map g) x (v.map g) = fun y => (put f x v y).map g := by
  funext y
  by_cases h : y = x
  · subst h; rw [upd_same, put_same]
  · rw [upd_other _ _ h, put_other _ _ h]
/-- Keys that are ids, keys that are tags. -/
def IK : MapK Try.prog 3 Nat where
  enc n := .int .i64 n
  ok n := n < 9223372036854775808
  keyed := Go.Maps.int_keyed Try.underlying3
  key x hx := ⟨_, Go.Maps.keyOf_int_mk Try.underlying3 (by have hx2 : x < 9223372036854775808 := hx; simp [Lit.wf, IntKind.min, IntKind.max, IntKind.signed, IntKind.bits]; omega)⟩
  inj x y h := by simp at h; omega
def K16 : MapK Try.prog 37 Nat where
  enc n := .int .u16 n
  ok n := n < 65536
  keyed := Go.Maps.int_keyed Try.underlying37
  key x hx := ⟨_, Go.Maps.keyOf_int_mk Try.underlying37 (by have hx2 : x < 65536 := hx; simp [Lit.wf, IntKind.min, IntKind.max, IntKind.signed, IntKind.bits]; omega)⟩
  inj x y h := by simp at h; omega
def idV (i : Nat) : Value := .int .i64 i
structure TBx (Ba : Nat) (w : World) (p rm gm : Nat) (s : Value) (nR : Nat) (T : TS) : Prop where
  box : Bx w p 77 #[.int .i64 T.most, .int .i64 T.last, .map (some rm), .map (some gm), s]
  rmap : Mp IK w rm nR (fun x => (T.R x).map Rq.V)
  gmap : Mp K16 w gm T.nG (fun x => (T.G x).map idV)
  row : Ro w s T.row
  ne : rm ≠ gm
  hp : Ba ≤ p
  hr : Ba ≤ rm
  hg : Ba ≤ gm
  hs : ∀ g, s.ownBlock = some g → Ba ≤ g
/-- A table. -/
def TB (Ba : Nat) (w : World) (p : Nat) (T : TS) : Prop := ∃ rm gm s nR, TBx Ba w p rm gm s nR T
/-- What a table's calls leave: all but the blocks of tables behind the base. -/
structure KT (Ba : Nat) (w w' : World) : Prop where
  os : w'.os = w.os
  tape : w'.tape = w.tape
  output : w'.output = w.output
  size : w.heap.size ≤ w'.heap.size
  block : ∀ i, i < w.heap.size → (i < Ba ∨ ∃ cs t z, w.heap[i]? = some (.cells cs t z) ∧ t ≠ 77 ∧ t ≠ 84) → w'.heap[i]? = w.heap[i]?
theorem KT.refl (Ba : Nat) (w : World) : KT Ba w w := ⟨rfl, rfl, rfl, Nat.le_refl _, fun _ _ _ => rfl⟩
theorem KT.trans {Ba : Nat} {a b c : World} (h : KT Ba a b) (k : KT Ba b c) : KT Ba a c :=
  ⟨k.os.trans h.os, k.tape.trans h.tape, k.output.trans h.output, Nat.le_trans h.size k.size, fun i hi hc => by
    have e := h.block i hi hc
    refine (k.block i (Nat.lt_of_lt_of_le hi h.size) ?_).trans e
    rcases hc with q | ⟨cs, t, z, q, r⟩
    · exact Or.inl q
    · exact Or.inr ⟨cs, t, z, e.trans q, r⟩⟩
theorem KT.of_kept0 {Ba : Nat} {w w' : World} (k : Kept [] w w') : KT Ba w w' := ⟨k.os, k.tape, k.output, k.size, fun i hi _ => k.block i hi (by simp)⟩
/-- All rows are as they were. -/
def KC (w w' : World) : Prop := ∀ (i : Nat) (cs : Array Value) (t : TypeId) (z : Nat × Nat), w.heap[i]? = some (.cells cs t z) → w'.heap[i]? = some (.cells cs t z)
theorem KC.trans {a b c : World} (h : KC a b) (k : KC b c) : KC a c := fun i cs t z q => k i cs t z (h i cs t z q)
theorem KC.of_kept {S : List Nat} {w w' : World} (k : Kept S w w') (hS : ∀ i ∈ S, ∀ (cs : Array Value) (t : TypeId) (z : Nat × Nat), w.heap[i]? ≠ some (.cells cs t z)) : KC w w' := fun i cs t z q => (k.block i (block_lt q) (fun hm => hS i hm cs t z q)).trans q
theorem KT.bx {Ba : Nat} {w w' : World} (k : KT Ba w w') {B : Nat} {t : TypeId} {cs : Array Value} (h : Bx w B t cs) (h1 : t ≠ 77) (h2 : t ≠ 84) : Bx w' B t cs :=
  (k.block B h.lt (Or.inr ⟨cs, t, (0, 0), h, h1, h2⟩)).trans h
section
variable {Ba : Nat} {w : World} {p rm gm : Nat} {s : Value} {nR : Nat} {T : TS}
theorem TBx.prm (h : TBx Ba w p rm gm s nR T) : p ≠ rm := fun e => h.rmap.ne h.box e.symm
theorem TBx.pgm (h : TBx Ba w p rm gm s nR T) : p ≠ gm := fun e => h.gmap.ne h.box e.symm
theorem TBx.srm (h : TBx Ba w p rm gm s nR T) : ∀ g, s.ownBlock = some g → g ≠ rm := fun g hg e => by
  obtain ⟨cur, hc⟩ := h.row.type g hg
  exact h.rmap.ne hc e.symm
theorem TBx.sgm (h : TBx Ba w p rm gm s nR T) : ∀ g, s.ownBlock = some g → g ≠ gm := fun g hg e => by
  obtain ⟨cur, hc⟩ := h.row.type g hg
  exact h.gmap.ne hc e.symm
theorem TBx.sp (h : TBx Ba w p rm gm s nR T) : ∀ g, s.ownBlock = some g → g ≠ p := fun g hg e => by
  obtain ⟨cur, hc⟩ := h.row.type g hg
  exact Bx.type_ne (show Bx w g 84 cur from hc) h.box (by decide) e
theorem TBx.kept0 {w' : World} (h : TBx Ba w p rm gm s nR T) (k : Kept [] w w') : TBx Ba w' p rm gm s nR T :=
  ⟨h.box.kept k (by simp), h.rmap.kept k (by simp), h.gmap.kept k (by simp), h.row.kept k (by simp), h.ne, h.hp, h.hr, h.hg, h.hs⟩
theorem TB.kept0 {w' : World} (h : TB Ba w p T) (k : Kept [] w w') : TB Ba w' p T := by
  obtain ⟨rm, gm, s, nR, h⟩ := h
  exact ⟨rm, gm, s, nR, h.kept0 k⟩
/-- The law's own steps leave a table alone. -/
theorem TB.keptL {S : List Nat} {w' : World} (h : TB Ba w p T) (k : Kept S w w') (hS : ∀ i ∈ S, i < w.heap.size → ∃ cs t z, w.heap[i]? = some (.cells cs t z) ∧ t ≠ 77 ∧ t ≠ 84) : TB Ba w' p T := by
  obtain ⟨rm, gm, s, nR, h⟩ := h
  have c1 : p ∉ S := fun hm => by
    obtain ⟨cs, t, z, h1, h2, h3⟩ := hS p hm h.box.lt
    have h4 : w.heap[p]? = _ := h.box
    rw [h4] at h1
    injection h1 with h1
    injection h1 with _ h1
    exact h2 h1.symm
  have c2 : rm ∉ S := fun hm => by
    obtain ⟨cs, t, z, h1, h2, h3⟩ := hS rm hm h.rmap.lt
    exact h.rmap.ne h1 rfl
  have c3 : gm ∉ S := fun hm => by
    obtain ⟨cs, t, z, h1, h2, h3⟩ := hS gm hm h.gmap.lt
    exact h.gmap.ne h1 rfl
  refine ⟨rm, gm, s, nR, h.box.kept k c1, h.rmap.kept k c2, h.gmap.kept k c3, h.row.kept k (fun g hg hm => ?_), h.ne, h.hp, h.hr, h.hg, h.hs⟩
  obtain ⟨cs, t, z, h1, h2, h3⟩ := hS g hm (h.row.lt g hg)
  obtain ⟨cur, hc⟩ := h.row.type g hg
  rw [hc] at h1
  injection h1 with h1
  injection h1 with _ h1
  exact h3 h1.symm
/-- What turns a table's own blocks alone. -/
theorem TBx.kt {w' : World} {S : List Nat} (h : TBx Ba w p rm gm s nR T) (k : Kept S w w') (hS : ∀ i ∈ S, i = p ∨ i = rm ∨ i = gm ∨ s.ownBlock = some i ∨ w.heap.size ≤ i) : KT Ba w w' :=
  ⟨k.os, k.tape, k.output, k.size, fun i hi hc => k.block i hi (fun hm => by
    rcases hS i hm with rfl | rfl | rfl | q | q
    · rcases hc with c | ⟨cs, t, z, h1, h2, h3⟩
      · have := h.hp; omega
      · have h4 : w.heap[i]? = _ := h.box
        rw [h4] at h1
        injection h1 with h1
        injection h1 with _ h1
        exact h2 h1.symm
    · rcases hc with c | ⟨cs, t, z, h1, h2, h3⟩
      · have := h.hr; omega
      · exact h.rmap.ne h1 rfl
    · rcases hc with c | ⟨cs, t, z, h1, h2, h3⟩
      · have := h.hg; omega
      · exact h.gmap.ne h1 rfl
    · rcases hc with c | ⟨cs, t, z, h1, h2, h3⟩
      · have := h.hs i q; omega
      · obtain ⟨cur, hc⟩ := h.row.type i q
        rw [hc] at h1
        injection h1 with h1
        injection h1 with _ h1
        exact h3 h1.symm
    · omega)⟩
theorem zero_req (w : World) : (zeroValue 80).run Try.prog w = .ok (.agg #[.int .u16 0, .int .u8 0, .int .i64 0]) w := by kernel_rfl
theorem zero_int (w : World) : (zeroValue 3).run Try.prog w = .ok (.int .i64 0) w := by kernel_rfl
def TS.get (T : TS) (id : Nat) : Rq := (T.R id).getD ⟨0, 0, 0⟩
def TS.of (T : TS) (tag : Nat) : Nat := (T.G tag).getD 0
theorem TBx.look (h : TBx Ba w p rm gm s nR T) (id : Nat) (hid : id < 9223372036854775808) :
    (Instr.lookup 74 (.map (some rm)) (.int .i64 id) false).run Try.prog w = .ok (.agg #[.int .u16 (T.get id).tag, .int .u8 (T.get id).st, .int .i64 (T.get id).fo]) w := by
  have := h.rmap.look Try.underlying74 (zero_req w) (x := id) hid false
  refine this.trans ?_
  unfold TS.get
  cases T.R id <;> rfl
theorem TBx.lookG (h : TBx Ba w p rm gm s nR T) (tag : Nat) (ht : tag < 65536) :
    (Instr.lookup 73 (.map (some gm)) (.int .u16 tag) false).run Try.prog w = .ok (.int .i64 (T.of tag)) w := by
  have := h.gmap.look Try.underlying73 (zero_int w) (x := tag) ht false
  refine this.trans ?_
  unfold TS.of
  cases T.G tag <;> rfl
theorem TBx.lookOk (h : TBx Ba w p rm gm s nR T) (tag : Nat) (ht : tag < 65536) :
    (Instr.lookup 73 (.map (some gm)) (.int .u16 tag) true).run Try.prog w = .ok (.tuple #[.int .i64 (T.of tag), .bool (T.G tag).isSome]) w := by
  have := h.gmap.look Try.underlying73 (zero_int w) (x := tag) ht true
  refine this.trans ?_
  unfold TS.of
  cases T.G tag <;> rfl
theorem len_at (m ck : Nat) {n : Nat} {es : Array MapEntry} (hs : es.size = n) : ∀ W', W'.heap[m]? = some (.map es ck) → (Builtin.len_ #[73] 3 #[.map (some m)]).run Try.prog W' = .ok (.int .i64 n) W' := fun W' h => by
  rw [← hs]
  simp [Builtin.len_, run_underlying Try.underlying73, MapKept.run_getObj_map h, goInt, Result.andThen]
/-- Why nothing can be begun. -/
def refE (T : TS) (tag id : Nat) : Int := if id ≤ T.last then 1 else if tag = 65535 then 120 else if (T.G tag).isSome = true then 140 else if T.nG = T.most then 141 else 0
set_option maxRecDepth 100000 in
theorem refusal_x (h : TBx Ba w p rm gm s nR T) (tag id : Nat) (ht : tag < 65536) (hid : id < 9223372036854775808) (hl : T.last < 9223372036854775808) (hm : T.most < 9223372036854775808) (hn : T.nG < 9223372036854775808) :
    Calls Try.prog 34 #[.pointer (some ⟨p, 0, none⟩), .int .u16 tag, .int .i64 id] w fun e w' => e = .returned (.int .i64 (refE T tag id)) ∧ Kept [] w w' := by
  have LK := h.lookOk tag ht
  have c0 := h.box.cell 0 rfl
  have c1 := h.box.cell 1 rfl
  have c3 := h.box.cell 3 rfl
  obtain ⟨E, hE⟩ : ∃ E, refE T tag id = E := ⟨_, rfl⟩
  obtain ⟨o, ho⟩ : ∃ o, o = T.of tag := ⟨_, rfl⟩
  obtain ⟨g, hg⟩ : ∃ g, g = (T.G tag).isSome := ⟨_, rfl⟩
  obtain ⟨la, hla⟩ : ∃ la, la = T.last := ⟨_, rfl⟩
  obtain ⟨mo, hmo⟩ : ∃ mo, mo = T.most := ⟨_, rfl⟩
  obtain ⟨n, hnn⟩ : ∃ n, n = T.nG := ⟨_, rfl⟩
  have HM := h.gmap
  rw [← hnn] at HM
  obtain ⟨es, ck, hb, hs, -, -⟩ := HM
  have hLen := len_at gm ck hs
  rw [hE]
  unfold refE at hE
  rw [← hla, ← hg, ← hmo, ← hnn] at hE
  rw [← hla] at c1 hl
  rw [← hmo] at c0 hm
  rw [← hnn] at hn
  rw [← ho, ← hg] at LK
  clear h ho hg hla hmo hnn hs
  by_cases q1 : id ≤ la
  · have d1 : (id : Int) ≤ (la : Int) := by omega
    rw [if_pos q1] at hE
    subst hE
    clear q1
    go_enter Try.func34, Try.ntmps34
    go_wp2_with fail
    go_ret
    exact ⟨rfl, Kept.refl _ _⟩
  · have d1 : ¬ (id : Int) ≤ (la : Int) := by omega
    rw [if_neg q1] at hE
    clear q1
    by_cases q2 : tag = 65535
    · rw [if_pos q2] at hE
      subst hE
      subst q2
      have LK2 : (Instr.lookup 73 (.map (some gm)) (.int .u16 65535) true).run Try.prog w = .ok (.tuple #[.int .i64 o, .bool g]) w := LK
      clear LK
      go_enter Try.func34, Try.ntmps34
      go_wp2_with fail
      go_ret
      exact ⟨rfl, Kept.refl _ _⟩
    · rw [if_neg q2] at hE
      have d2 : ((tag : Int) == 65535) = false := by simp; omega
      have d2' : ¬ (tag : Int) = 65535 := by omega
      clear q2
      cases g with
      | true =>
        rw [if_pos rfl] at hE
        subst hE
        go_enter Try.func34, Try.ntmps34
        go_wp2_with fail
        go_ret
        exact ⟨rfl, Kept.refl _ _⟩
      | false =>
        rw [if_neg (by simp)] at hE
        by_cases q4 : n = mo
        · rw [if_pos q4] at hE
          subst hE
          subst q4
          go_enter Try.func34, Try.ntmps34
          go_wp2_with fail
          go_region_held3 (fun w' => w'.heap[gm]? = some (.map es ck) ∧ w'.cell? ⟨p, 3, none⟩ = some (Value.map (some gm)) ∧ w'.cell? ⟨p, 0, none⟩ = some (Value.int .i64 n)) (first | exact ⟨hb, c3, c0⟩) (first | fail)
          rename_i hh
          clear hh
          go_wp2_with fail
          go_ret
          exact ⟨rfl, (Kept.refl _ _).drew⟩
        · rw [if_neg q4] at hE
          subst hE
          have d4 : ((n : Int) == (mo : Int)) = false := by simp; omega
          have d4' : ¬ (n : Int) = (mo : Int) := by omega
          clear q4
          go_enter Try.func34, Try.ntmps34
          go_wp2_with fail
          go_region_held3 (fun w' => w'.heap[gm]? = some (.map es ck) ∧ w'.cell? ⟨p, 3, none⟩ = some (Value.map (some gm)) ∧ w'.cell? ⟨p, 0, none⟩ = some (Value.int .i64 mo)) (first | exact ⟨hb, c3, c0⟩) (first | fail)
          rename_i hh
          clear hh
          go_wp2_with fail
          go_ret
          exact ⟨rfl, (Kept.refl _ _).drew⟩
end
end Tg
end Go.Proofs.Ytjogpafbiackbaa
