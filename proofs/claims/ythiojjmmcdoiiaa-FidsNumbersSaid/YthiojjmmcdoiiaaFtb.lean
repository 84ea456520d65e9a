/- fids: a table as it lies; has, mayBeNew, isState. -/
import Derived.Test.YthiojjmmcdoiiaaFdt
namespace Go.Proofs.Ythiojjmmcdoiiaa
set_option linter.unusedVariables false
open Go.RowKit
namespace Fi
open Go.Proofs.Ythiojjmmcdoiiaa.Mpf Go.PlainAid

/-- Keys that are numbers of 32 bits. -/
def K32 : MapK Try.prog 43 Nat where
  enc n := .int .u32 n
  ok n := n < 4294967296
  keyed := Go.Maps.int_keyed Try.underlying43
  key x hx := ⟨_, Go.Maps.keyOf_int_mk Try.underlying43 (by have hx2 : x < 4294967296 := hx; simp [Lit.wf, IntKind.min, IntKind.max, IntKind.signed, IntKind.bits]; omega)⟩
  inj x y h := by simp at h; omega
/-- Fids' bytes: so many at most. -/
def maxB : Nat := 268435456
/-- What a map answers is what the fids are. -/
def Ent (w : World) (g : Nat → Option Value) (F : Nat → Option Fd) : Prop :=
  ∀ x, (g x = none ∧ F x = none) ∨ ∃ d a c, g x = some (d.V (.slice a d.heard.length c)) ∧ F x = some d ∧ Rd8 w (.slice a d.heard.length c) d.heard ∧ d.heard.length ≤ maxB
theorem Ent.kept {S : List Nat} {w w' : World} {g : Nat → Option Value} {F : Nat → Option Fd} (h : Ent w g F) (k : Kept S w w') (hS : No8 S w) : Ent w' g F := fun x => by
  rcases h x with h | ⟨d, a, c, h1, h2, h3, h4⟩
  · exact Or.inl h
  · exact Or.inr ⟨d, a, c, h1, h2, h3.kept k hS, h4⟩
/-- A table. -/
structure Tb (w : World) (p m most n : Nat) (F : Nat → Option Fd) : Prop where
  box : Bx w p 87 #[.int .i64 most, .map (some m)]
  map : ∃ g, Mp K32 w m n g ∧ Ent w g F
theorem Mp.no8 {w : World} {m n : Nat} {g : Nat → Option Value} (h : Mp K32 w m n g) : ¬ U8 w m := fun ⟨cs, z, h'⟩ => by
  obtain ⟨es, cl, hb, _⟩ := h
  rw [h'] at hb
  cases hb
theorem Tb.no8 {w : World} {p m most n : Nat} {F : Nat → Option Fd} (h : Tb w p m most n F) : No8 [m] w := fun i hi => by
  obtain ⟨g, hg, _⟩ := h.map
  simp at hi
  subst hi
  exact Mp.no8 hg
theorem Tb.ne {w : World} {p m most n : Nat} {F : Nat → Option Fd} (h : Tb w p m most n F) : p ≠ m := fun e => by
  obtain ⟨g, hg, _⟩ := h.map
  exact hg.ne h.box e.symm
theorem Tb.kept {S : List Nat} {w w' : World} {p m most n : Nat} {F : Nat → Option Fd} (h : Tb w p m most n F) (k : Kept S w w') (hp : p ∉ S) (hm : m ∉ S) (hS : No8 S w) : Tb w' p m most n F := by
  obtain ⟨g, hg, he⟩ := h.map
  exact ⟨h.box.kept k hp, g, hg.kept k hm, he.kept k hS⟩
theorem Tb.kept0 {w w' : World} {p m most n : Nat} {F : Nat → Option Fd} (h : Tb w p m most n F) (k : Kept [] w w') : Tb w' p m most n F := h.kept k (by simp) (by simp) (No8.nil w)
theorem Tb.alloc {w : World} {p m most n : Nat} {F : Nat → Option Fd} (h : Tb w p m most n F) (o : Obj) : Tb (w.alloc o) p m most n F := h.kept0 ((Kept.refl _ _).alloc o)
theorem Tb.drew {w : World} {p m most n : Nat} {F : Nat → Option Fd} (h : Tb w p m most n F) : Tb w.drew p m most n F := h.kept0 (Kept.refl _ _).drew
theorem zero_fid (w : World) : (zeroValue 51).run Try.prog w = .ok (zeroFd.V (.slice none 0 0)) w := by kernel_rfl
theorem Ent.has_eq {w : World} {g : Nat → Option Value} {F : Nat → Option Fd} (h : Ent w g F) (x : Nat) : (g x).isSome = (F x).isSome := by
  rcases h x with ⟨h1, h2⟩ | ⟨d, a, c, h1, h2, _⟩ <;> rw [h1, h2] <;> rfl
set_option maxRecDepth 100000 in
theorem has_any {w : World} {p m most n : Nat} {F : Nat → Option Fd} (h : Tb w p m most n F) (x : Nat) (hx : x < 4294967296) :
    Calls Try.prog 54 #[.pointer (some ⟨p, 0, none⟩), .int .u32 x] w fun e w' => e = .returned (.bool (F x).isSome) ∧ Kept [] w w' := by
  obtain ⟨g, hg, he⟩ := h.map
  have hl := hg.look Try.underlying85 (zero_fid w) (x := x) hx true
  have cm := h.box.cell 1 (v := .map (some m)) rfl
  obtain ⟨V, hV⟩ : ∃ V, (g x).getD (zeroFd.V (.slice none 0 0)) = .agg V ∧ V.size = 14 ∧ V.all (·.oneCell') = true := by
    rcases he x with ⟨h1, h2⟩ | ⟨d, a, c, h1, h2, _⟩
    · exact ⟨_, by rw [h1]; rfl, rfl, A_one _ _ _ _⟩
    · exact ⟨_, by rw [h1]; rfl, rfl, A_one _ _ _ _⟩
  obtain ⟨hV, hV1, hV2⟩ := hV
  rw [hV, he.has_eq] at hl
  simp only [if_true] at hl
  obtain ⟨b, hb⟩ : ∃ b, b = (F x).isSome := ⟨_, rfl⟩
  rw [← hb] at hl ⊢
  have HV1 := Lib.hid hV1
  have HV2 := Lib.hid hV2
  clear hV hb hV1 hV2 he hg h hx
  have hl2 : (Instr.lookup 85 (.map (some m)) (.int .u32 x) true).run Try.prog w = .ok (.tuple #[.agg V, .bool b]) w := hl
  clear hl
  go_enter Try.func54, Try.ntmps54
  go_wp2_with (first | (refine wpList_srow rfl (.tmp 5) (.tmp 14) rfl w.heap.size rfl _ V rfl (Bx.made _ _ _) rfl HV1.out HV2.out ?_; intro w4 b4 k4))
  go_ret
  exact ⟨rfl, ((Kept.refl [] w).alloc _).trans k4 (fun i hi => Or.inr (by simp at hi; omega))⟩
theorem len_at (m ck : Nat) {n : Nat} {es : Array MapEntry} (hs : es.size = n) : ∀ W', W'.heap[m]? = some (.map es ck) → (Builtin.len_ #[85] 3 #[.map (some m)]).run Try.prog W' = .ok (.int .i64 n) W' := fun W' h => by
  rw [← hs]
  simp [Builtin.len_, run_underlying Try.underlying85, MapKept.run_getObj_map h, goInt, Result.andThen]
/-- Why nothing can be put in there. -/
def newE (F : Nat → Option Fd) (most n x : Nat) : Int := if x = 4294967295 then 103 else if (F x).isSome = true then 101 else if most ≤ n then 102 else 0
theorem mayBeNew_any {w : World} {p m most n : Nat} {F : Nat → Option Fd} (h : Tb w p m most n F) (x : Nat) (hx : x < 4294967296) :
    Calls Try.prog 52 #[.pointer (some ⟨p, 0, none⟩), .int .u32 x] w fun e w' => e = .returned (.int .i64 (newE F most n x)) ∧ Kept [] w w' := by
  have HAS := Lib.hid (has_any h x hx)
  by_cases h1 : x = 4294967295
  · have e : newE F most n x = 103 := by unfold newE; rw [if_pos h1]
    rw [e]
    subst h1
    clear HAS e
    go_enter Try.func52, Try.ntmps52
    go_wp2_with fail
    go_ret
    exact ⟨rfl, Kept.refl _ _⟩
  · have hi : ((x : Int) == 4294967295) = false := by simp; omega
    cases hF : (F x).isSome with
    | true =>
      have e : newE F most n x = 101 := by unfold newE; rw [if_neg h1, if_pos hF]
      rw [hF] at HAS
      rw [e]
      clear h1 hF e
      go_enter Try.func52, Try.ntmps52
      go_wp2_with (go_at_call 54; refine HAS.out.mono ?_; rintro e w2 ⟨rfl, k2⟩)
      go_ret
      exact ⟨rfl, k2⟩
    | false =>
      rw [hF] at HAS
      have e : newE F most n x = if most ≤ n then 102 else 0 := by unfold newE; rw [if_neg h1, if_neg (by rw [hF]; simp)]
      rw [e]
      have HT := Lib.hid h
      clear h1 hF e h
      by_cases hmn : most ≤ n
      · have d1 : (n : Int) ≥ (most : Int) := by omega
        rw [if_pos hmn]
        clear hmn
        go_enter Try.func52, Try.ntmps52
        go_wp2_with (go_at_call 54; refine HAS.out.mono ?_; rintro e w2 ⟨rfl, k2⟩; obtain ⟨g, ⟨es, ck, hb, hs, -⟩, -⟩ := (HT.out.kept0 k2).map; have c0 := (HT.out.kept0 k2).box.cell 0 (v := .int .i64 most) rfl; have c1 := (HT.out.kept0 k2).box.cell 1 (v := .map (some m)) rfl)
        have hLen := len_at m ck hs
        go_region_held3 (fun w' => w'.heap[m]? = some (.map es ck) ∧ w'.cell? ⟨p, 0, none⟩ = some (Value.int .i64 most) ∧ w'.cell? ⟨p, 1, none⟩ = some (Value.map (some m))) (first | exact ⟨hb, c0, c1⟩) (first | fail)
        rename_i hh
        clear hh
        go_wp2_with fail
        go_ret
        exact ⟨rfl, k2.drew⟩
      · have d1 : ¬ (n : Int) ≥ (most : Int) := by omega
        rw [if_neg hmn]
        clear hmn
        go_enter Try.func52, Try.ntmps52
        go_wp2_with (go_at_call 54; refine HAS.out.mono ?_; rintro e w2 ⟨rfl, k2⟩; obtain ⟨g, ⟨es, ck, hb, hs, -⟩, -⟩ := (HT.out.kept0 k2).map; have c0 := (HT.out.kept0 k2).box.cell 0 (v := .int .i64 most) rfl; have c1 := (HT.out.kept0 k2).box.cell 1 (v := .map (some m)) rfl)
        have hLen := len_at m ck hs
        go_region_held3 (fun w' => w'.heap[m]? = some (.map es ck) ∧ w'.cell? ⟨p, 0, none⟩ = some (Value.int .i64 most) ∧ w'.cell? ⟨p, 1, none⟩ = some (Value.map (some m))) (first | exact ⟨hb, c0, c1⟩) (first | fail)
        rename_i hh
        clear hh
        go_wp2_with fail
        go_ret
        exact ⟨rfl, k2.drew⟩
/-- May a state be? -/
def stateOk (s : Int) : Bool := s == 1 || s == 2 || s == 3
theorem isState_any (w : World) (s : Int) : Calls Try.prog 51 #[.int .u8 s] w fun e w' => e = .returned (.bool (stateOk s)) ∧ Kept [] w w' := by
  unfold stateOk
  by_cases h1 : s = 1
  · subst h1
    go_enter Try.func51, Try.ntmps51
    go_wp2_with fail
    go_ret
    exact ⟨rfl, Kept.refl _ _⟩
  · have e1 : (s == 1) = false := by simpa using h1
    by_cases h2 : s = 2
    · subst h2
      go_enter Try.func51, Try.ntmps51
      go_wp2_with fail
      go_ret
      exact ⟨rfl, Kept.refl _ _⟩
    · have e2 : (s == 2) = false := by simpa using h2
      clear h1 h2
      go_enter Try.func51, Try.ntmps51
      go_wp2_with fail
      go_ret
      exact ⟨by simp [e1, e2], Kept.refl _ _⟩
end Fi
end Go.Proofs.Ythiojjmmcdoiiaa
