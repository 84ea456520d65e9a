/- tags: the law's things and the table, what holds between them. -/
import Derived.Test.YtjogpafbiackbaaTgl
import Derived.Test.YtjogpafbiackbaaTgm
namespace Go.Proofs.Ytjogpafbiackbaa
set_option linter.unusedVariables false
open Go.RowKit Go.Shelf
namespace Tg

/-- A thing that was begun. -/
structure Th where
  tag : Nat
  fl : Bool
  nm : Int
  ca : Bool
  de : Bool
  an : Bool
  wr : Bool
def saidB : ByteArray := ⟨#[115, 97, 105, 100]⟩
def sayRep : Rep := ⟨107, 4, saidB, 1001, true⟩
/-- A request's record and its thing. -/
def Stx (r : Rq) (x : Th) : Prop :=
  (x.fl = false ∧ r.fo = 0 ∧ ((r.st = 1 ∧ x.ca = false ∧ x.de = false ∧ x.an = false) ∨ (r.st = 2 ∧ x.ca = true ∧ x.de = false ∧ x.an = false) ∨ (r.st = 3 ∧ x.ca = false ∧ x.de = true ∧ x.an = false) ∨ (r.st = 4 ∧ x.ca = false ∧ x.de = true ∧ x.an = true))) ∨
  (x.fl = true ∧ x.ca = false ∧ x.de = false ∧ x.an = false ∧ (r.st = 5 ∨ r.st = 6))
/-- What must stand ahead of a flush's answer. -/
def Dep (F : Nat → Option Th) (k d : Nat) : Prop :=
  ∃ x y Y, F k = some x ∧ x.fl = true ∧ x.nm = ((y : Nat) : Int) ∧ F y = some Y ∧ ((d = y ∧ (Y.fl = true ∨ Y.ca = false)) ∨ (Y.fl = false ∧ d < k ∧ ∃ z, F d = some z ∧ z.fl = true ∧ z.nm = (y : Int)))
/-- It is written, or stands in the list. -/
def Done (F : Nat → Option Th) (A : List Rep) (d : Nat) : Prop := (∃ z, F d = some z ∧ z.wr = true) ∨ ∃ f ∈ A, f.apart = false ∧ f.id = d + 1
structure Inv (pend : Option Nat) (T : TS) (n : Nat) (F : Nat → Option Th) (H : Nat → Option Int) (said : Nat) : Prop where
  dom : ∀ k, (F k).isSome = true ↔ k < n
  last : T.last = n
  most : T.most = 8
  tagl : ∀ k x, F k = some x → x.tag < 16
  nml : ∀ k x, F k = some x → -1 ≤ x.nm ∧ x.nm < k
  flb : ∀ k x, F k = some x → x.fl = true → x.ca = false ∧ x.de = false ∧ x.an = false
  caw : ∀ k x, F k = some x → x.ca = true → x.de = false ∧ x.an = false ∧ x.wr = false
  and_ : ∀ k x, F k = some x → x.an = true → x.de = true
  wrn : ∀ k x, F k = some x → x.wr = true → T.R (k + 1) = none ∧ (x.fl = true ∨ (x.de = true ∧ x.an = true))
  rq : ∀ id r, T.R id = some r → 1 ≤ id ∧ ∃ x, F (id - 1) = some x ∧ r.tag = x.tag ∧ x.wr = false ∧ T.G x.tag = some id ∧ Stx r x
  gone : ∀ k x, F k = some x → T.R (k + 1) = none → x.wr = true ∨ (x.fl = false ∧ x.ca = true)
  gm : ∀ t id, T.G t = some id → ∃ r, T.R id = some r ∧ r.tag = t
  hm : ∀ t, t < 16 → H t = some (match T.G t with | some id => (id : Int) - 1 | none => -1)
  hl : ∀ t, 16 ≤ t → H t = none
  cnt : (List.range 16).countP (fun t => (T.G t).isSome) = T.nG
  row1 : ∀ e ∈ T.row, (e.apart = true → e = sayRep) ∧ (e.apart = false → ∃ r, T.R e.id = some r ∧ e.tag = r.tag ∧ e.en = ⟨#[]⟩ ∧ ((r.st = 4 ∧ e.kind = 121) ∨ (r.st = 6 ∧ e.kind = 109)))
  rowd : ((T.row.filter (fun e => !e.apart)).map (·.id)).Nodup
  rowc : ∀ id r, T.R id = some r → (r.st = 4 ∨ r.st = 6) → ∃ e ∈ T.row, e.apart = false ∧ e.id = id
  saidc : T.row.countP (·.apart) = said
  ord : ∀ k d, Dep F k d → ∀ A e B, T.row = A ++ e :: B → e.apart = false → e.id = k + 1 → Done F A d
  wait : ∀ k x r, F k = some x → T.R (k + 1) = some r → r.st = 5 → ∃ ro, T.R r.fo = some ro ∧ (ro.st = 3 ∨ (pend = some r.fo ∧ ro.st = 4)) ∧ ∃ y : Nat, x.nm = y ∧ ∃ Y, F y = some Y ∧ (Y.fl = false → y + 1 = r.fo) ∧ (Y.fl = true → ∀ ry, T.R (y + 1) = some ry → ry.st = 5 → ry.fo = r.fo)
  named : ∀ k x (y : Nat) Y, F k = some x → x.fl = true → x.nm = (y : Int) → F y = some Y → Y.fl = false → Y.ca = true ∨ Y.de = true
  fo6 : ∀ k x r, F k = some x → T.R (k + 1) = some r → r.st = 6 → (r.fo = 0 ∨ ∃ O, F (r.fo - 1) = some O ∧ 1 ≤ r.fo ∧ O.fl = false ∧ (O.de = true ∨ (O.ca = true ∧ x.nm = (r.fo : Int) - 1))) ∧ (∀ (y : Nat) Y, x.nm = (y : Int) → F y = some Y → Y.fl = false → Y.ca = true → r.fo = y + 1)
  canc : ∀ id r, T.R id = some r → r.st = 2 → ∃ k x rk, F k = some x ∧ x.fl = true ∧ x.nm = (id : Int) - 1 ∧ T.R (k + 1) = some rk ∧ rk.st = 6
section
variable {pend : Option Nat} {T : TS} {n : Nat} {F : Nat → Option Th} {H : Nat → Option Int} {said : Nat}
theorem Inv.g16 (I : Inv pend T n F H said) {t id : Nat} (h : T.G t = some id) : t < 16 := by
  obtain ⟨r, hr, ht⟩ := I.gm t id h
  obtain ⟨-, x, hx, hx2, -⟩ := I.rq id r hr
  have := I.tagl _ x hx
  omega
theorem Inv.rn (I : Inv pend T n F H said) {id : Nat} {r : Rq} (h : T.R id = some r) : 1 ≤ id ∧ id ≤ n := by
  obtain ⟨h1, x, hx, -⟩ := I.rq id r h
  have := (I.dom (id - 1)).1 (by rw [hx]; rfl)
  omega
theorem Inv.rlen (I : Inv pend T n F H said) : T.row.length ≤ n + said := by
  have h1 := I.rowd.length_le_of_subset (l₂ := (List.range n).map (· + 1)) (fun i hi => by
    obtain ⟨e, he, rfl⟩ := List.mem_map.1 hi
    rw [List.mem_filter] at he
    obtain ⟨r, hr, -⟩ := (I.row1 e he.1).2 (by simpa using he.2)
    have := I.rn hr
    exact List.mem_map.2 ⟨e.id - 1, List.mem_range.2 (by omega), by omega⟩)
  rw [List.length_map, List.length_map, List.length_range] at h1
  have h2 := List.length_eq_countP_add_countP (p := fun e : Rep => e.apart) (l := T.row)
  have h3 : (T.row.filter (fun e => !e.apart)).length = T.row.countP (fun e => decide (¬ e.apart = true)) := by
    rw [List.countP_eq_length_filter]
    congr 1
    apply List.filter_congr
    intro e _
    cases e.apart <;> simp
  have h4 := I.saidc
  omega
theorem Inv.fo_le (I : Inv none T n F H said) {id : Nat} {r : Rq} (h : T.R id = some r) : r.fo ≤ n := by
  obtain ⟨h1, x, hx, -, -, -, hs⟩ := I.rq id r h
  have e1 : id - 1 + 1 = id := by omega
  rcases hs with ⟨-, h2, -⟩ | ⟨h2, -, -, -, h5 | h6⟩
  · omega
  · obtain ⟨ro, hro, -⟩ := I.wait (id - 1) x r hx (by rw [e1]; exact h) h5
    exact (I.rn hro).2
  · rcases (I.fo6 (id - 1) x r hx (by rw [e1]; exact h) h6).1 with h | ⟨O, hO, h1, -⟩
    · omega
    · have := (I.dom (r.fo - 1)).1 (by rw [hO]; rfl)
      omega
theorem Inv.ok (I : Inv none T n F H said) (hn : n ≤ 400) (hs : said ≤ 60) : Ok T := by
  have hr := I.rlen
  have hc := List.countP_le_length (p := fun t => (T.G t).isSome) (l := List.range 16)
  have hl := I.last
  rw [I.cnt, List.length_range] at hc
  refine ⟨⟨fun id r h => ?_, by omega⟩, fun id r h => by rw [hl]; exact (I.rn h).2, by omega, by omega, I.most, by omega⟩
  obtain ⟨h1, x, hx, ht, -⟩ := I.rq id r h
  have h2 := I.tagl _ x hx
  have h3 := I.fo_le h
  omega
end
end Tg
end Go.Proofs.Ytjogpafbiackbaa
