/- WireBack: parts in parts: what is left to read of each open reader, and what a writer's bytes, with its open places and that, come to. Plain facts. No program's run. -/
import Derived.Test.YtdbhdajedgkpbaaStb
namespace Go.Proofs.Ytdbhdajedgkpbaa
set_option linter.unusedVariables false
/-- Steps: a kind (7: Open, 8: Shut) and its bytes. What is left of each open reader when these steps are still to come, the innermost first. -/
def restOf : List (Int × List UInt8) → List (List UInt8)
  | [] => [[]]
  | (k, x) :: l => if k = 7 then (match restOf l with | i :: o :: rs => (le 2 i.length ++ (i ++ o)) :: rs | r => r) else if k = 8 then [] :: restOf l else (match restOf l with | r0 :: rs => (x ++ r0) :: rs | [] => [])
/-- So many parts are open ahead of these steps, and behind them none: each Shut finds one. -/
def runs : Nat → List (Int × List UInt8) → Prop
  | d, [] => d = 0
  | d, (k, _) :: l => if k = 7 then runs (d + 1) l else if k = 8 then 0 < d ∧ runs (d - 1) l else runs d l
theorem restOf_length : ∀ (l : List (Int × List UInt8)) (d : Nat), runs d l → (restOf l).length = d + 1
  | [], d, h => by
    have h0 : d = 0 := h
    subst h0
    rfl
  | (k, x) :: l, d, h => by
    unfold runs at h
    unfold restOf
    by_cases h7 : k = 7
    · rw [if_pos h7] at h ⊢
      have ih := restOf_length l (d + 1) h
      match hr : restOf l, ih with
      | i :: o :: rs, ih => simp at ih ⊢; omega
      | [a], ih => simp at ih
      | [], ih => simp at ih
    · rw [if_neg h7] at h ⊢
      by_cases h8 : k = 8
      · rw [if_pos h8] at h ⊢
        obtain ⟨h1, h2⟩ := h
        have ih := restOf_length l (d - 1) h2
        simp
        omega
      · rw [if_neg h8] at h ⊢
        have ih := restOf_length l d h
        match hr : restOf l, ih with
        | r0 :: rs, ih => simpa using ih
        | [], ih => simp at ih
/-- A writer's bytes, its open places (the innermost first), and what is still to come, as the bytes that come out. -/
def fill : List UInt8 → List Nat → List (List UInt8) → List UInt8
  | bs, [], r0 :: _ => bs ++ r0
  | bs, [], [] => bs
  | bs, p :: os, r0 :: rs => fill (bs.take p ++ (le 2 (bs.drop (p + 2) ++ r0).length ++ (bs.drop (p + 2) ++ r0))) os rs
  | bs, _ :: _, [] => bs
/-- The innermost place lies within. -/
def Fits (bs : List UInt8) : List Nat → Prop
  | [] => True
  | p :: _ => p + 2 ≤ bs.length
theorem fill_more {bs x r0 : List UInt8} {os : List Nat} {rs : List (List UInt8)} (h : Fits bs os) : fill (bs ++ x) os (r0 :: rs) = fill bs os ((x ++ r0) :: rs) := by
  cases os with
  | nil => simp [fill]
  | cons p os =>
    have hp : p + 2 ≤ bs.length := h
    have e1 : (bs ++ x).take p = bs.take p := List.take_append_of_le_length (by omega)
    have e2 : (bs ++ x).drop (p + 2) = bs.drop (p + 2) ++ x := List.drop_append_of_le_length (by omega)
    show fill ((bs ++ x).take p ++ (le 2 ((bs ++ x).drop (p + 2) ++ r0).length ++ ((bs ++ x).drop (p + 2) ++ r0))) os rs = fill (bs.take p ++ (le 2 (bs.drop (p + 2) ++ (x ++ r0)).length ++ (bs.drop (p + 2) ++ (x ++ r0)))) os rs
    rw [e1, e2, List.append_assoc]
theorem fill_shut {bs : List UInt8} {p : Nat} {os : List Nat} {rs : List (List UInt8)} : fill bs (p :: os) ([] :: rs) = fill (bs.take p ++ (le 2 (bs.drop (p + 2)).length ++ bs.drop (p + 2))) os rs := by
  show fill (bs.take p ++ (le 2 (bs.drop (p + 2) ++ []).length ++ (bs.drop (p + 2) ++ []))) os rs = _
  rw [List.append_nil]
theorem fill_open {bs i o z : List UInt8} {os : List Nat} {rs : List (List UInt8)} (h : Fits bs os) (hz : z.length = 2) : fill (bs ++ z) (bs.length :: os) (i :: o :: rs) = fill bs os ((le 2 i.length ++ (i ++ o)) :: rs) := by
  have e1 : (bs ++ z).take bs.length = bs := by simp
  have e2 : (bs ++ z).drop (bs.length + 2) = [] := List.drop_eq_nil_of_le (by simp; omega)
  show fill ((bs ++ z).take bs.length ++ (le 2 ((bs ++ z).drop (bs.length + 2) ++ i).length ++ ((bs ++ z).drop (bs.length + 2) ++ i))) os (o :: rs) = _
  rw [e1, e2, List.nil_append, fill_more h, List.append_assoc]
/-- One step, at a writer and at what is to come. -/
theorem fill_step {k : Int} {x bs : List UInt8} {os : List Nat} {l : List (Int × List UInt8)} {r0 : List UInt8} {rs : List (List UInt8)} (h7 : k ≠ 7) (h8 : k ≠ 8) (hr : restOf l = r0 :: rs) (h : Fits bs os) :
    fill bs os (restOf ((k, x) :: l)) = fill (bs ++ x) os (restOf l) := by
  have e : restOf ((k, x) :: l) = (x ++ r0) :: rs := by
    show (if k = 7 then _ else if k = 8 then _ else _) = _
    rw [if_neg h7, if_neg h8, hr]
  rw [e, hr, fill_more h]
theorem fill_step_open {x bs z i o : List UInt8} {os : List Nat} {l : List (Int × List UInt8)} {rs : List (List UInt8)} (hr : restOf l = i :: o :: rs) (h : Fits bs os) (hz : z.length = 2) :
    fill bs os (restOf ((7, x) :: l)) = fill (bs ++ z) (bs.length :: os) (restOf l) := by
  have e : restOf ((7, x) :: l) = (le 2 i.length ++ (i ++ o)) :: rs := by
    show (if (7 : Int) = 7 then _ else _) = _
    rw [if_pos rfl, hr]
  rw [e, hr, fill_open h hz]
theorem fill_step_shut {x bs : List UInt8} {p : Nat} {os : List Nat} {l : List (Int × List UInt8)} :
    fill bs (p :: os) (restOf ((8, x) :: l)) = fill (bs.take p ++ (le 2 (bs.drop (p + 2)).length ++ bs.drop (p + 2))) os (restOf l) := by
  have e : restOf ((8, x) :: l) = [] :: restOf l := by
    show (if (8 : Int) = 7 then _ else if (8 : Int) = 8 then _ else _) = _
    rw [if_neg (by decide), if_pos rfl]
  rw [e, fill_shut]
end Go.Proofs.Ytdbhdajedgkpbaa
