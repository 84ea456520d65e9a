/- UsersSilent: lines that say nothing among the accounts' lines: plain facts. -/
import Derived.Test.YteeheapenfklcaaDoorUgm
import Derived.Test.YteeheapenfklcaaDoorUpm
namespace Go.Proofs.YteeheapenfklcaaDoor
set_option linter.unusedVariables false
namespace Us
open Go.Proofs.YteeheapenfklcaaDoor.Utf Go.Proofs.YteeheapenfklcaaDoor.Txt
/-- A line: one that says nothing, or an account. -/
inductive Ln where
  | nil (b : List UInt8)
  | acc (a : Acc)
def Ln.lin : Ln → List UInt8
  | .nil b => b
  | .acc a => lineL a
def Ln.get : Ln → Option Acc
  | .nil _ => none
  | .acc a => some a
def accsX (X : List Ln) : List Acc := X.filterMap Ln.get
def textX (X : List Ln) : List UInt8 := X.flatMap fun x => x.lin ++ [10]
/-- Lines as they may be. -/
def Fine : Ln → Prop
  | .nil b => (10 : UInt8) ∉ b ∧ says (ofL b) = false
  | .acc a => form a = true ∧ a.leader.size = 0 ∧ a.members = []
theorem accsX_append (X Y : List Ln) : accsX (X ++ Y) = accsX X ++ accsX Y := by simp [accsX]
theorem textX_append (X Y : List Ln) : textX (X ++ Y) = textX X ++ textX Y := by simp [textX]
theorem Fine.ten {x : Ln} (h : Fine x) : (10 : UInt8) ∉ x.lin := by
  cases x with
  | nil b => exact h.1
  | acc a => exact line_ten h.1
theorem cut_textX : ∀ (X : List Ln) (r : List UInt8), (∀ x ∈ X, Fine x) → cutL 10 (textX X ++ r) = X.map Ln.lin ++ cutL 10 r
  | [], r, _ => rfl
  | x :: X, r, h => by
    have e : textX (x :: X) ++ r = x.lin ++ 10 :: (textX X ++ r) := by simp [textX]
    rw [e, cutL_cons _ (h x (by simp)).ten, cut_textX X r (fun y hy => h y (by simp [hy]))]
    rfl
theorem known_app (T : List Acc) (a : Acc) (n : ByteArray) : known (T ++ [a]) n = (known T n || decide (a.name = n)) := by simp [Us.known]
theorem known_names {T : List Acc} {n : ByteArray} : known T n = true ↔ n ∈ T.map (·.name) := by
  unfold Us.known
  rw [List.any_eq_true]
  simp only [decide_eq_true_eq, List.mem_map]
theorem pass1X : ∀ (X : List Ln) (T0 : List Acc) (i : Nat) (rest : List ByteArray), (∀ x ∈ X, Fine x) → ((T0 ++ accsX X).map (·.name)).Nodup → pass1 ((X.map Ln.lin).map ofL ++ rest) i T0 = pass1 rest (i + X.length) (T0 ++ accsX X)
  | [], T0, i, rest, _, _ => by simp [accsX]
  | .nil b :: X, T0, i, rest, h, hn => by
    have h1 := (h (.nil b) (by simp)).2
    have ih := pass1X X T0 (i + 1) rest (fun x hx => h x (by simp [hx])) hn
    have e : pass1 (((Ln.nil b :: X).map Ln.lin).map ofL ++ rest) i T0 = pass1 ((X.map Ln.lin).map ofL ++ rest) (i + 1) T0 := by
      show pass1 (ofL b :: _) i T0 = _
      conv => lhs; unfold pass1
      rw [if_neg (by rw [h1]; simp)]
      rfl
    rw [e, ih]
    simp only [List.length_cons]
    rw [show i + 1 + X.length = i + (X.length + 1) by omega]
    rfl
  | .acc a :: X, T0, i, rest, h, hn => by
    obtain ⟨h1, h2, h3⟩ := h (.acc a) (by simp)
    have e0 : accsX (Ln.acc a :: X) = a :: accsX X := rfl
    rw [e0] at hn ⊢
    have hk : addOk T0 a = true := by
      unfold addOk once
      rw [h3]
      have : known T0 a.name = false := by
        rw [Bool.eq_false_iff]
        intro hh
        rw [known_names] at hh
        rw [List.map_append, List.nodup_append] at hn
        exact hn.2.2 _ hh _ (by simp) rfl
      rw [this]
      rfl
    have ih := pass1X X (T0 ++ [a]) (i + 1) rest (fun x hx => h x (by simp [hx])) (by rw [List.append_assoc]; exact hn)
    have e : pass1 (((Ln.acc a :: X).map Ln.lin).map ofL ++ rest) i T0 = pass1 ((X.map Ln.lin).map ofL ++ rest) (i + 1) (T0 ++ [a]) := by
      show pass1 (ofL (lineL a) :: _) i T0 = _
      conv => lhs; unfold pass1
      rw [if_pos (says_line h1)]
      simp only [acc_line h1]
      rw [if_pos hk]
      rfl
    rw [e, ih, List.append_assoc]
    simp only [List.length_cons]
    rw [show i + 1 + X.length = i + (X.length + 1) by omega]
    rfl
theorem pass2X (T1 : List Acc) : ∀ (X : List Ln) (i : Nat) (rest : List ByteArray), (∀ x ∈ X, Fine x) → pass2 T1 ((X.map Ln.lin).map ofL ++ rest) i = pass2 T1 rest (i + X.length)
  | [], i, rest, _ => by simp
  | .nil b :: X, i, rest, h => by
    have h1 := (h (.nil b) (by simp)).2
    have ih := pass2X T1 X (i + 1) rest (fun x hx => h x (by simp [hx]))
    have e : pass2 T1 (((Ln.nil b :: X).map Ln.lin).map ofL ++ rest) i = pass2 T1 ((X.map Ln.lin).map ofL ++ rest) (i + 1) := by
      show pass2 T1 (ofL b :: _) i = _
      conv => lhs; unfold pass2
      rw [if_neg (by rw [h1]; simp)]
      rfl
    rw [e, ih]
    simp only [List.length_cons]
    rw [show i + 1 + X.length = i + (X.length + 1) by omega]
  | .acc a :: X, i, rest, h => by
    obtain ⟨h1, h2, h3⟩ := h (.acc a) (by simp)
    have hk : knows T1 a = true := by
      unfold knows
      rw [h3, h2]
      rfl
    have ih := pass2X T1 X (i + 1) rest (fun x hx => h x (by simp [hx]))
    have e : pass2 T1 (((Ln.acc a :: X).map Ln.lin).map ofL ++ rest) i = pass2 T1 ((X.map Ln.lin).map ofL ++ rest) (i + 1) := by
      show pass2 T1 (ofL (lineL a) :: _) i = _
      conv => lhs; unfold pass2
      rw [if_pos (says_line h1)]
      simp only [acc_line h1]
      rw [if_pos hk]
      rfl
    rw [e, ih]
    simp only [List.length_cons]
    rw [show i + 1 + X.length = i + (X.length + 1) by omega]
/-- The lines of the three ends. -/
def b1L : List UInt8 := [97, 58, 98]
def b2L : List UInt8 := [99, 58, 100, 58, 101, 58, 102, 58, 103]
def nwL : List UInt8 := [110, 101, 119, 58, 58, 58]
def nbL : List UInt8 := [110, 101, 119, 58, 110, 111, 98, 111, 100, 121, 58, 58]
def newN : ByteArray := ⟨#[110, 101, 119]⟩
def nobN : ByteArray := ⟨#[110, 111, 98, 111, 100, 121]⟩
structure FineX (X : List Ln) : Prop where
  fine : ∀ x ∈ X, Fine x
  names : ((accsX X).map (·.name)).Nodup
  u : ∀ a ∈ accsX X, a.name ≠ newN ∧ a.name ≠ nobN
  size : (textX X).length ≤ 60000
  text : (textL (accsX X)).length ≤ 65536
theorem cutB_ofL (l : List UInt8) : cutB 10 (ofL l) = (cutL 10 l).map ofL := cut_ofL 10 l
theorem known_no {X : List Ln} (h : FineX X) {n : ByteArray} (hn : ∀ a ∈ accsX X, a.name ≠ n) : known (accsX X) n = false := by
  rw [Bool.eq_false_iff]
  intro hh
  rw [known_names] at hh
  obtain ⟨a, ha, e⟩ := List.mem_map.1 hh
  exact hn a ha e
theorem silent_ok {X : List Ln} (h : FineX X) : parse (ofL (textX X)) = (some (accsX X), 0, 0) := by
  have hc : cutB 10 (ofL (textX X)) = (X.map Ln.lin).map ofL ++ [ofL []] := by
    have := cut_textX X [] h.fine
    rw [List.append_nil] at this
    rw [cutB_ofL, this, List.map_append]
    rfl
  refine parse_ok (by rw [ofL_size]; have := h.size; omega) (T := accsX X) ?_ ?_ (by have := h.text; omega)
  · rw [hc, pass1X X [] 0 _ h.fine (by simpa using h.names)]
    rfl
  · rw [hc, pass2X _ X 0 _ h.fine]
    rfl
theorem silent_line {X : List Ln} (h : FineX X) : parse (ofL (textX X ++ (b1L ++ 10 :: b2L))) = (none, 60, X.length + 1) := by
  have hc : cutB 10 (ofL (textX X ++ (b1L ++ 10 :: b2L))) = (X.map Ln.lin).map ofL ++ [ofL b1L, ofL b2L] := by
    rw [cutB_ofL, cut_textX X _ h.fine, List.map_append]
    congr 1
  refine parse_one (by rw [ofL_size]; have := h.size; simp [b1L, b2L]; omega) ?_
  rw [hc, pass1X X [] 0 _ h.fine (by simpa using h.names)]
  have s1 : says (ofL b1L) = true := by decide
  have s2 : accOf (ofL b1L) = none := by kernel_rfl
  unfold pass1
  rw [if_pos s1, s2]
  simp
theorem silent_twice {X : List Ln} (h : FineX X) : parse (ofL (textX X ++ (nwL ++ 10 :: nwL))) = (none, 61, X.length + 2) := by
  have hc : cutB 10 (ofL (textX X ++ (nwL ++ 10 :: nwL))) = (X.map Ln.lin).map ofL ++ [ofL nwL, ofL nwL] := by
    rw [cutB_ofL, cut_textX X _ h.fine, List.map_append]
    congr 1
  refine parse_one (by rw [ofL_size]; have := h.size; simp [nwL]; omega) ?_
  rw [hc, pass1X X [] 0 _ h.fine (by simpa using h.names)]
  have s1 : says (ofL nwL) = true := by decide
  have s2 : accOf (ofL nwL) = some ⟨newN, ⟨#[]⟩, [], ⟨#[]⟩⟩ := by kernel_rfl
  have k1 : addOk ([] ++ accsX X) ⟨newN, ⟨#[]⟩, [], ⟨#[]⟩⟩ = true := by
    unfold addOk
    rw [List.nil_append, known_no h (fun a ha => (h.u a ha).1)]
    rfl
  have k2 : addOk ([] ++ accsX X ++ [⟨newN, ⟨#[]⟩, [], ⟨#[]⟩⟩]) ⟨newN, ⟨#[]⟩, [], ⟨#[]⟩⟩ = false := by
    unfold addOk
    rw [known_app]
    simp
  unfold pass1
  rw [if_pos s1, s2]
  simp only
  rw [if_pos k1]
  unfold pass1
  rw [if_pos s1, s2]
  simp only
  rw [if_neg (by rw [k2]; simp)]
  simp
theorem silent_none {X : List Ln} (h : FineX X) : parse (ofL (textX X ++ (nbL ++ [10]))) = (none, 62, X.length + 1) := by
  have hc : cutB 10 (ofL (textX X ++ (nbL ++ [10]))) = (X.map Ln.lin).map ofL ++ [ofL nbL, ofL []] := by
    rw [cutB_ofL, cut_textX X _ h.fine, List.map_append]
    congr 1
  have s1 : says (ofL nbL) = true := by decide
  have s2 : accOf (ofL nbL) = some ⟨newN, nobN, [], ⟨#[]⟩⟩ := by kernel_rfl
  have k1 : addOk ([] ++ accsX X) ⟨newN, nobN, [], ⟨#[]⟩⟩ = true := by
    unfold addOk
    rw [List.nil_append, known_no h (fun a ha => (h.u a ha).1)]
    rfl
  have k2 : knows ([] ++ accsX X ++ [⟨newN, nobN, [], ⟨#[]⟩⟩]) ⟨newN, nobN, [], ⟨#[]⟩⟩ = false := by
    unfold knows
    rw [List.nil_append, known_app, known_no h (fun a ha => (h.u a ha).2)]
    rfl
  refine parse_two (T := [] ++ accsX X ++ [⟨newN, nobN, [], ⟨#[]⟩⟩]) (by rw [ofL_size]; have := h.size; simp [nbL]; omega) ?_ ?_
  · rw [hc, pass1X X [] 0 _ h.fine (by simpa using h.names)]
    unfold pass1
    rw [if_pos s1, s2]
    simp only
    rw [if_pos k1]
    rfl
  · rw [hc, pass2X _ X 0 _ h.fine]
    unfold pass2
    rw [if_pos s1, s2]
    simp only
    rw [if_neg (by rw [k2]; simp)]
    simp
end Us
end Go.Proofs.YteeheapenfklcaaDoor
