/- Words of a line: what they are. No program's run. -/
import Derived.Test.YtjdhgeikbkjnoaaDoorRdn
namespace Go.Proofs.YtjdhgeikbkjnoaaDoor
set_option linter.unusedVariables false
namespace Nm

def hexd (n : Nat) : UInt8 := UInt8.ofNat (if n < 10 then 48 + n else 87 + n)
/-- What stands behind a `\`: for a byte. -/
inductive Ecd : List UInt8 → UInt8 → List UInt8 → Prop
  | quo (l) : Ecd (39 :: l) 39 l
  | bsl (l) : Ecd (92 :: l) 92 l
  | hex (h d : Nat) (l) : h < 16 → d < 16 → Ecd (120 :: hexd h :: hexd d :: l) (UInt8.ofNat (h * 16 + d)) l
/-- What stands behind a `'`. -/
inductive Qtd : List UInt8 → List UInt8 → List UInt8 → Prop
  | stop (l) : Qtd (39 :: l) [] l
  | esc (l m r b c) : Ecd l c m → Qtd m b r → Qtd (92 :: l) (c :: b) r
  | byte (l r b c) : c ≠ 39 → c ≠ 92 → Qtd l b r → Qtd (c :: l) (c :: b) r
def blank (c : UInt8) : Bool := c == 32 || c == 9
/-- A word. -/
inductive Wrd : List UInt8 → List UInt8 → List UInt8 → Prop
  | nil : Wrd [] [] []
  | stop (c l) : blank c = true → Wrd (c :: l) [] (c :: l)
  | quo (l m r a b) : Qtd l a m → Wrd m b r → Wrd (39 :: l) (a ++ b) r
  | byte (l r b c) : blank c = false → c ≠ 39 → Wrd l b r → Wrd (c :: l) (c :: b) r
def trim (l : List UInt8) : List UInt8 := l.dropWhile blank
/-- Words. -/
inductive Wds : List UInt8 → List (List UInt8) → Prop
  | done (l) : trim l = [] → Wds l []
  | word (l r w ws) : trim l ≠ [] → Wrd (trim l) w r → Wds r ws → Wds l (w :: ws)
theorem Ecd.len {l m : List UInt8} {c : UInt8} (h : Ecd l c m) : m.length < l.length := by
  cases h <;> (simp; try omega)
theorem Qtd.len {l r b : List UInt8} (h : Qtd l b r) : r.length + b.length < l.length := by
  induction h with
  | stop l => simp
  | esc l m r b c he _ ih => have := he.len; simp at ih ⊢; omega
  | byte l r b c _ _ _ ih => simp at ih ⊢; omega
theorem Wrd.len {l w r : List UInt8} (h : Wrd l w r) : r.length + w.length ≤ l.length := by
  induction h with
  | nil => simp
  | stop c l _ => simp
  | quo l m r a b hq _ ih => have := hq.len; simp at ih ⊢; omega
  | byte l r b c _ _ _ ih => simp at ih ⊢; omega
end Nm
end Go.Proofs.YtjdhgeikbkjnoaaDoor
