/- What the law's made does: a frame of its own. -/
import Derived.Test.YtgdaiajjnfnomaaFrm
namespace Go.Proofs.Ytgdaiajjnfnomaa
set_option linter.unusedVariables false
open Go.RowKit

def lenOf : Value → Nat
  | .slice _ n _ => n
  | _ => 0

theorem RowSrc.take {w : World} {base : Nat} {e : TypeId} {a : Option Addr} {m n c : Nat} {xs : List Value} (h : w.ownsRow base e 1 (.slice a m c) m xs) (h0 : 0 < m) : RowSrc w (.slice a n c) n (xs.take n) := by
  have hc := fun g => h.cells (g := g)
  rcases h.2 with ⟨hv, h1⟩ | ⟨g, cap, cur, hv, _⟩
  · omega
  · cases hv
    exact Or.inr ⟨_, _, rfl, fun j u hu => by
      rw [List.getElem?_take] at hu
      split at hu
      · exact hc g rfl j u hu
      · cases hu⟩
theorem own_four (w : World) (base : Nat) (e : TypeId) (x0 x1 x2 x3 : Value) (hb : base ≤ w.heap.size) : (w.alloc (.cells #[x0, x1, x2, x3] e)).ownsRow base e 1 (.slice (some ⟨w.heap.size, 0, none⟩) 4 4) 4 [x0, x1, x2, x3] :=
  ⟨rfl, .inr ⟨w.heap.size, 4, #[x0, x1, x2, x3], rfl, hb, heap_alloc_new w _, Nat.le_refl _, by decide, rfl, rfl⟩⟩
theorem made_own {w3 : World} {B n M : Nat} {v' : Value} {l bd : List UInt8} (hbd : body l (M + 4) = bd) (hn : bd.length = n) (hM : n ≤ 65532)
    (h : w3.ownsRow B 5 1 v' (4 + n) ([.int .u8 (((n : Int) + 4) % 256), .int .u8 (((n : Int) + 4) / 256 % 256), .int .u8 (((n : Int) + 4) / 65536), .int .u8 0] ++ bd.map bv)) : Own w3 B v' (frameOf l (M + 4)) := by
  subst hn
  have e1 : (frameOf l (M + 4)).length = 4 + bd.length := by unfold frameOf; rw [hbd]; simp; omega
  have e2 : (frameOf l (M + 4)).map bv = [.int .u8 (((bd.length : Int) + 4) % 256), .int .u8 (((bd.length : Int) + 4) / 256 % 256), .int .u8 (((bd.length : Int) + 4) / 65536), .int .u8 0] ++ bd.map bv := by
    unfold frameOf
    rw [hbd, List.map_append]
    congr 1
    show [bv (UInt8.ofNat _), bv (UInt8.ofNat _), bv (UInt8.ofNat _), bv 0] = _
    unfold bv
    rw [u8_nat, u8_nat, u8_nat]
    have a1 : (((bd.length + 4) % 256 : Nat) : Int) = ((bd.length : Int) + 4) % 256 := by omega
    have a2 : (((bd.length + 4) / 256 % 256 : Nat) : Int) = ((bd.length : Int) + 4) / 256 % 256 := by omega
    have a3 : (((bd.length + 4) / 65536 % 256 : Nat) : Int) = ((bd.length : Int) + 4) / 65536 := by omega
    rw [a1, a2, a3]
    rfl
  unfold Own
  rw [e1, e2]
  exact h

namespace Law
open Cut

end Law
end Go.Proofs.Ytgdaiajjnfnomaa
