/- What Raw of a reader does. -/
import Derived.Test.YtdbhdajedgkpbaaRop
import Derived.Deep.Onto
namespace Go.Proofs.Ytdbhdajedgkpbaa
set_option linter.unusedVariables false
open Go.RowKit

/-- Raw: n bytes are read; a number below 0 is none. -/
def RS.rawed (st : RS) (x : Int) : RS := if x < 0 then st.fail 1 else st.next x.toNat
def RS.raws (st : RS) (x : Int) : List UInt8 := if x < 0 then [] else st.got x.toNat
/-- What Raw answers: bytes of its own. -/
def RawOut (w : World) (r : Nat) (T : List Nat) (st : RS) (x : Int) (e : Ending) (w' : World) : Prop :=
  ∃ v, e = .returned v ∧ Hid (Wrt.Own w' w.heap.size v (st.raws x)) ∧ Hid (Rd w' r T (st.rawed x)) ∧ Kept [r] w w'
theorem RS.got_left (st : RS) (n : Nat) : (st.got n).length ≤ st.left.length := by
  unfold RS.got
  repeat' split
  · simp
  · simp
  · simp; omega


namespace Rdr
open Go.Proofs.Ytdbhdajedgkpbaa.Txt

theorem raw_any (w : World) (r : Nat) (T : List Nat) (st : RS) (x : Int) (hl : st.left.length ≤ 1152921504606) (ok : Hid st.Ok) (h : Hid (Rd w r T st)) :
    Calls Try.prog 50 #[.pointer (some ⟨r, 0, none⟩), .int .i64 x] w (RawOut w r T st x) := by
  by_cases hx : x < 0
  · have e1 : st.rawed x = st.fail 1 := by unfold RS.rawed; rw [if_pos hx]
    have e2 : st.raws x = [] := by unfold RS.raws; rw [if_pos hx]
    have E1 := Lib.hid e1
    have E2 := Lib.hid e2
    clear e1 e2
    go_enter Try.func50, Try.ntmps50
    go_wp2_with fail
    refine (fail_any _ r T st 1 h).mono ?_
    rintro e w1 ⟨rfl, h1, k1⟩
    go_wp2_with fail
    go_ret
    refine ⟨_, rfl, ?_, by rw [E1.out]; exact h1, k1⟩
    rw [E2.out]
    exact World.ownsRow_nil _ _ _ _
  · obtain ⟨n, hn⟩ : ∃ n : Nat, x = (n : Int) := ⟨x.toNat, by omega⟩
    subst hn
    have e1 : st.rawed n = st.next n := by unfold RS.rawed; rw [if_neg hx]; rfl
    have e2 : st.raws n = st.got n := by unfold RS.raws; rw [if_neg hx]; rfl
    have hgl := RS.got_left st n
    have E1 := Lib.hid e1
    have E2 := Lib.hid e2
    clear e1 e2
    go_enter Try.func50, Try.ntmps50
    go_wp2_with fail
    refine (next_any _ r T st _ n rfl ok h).mono ?_
    rintro e w1 ⟨v, rfl, hv, h1, k1⟩
    have hs : Hid (Src w1 v (st.got n) T) := hv.out.src
    go_wp2_with fail
    refine (Wrt.clone_any _ v (st.got n) T (by omega) hs).mono ?_
    rintro e w2 ⟨v2, rfl, hv2, k2⟩
    go_wp2_with fail
    go_ret
    refine ⟨_, rfl, ?_, ?_, k1.trans k2 (fun i hi => by simp at hi)⟩
    · rw [E2.out]
      exact World.ownsRow.mono hv2.out k1.size
    · rw [E1.out]
      exact h1.out.kept k2 (by simp) (fun k _ hm => by simp at hm)
end Rdr
end Go.Proofs.Ytdbhdajedgkpbaa
