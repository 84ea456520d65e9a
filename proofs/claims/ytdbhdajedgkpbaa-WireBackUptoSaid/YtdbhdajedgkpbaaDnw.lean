/- What Done of a writer tells, whatever its state. -/
import Derived.Test.YtdbhdajedgkpbaaWdn
namespace Go.Proofs.Ytdbhdajedgkpbaa
set_option linter.unusedVariables false
open Go.RowKit

/-- What Done tells: the bytes, and what is wrong. -/
def WS.toldB (st : WS) : List UInt8 := if st.err = 0 ∧ st.os = [] then st.bs else []
def WS.toldE (st : WS) : Nat := if st.err ≠ 0 then st.err else if st.os = [] then 0 else 1
def DoneOut (w : World) (bs : List UInt8) (n : Nat) (e : Ending) (w' : World) : Prop := ∃ v', e = .returned (.tuple #[v', .int .i64 n]) ∧ Hid (Wrt.Own w' w.heap.size v' bs) ∧ Hid (Kept [] w w')
theorem WS.told_cases (st : WS) : (st.err ≠ 0 ∧ st.toldB = [] ∧ st.toldE = st.err) ∨ (st.err = 0 ∧ 0 < st.os.length ∧ st.toldB = [] ∧ st.toldE = 1) ∨ (st.err = 0 ∧ st.os = [] ∧ st.toldB = st.bs ∧ st.toldE = 0) := by
  unfold WS.toldB WS.toldE
  by_cases he : st.err = 0
  · by_cases ho : st.os = []
    · right; right
      refine ⟨he, ho, ?_, ?_⟩
      · rw [if_pos ⟨he, ho⟩]
      · rw [if_neg (by omega), if_pos ho]
    · right; left
      refine ⟨he, List.length_pos_iff.2 ho, ?_, ?_⟩
      · rw [if_neg (fun h => ho h.2)]
      · rw [if_neg (by omega), if_neg ho]
  · left
    refine ⟨he, ?_, ?_⟩
    · rw [if_neg (fun h => he h.1)]
    · rw [if_pos he]
theorem Wrt.done_any (w : World) (p : Nat) (S : List Nat) (st : WS) (ok : Hid st.Ok) (h : Hid (Wr 81 w p S st)) : Calls Try.prog 28 #[.pointer (some ⟨p, 0, none⟩)] w (DoneOut w st.toldB st.toldE) := by
  have k1 := ok.out.lim
  have k2 := ok.out.bs
  rcases st.told_cases with ⟨h1, h2, h3⟩ | ⟨h1, h4, h2, h3⟩ | ⟨h1, h4, h2, h3⟩
  · refine (Wrt.done_wrong w p S st h1 h).mono ?_
    rintro e w' ⟨rfl, hk⟩
    exact ⟨_, by rw [h3], by rw [h2]; exact World.ownsRow_nil _ _ _ _, hk⟩
  · refine (Wrt.done_open w p S st h1 h4 h).mono ?_
    rintro e w' ⟨rfl, hk⟩
    exact ⟨_, by rw [h3]; rfl, by rw [h2]; exact World.ownsRow_nil _ _ _ _, hk⟩
  · refine (Wrt.done_good w p S st h1 h4 (by omega) h).mono ?_
    rintro e w' ⟨v, rfl, ho, hk⟩
    exact ⟨v, by rw [h3]; rfl, by rw [h2]; exact ho, hk⟩
end Go.Proofs.Ytdbhdajedgkpbaa
