/- WireBack: a step's bytes: what lays appends, what finds wants ahead. Plain facts. No program's run. -/
import Derived.Test.YtdbhdajedgkpbaaFi2
namespace Go.Proofs.Ytdbhdajedgkpbaa
set_option linter.unusedVariables false
/-- The bytes of a step that is neither Open nor Shut. -/
def stb (kind : Int) (n : Nat) (bs : List UInt8) (s : ByteArray) : List UInt8 :=
  if kind = 1 then le 1 (n % 256) else if kind = 2 then le 2 (n % 65536) else if kind = 3 then le 4 (n % 4294967296) else if kind = 4 then le 8 n else if kind = 5 then bs else if kind = 6 then tbs (str (lett s)) else []
theorem stb_length (kind : Int) (n : Nat) (bs : List UInt8) (s : ByteArray) (h7 : kind ≠ 7) : (stb kind n bs s).length = szof kind bs.length s := by
  have hsz : (str (lett s)).size = (lett s).length := Rdr.str_size _
  unfold stb szof
  by_cases h1 : kind = 1
  · rw [if_pos h1, if_pos h1, le_length]
  rw [if_neg h1, if_neg h1]
  by_cases h2 : kind = 2
  · rw [if_pos h2, if_pos h2, le_length]
  rw [if_neg h2, if_neg h2, if_neg h7]
  by_cases h3 : kind = 3
  · rw [if_pos h3, if_pos h3, le_length]
  rw [if_neg h3, if_neg h3]
  by_cases h4 : kind = 4
  · rw [if_pos h4, if_pos h4, le_length]
  rw [if_neg h4, if_neg h4]
  by_cases h5 : kind = 5
  · rw [if_pos h5, if_pos h5]
  rw [if_neg h5, if_neg h5]
  by_cases h6 : kind = 6
  · rw [if_pos h6, if_pos h6, tbs_length, hsz]
  rw [if_neg h6, if_neg h6]
  rfl
theorem raw_fits {st : WS} (h : st.err = 0) (b : List UInt8) (hl : st.bs.length + b.length ≤ st.lim) : st.raw b = { st with bs := st.bs ++ b } := by
  have hr : st.room b.length = st := by unfold WS.room; rw [if_neg (by omega)]
  unfold WS.raw
  rw [hr, if_pos h]
/-- A step that fits is appended. -/
theorem lays_fits {st : WS} (h : st.err = 0) (kind : Int) (n : Nat) (bs : List UInt8) (s : ByteArray) (hl : st.bs.length + (stb kind n bs s).length ≤ st.lim) : st.lays kind n bs s = { st with bs := st.bs ++ stb kind n bs s } := by
  unfold WS.lays
  unfold stb at hl ⊢
  by_cases h1 : kind = 1
  · simp only [if_pos h1] at hl ⊢; exact raw_fits h _ hl
  by_cases h2 : kind = 2
  · simp only [if_neg h1, if_pos h2] at hl ⊢; exact raw_fits h _ hl
  by_cases h3 : kind = 3
  · simp only [if_neg h1, if_neg h2, if_pos h3] at hl ⊢; exact raw_fits h _ hl
  by_cases h4 : kind = 4
  · simp only [if_neg h1, if_neg h2, if_neg h3, if_pos h4] at hl ⊢; exact raw_fits h _ hl
  by_cases h5 : kind = 5
  · simp only [if_neg h1, if_neg h2, if_neg h3, if_neg h4, if_pos h5] at hl ⊢; exact raw_fits h _ hl
  by_cases h6 : kind = 6
  · simp only [if_neg h1, if_neg h2, if_neg h3, if_neg h4, if_neg h5, if_pos h6] at hl ⊢
    have hll := lett_length s
    have hsz : (str (lett s)).size = (lett s).length := Rdr.str_size _
    have e : st.text (str (lett s)) = st.raw (tbs (str (lett s))) := by
      unfold WS.text
      rw [if_neg (by rw [h]; simp), if_neg (by omega), good_lett s, if_neg (by simp)]
      rfl
    rw [e]
    exact raw_fits h _ hl
  · simp only [if_neg h1, if_neg h2, if_neg h3, if_neg h4, if_neg h5, if_neg h6, List.append_nil]
end Go.Proofs.Ytdbhdajedgkpbaa
