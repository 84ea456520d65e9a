/- WireBack: letters are a good text; a step is written (lays). -/
import Derived.Test.YtdbhdajedgkpbaaSzo
import Derived.Test.YtdbhdajedgkpbaaWnu
namespace Go.Proofs.Ytdbhdajedgkpbaa
set_option linter.unusedVariables false
open Go.RowKit
theorem str_get (l : List UInt8) (p : Nat) (h : p < l.length) : Utf.gb (str l) p = (l[p]'h).toNat := by
  unfold Utf.gb str
  have : (⟨l.toArray⟩ : ByteArray).get! p = l[p]'h := by
    unfold ByteArray.get!
    simp [h]
  rw [this]
theorem good_ascii (l : List UInt8) (hl : ∀ p (h : p < l.length), 1 ≤ (l[p]'h).toNat ∧ (l[p]'h).toNat ≤ 127) : Utf.good (str l) = true := by
  have hsz : (str l).size = l.length := Rdr.str_size l
  have key : ∀ n p, l.length ≤ p + n → Utf.Bd (str l) n p = l.length := by
    intro n
    induction n with
    | zero => intro p hp; rw [Utf.Bd_end _ _ _ (by omega), hsz]
    | succ n ih =>
      intro p hp
      by_cases hlt : p < l.length
      · obtain ⟨h1, h2⟩ := hl p hlt
        have hb := Utf.gb_bt (str l) p
        rw [str_get l p hlt] at hb
        have hc : Utf.Ch (str l) p = 1 := Utf.Ch_one (by omega) (by omega)
        rw [Utf.Bd_next (by omega) (by omega) (by omega), hc]
        exact ih (p + 1) (by omega)
      · rw [Utf.Bd_end _ _ _ (by omega), hsz]
  unfold Utf.good Utf.bad
  rw [key _ _ (by omega), hsz]
  simp
theorem good_lett (s : ByteArray) : Utf.good (str (lett s)) = true := good_ascii _ (lett_bt s)
/-- What a step's being written does to a writer. -/
def WS.lays (st : WS) (kind : Int) (n : Nat) (bs : List UInt8) (s : ByteArray) : WS :=
  if kind = 1 then st.raw (le 1 (n % 256)) else if kind = 2 then st.raw (le 2 (n % 65536)) else if kind = 3 then st.raw (le 4 (n % 4294967296)) else if kind = 4 then st.raw (le 8 n) else if kind = 5 then st.raw bs else if kind = 6 then st.text (str (lett s)) else st
end Go.Proofs.Ytdbhdajedgkpbaa
