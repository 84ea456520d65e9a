/- names' Quote: what it calls. -/
import Derived.Test.YtjdhgeikbkjnoaaDoorWdw
import Derived.Deep.Cut
import Derived.Deep.CutRange
namespace Go.Proofs.YtjdhgeikbkjnoaaDoor
set_option linter.unusedVariables false
open Go.RowKit Go.Shelf
attribute [local go_sem] Oper.semAt_some
namespace Nm
open Go.Proofs.YtjdhgeikbkjnoaaDoor.Utf Go.Proofs.YtjdhgeikbkjnoaaDoor.Txt Go.PlainAid

def pls : ByteArray := ⟨#[95, 45, 46, 47, 58, 43, 44, 64, 37, 61, 126]⟩
def plb (c : UInt8) : Bool := (decide (97 ≤ c.toNat) && decide (c.toNat ≤ 122)) || ((decide (65 ≤ c.toNat) && decide (c.toNat ≤ 90)) || ((decide (48 ≤ c.toNat) && decide (c.toNat ≤ 57)) || decide (0 ≤ Lib.indexByte (dl pls) c)))

set_option maxHeartbeats 8000000 in
set_option maxRecDepth 100000 in
theorem plainByte_any (w : World) (c : UInt8) : Calls Tryd.prog 57 #[.int .u8 c.toNat] w fun e w' => e = .returned (.bool (plb c)) ∧ w' = w := by
  have IX := Lib.hid (Tryd.strings_IndexByte pls c.toNat w)
  obtain ⟨z, hz⟩ : ∃ z, z = plb c := ⟨_, rfl⟩
  have HZ := Lib.hid hz
  rw [← hz]
  obtain ⟨n, hn⟩ : ∃ n, n = c.toNat := ⟨_, rfl⟩
  have hn256 : n < 256 := by rw [hn]; exact c.toNat_lt
  have ZZ : Hid (z = ((decide (97 ≤ n) && decide (n ≤ 122)) || ((decide (65 ≤ n) && decide (n ≤ 90)) || ((decide (48 ≤ n) && decide (n ≤ 57)) || decide (0 ≤ Lib.indexByte (dl pls) c))))) := by show _ = _; rw [hz, hn]; rfl
  have HN := Lib.hid hn
  rw [← hn] at IX ⊢
  clear hz hn
  have TAIL : Hid (∀ (h1 : ¬ (97 ≤ n ∧ n ≤ 122)) (h2 : ¬ (65 ≤ n ∧ n ≤ 90)) (h3 : ¬ (48 ≤ n ∧ n ≤ 57)), z = decide (0 ≤ Lib.indexByte (dl pls) c)) := fun h1 h2 h3 => by
    rw [ZZ.out]
    have a1 : (decide (97 ≤ n) && decide (n ≤ 122)) = false := by rw [← Bool.decide_and, decide_eq_false_iff_not]; exact h1
    have a2 : (decide (65 ≤ n) && decide (n ≤ 90)) = false := by rw [← Bool.decide_and, decide_eq_false_iff_not]; exact h2
    have a3 : (decide (48 ≤ n) && decide (n ≤ 57)) = false := by rw [← Bool.decide_and, decide_eq_false_iff_not]; exact h3
    rw [a1, a2, a3]
    simp
  have IX2 : Hid (Calls Tryd.prog 73 #[.string pls, .int .u8 n] w fun e w' => e = .returned (.int .i64 (Lib.indexByte (dl pls) c)) ∧ w' = w) := by
    refine IX.out.mono ?_
    rintro e w3 ⟨rfl, rfl⟩
    refine ⟨?_, rfl⟩
    have e1 : ((n : Int)).toNat.toUInt8 = c := by rw [HN.out]; simp
    rw [e1]
    rfl
  obtain ⟨y, hy⟩ : ∃ y, y = Lib.indexByte (dl pls) c := ⟨_, rfl⟩
  rw [← hy] at IX2 TAIL
  clear hy IX
  by_cases h1 : 97 ≤ n ∧ n ≤ 122
  · have hv : z = true := by rw [ZZ.out]; simp [h1.1, h1.2]
    subst hv
    obtain ⟨g1, g2⟩ := h1
    have i1 : (97 : Int) ≤ (n : Int) := by omega
    have i2 : (n : Int) ≤ 122 := by omega
    go_enter Tryd.func57, Tryd.ntmps57
    go_wp2_with fail
    go_ret
    exact ⟨rfl, rfl⟩
  by_cases h2 : 65 ≤ n ∧ n ≤ 90
  · have hv : z = true := by rw [ZZ.out]; simp [h2.1, h2.2]
    subst hv
    obtain ⟨g1, g2⟩ := h2
    have i1 : ¬ (97 : Int) ≤ (n : Int) := by omega
    have i3 : (65 : Int) ≤ (n : Int) := by omega
    have i4 : (n : Int) ≤ 90 := by omega
    clear h1
    go_enter Tryd.func57, Tryd.ntmps57
    go_wp2_with fail
    go_ret
    exact ⟨rfl, rfl⟩
  by_cases h3 : 48 ≤ n ∧ n ≤ 57
  · have hv : z = true := by rw [ZZ.out]; simp [h3.1, h3.2]
    subst hv
    obtain ⟨g1, g2⟩ := h3
    have i1 : ¬ (97 : Int) ≤ (n : Int) := by omega
    have i3 : ¬ (65 : Int) ≤ (n : Int) := by omega
    have i5 : (48 : Int) ≤ (n : Int) := by omega
    have i6 : (n : Int) ≤ 57 := by omega
    clear h1 h2
    go_enter Tryd.func57, Tryd.ntmps57
    go_wp2_with fail
    go_ret
    exact ⟨rfl, rfl⟩
  have hv := Lib.hid (TAIL.out h1 h2 h3)
  have b1 : (decide ((97 : Int) ≤ n) && decide ((n : Int) ≤ 122)) = false := by rw [← Bool.decide_and, decide_eq_false_iff_not]; omega
  have b2 : (decide ((65 : Int) ≤ n) && decide ((n : Int) ≤ 90)) = false := by rw [← Bool.decide_and, decide_eq_false_iff_not]; omega
  have b3 : (decide ((48 : Int) ≤ n) && decide ((n : Int) ≤ 57)) = false := by rw [← Bool.decide_and, decide_eq_false_iff_not]; omega
  rw [hv.out]
  have RNG : Hid (n < 48 ∨ (57 < n ∧ n < 65) ∨ (90 < n ∧ n < 97) ∨ 122 < n) := by show _ ∨ _; omega
  clear h1 h2 h3 ZZ TAIL HZ hv
  rcases RNG.out with g | ⟨g, g'⟩ | ⟨g, g'⟩ | g
  · have i1 : ¬ (97 : Int) ≤ (n : Int) := by omega
    have i3 : ¬ (65 : Int) ≤ (n : Int) := by omega
    have i5 : ¬ (48 : Int) ≤ (n : Int) := by omega
    go_enter Tryd.func57, Tryd.ntmps57
    go_wp2_with fail
    refine IX2.out.mono ?_
    rintro e w3 ⟨rfl, rfl⟩
    go_wp2_with fail
    go_ret
    exact ⟨rfl, rfl⟩
  · have i1 : ¬ (97 : Int) ≤ (n : Int) := by omega
    have i3 : ¬ (65 : Int) ≤ (n : Int) := by omega
    have i5 : (48 : Int) ≤ (n : Int) := by omega
    have i6 : ¬ (n : Int) ≤ 57 := by omega
    go_enter Tryd.func57, Tryd.ntmps57
    go_wp2_with fail
    refine IX2.out.mono ?_
    rintro e w3 ⟨rfl, rfl⟩
    go_wp2_with fail
    go_ret
    exact ⟨rfl, rfl⟩
  · have i1 : ¬ (97 : Int) ≤ (n : Int) := by omega
    have i3 : (65 : Int) ≤ (n : Int) := by omega
    have i4 : ¬ (n : Int) ≤ 90 := by omega
    have i5 : (48 : Int) ≤ (n : Int) := by omega
    have i6 : ¬ (n : Int) ≤ 57 := by omega
    go_enter Tryd.func57, Tryd.ntmps57
    go_wp2_with fail
    refine IX2.out.mono ?_
    rintro e w3 ⟨rfl, rfl⟩
    go_wp2_with fail
    go_ret
    exact ⟨rfl, rfl⟩
  · have i1 : (97 : Int) ≤ (n : Int) := by omega
    have i2 : ¬ (n : Int) ≤ 122 := by omega
    have i3 : (65 : Int) ≤ (n : Int) := by omega
    have i4 : ¬ (n : Int) ≤ 90 := by omega
    have i5 : (48 : Int) ≤ (n : Int) := by omega
    have i6 : ¬ (n : Int) ≤ 57 := by omega
    go_enter Tryd.func57, Tryd.ntmps57
    go_wp2_with fail
    refine IX2.out.mono ?_
    rintro e w3 ⟨rfl, rfl⟩
    go_wp2_with fail
    go_ret
    exact ⟨rfl, rfl⟩

def plain (l : List UInt8) : Bool := !l.isEmpty && l.all plb
set_option maxHeartbeats 8000000 in
set_option maxRecDepth 100000 in
theorem isPlain_any (w : World) (s : ByteArray) (hs : s.size ≤ 140737488355328) : Calls Tryd.prog 38 #[.string s] w fun e w' => e = .returned (.bool (plain (dl s))) ∧ w' = w := by
  have PB := Lib.hid (fun c => plainByte_any w c)
  obtain ⟨z, hz⟩ : ∃ z, z = plain (dl s) := ⟨_, rfl⟩
  have HZ := Lib.hid hz
  rw [← hz]
  clear hz
  go_enter Tryd.func38, Tryd.ntmps38
  go_wp2_with fail
  go_loopw [6] (fun iv wr => ∃ k : Nat, iv = .int .i64 k ∧ k ≤ s.size ∧ wr = w ∧ Hid (((dl s).take k).all plb = true)) (fun iv _ => s.size - (intOf iv).toNat)
  case atStart => exact ⟨0, rfl, by omega, rfl, rfl⟩
  case round =>
    obtain ⟨k, rfl, hk, rfl, hA⟩ := hrel
    by_cases hlt : k < s.size
    · have j1 : (k : Int) < (s.size : Int) := by omega
      have PBk := Lib.hid (PB.out s[k])
      have hd : (dl s)[k]'(by rw [dl_length]; exact hlt) = s[k] := rfl
      have TK : (dl s).take (k + 1) = (dl s).take k ++ [s[k]] := by rw [List.take_succ_eq_append_getElem (by rw [dl_length]; exact hlt), hd]
      obtain ⟨b, hb⟩ : ∃ b, b = plb s[k] := ⟨_, rfl⟩
      rw [← hb] at PBk
      cases b with
      | true =>
        have HA : Hid (((dl s).take (k + 1)).all plb = true) := by show _ = true; rw [TK, List.all_append, hA.out]; simp [← hb]
        clear hd TK hb
        go_wp2_with fail
        refine PBk.out.mono ?_
        rintro e w2 ⟨rfl, rfl⟩
        go_wp2_with fail
        go_roundw
        case rel => exact ⟨k + 1, by go_num, by omega, trivial, HA.out⟩
        case measure => simp [intOf]; omega
      | false =>
        have hz : z = false := by
          rw [HZ.out]
          unfold plain
          rw [Bool.and_eq_false_iff]
          right
          rw [List.all_eq_false]
          exact ⟨s[k], by rw [← hd]; exact List.getElem_mem _, by rw [← hb]; decide⟩
        subst hz
        clear hd TK hb
        go_wp2_with fail
        refine PBk.out.mono ?_
        rintro e w2 ⟨rfl, rfl⟩
        go_wp2_with fail
        go_ret
        exact ⟨rfl, rfl⟩
    · have j1 : ¬ (k : Int) < (s.size : Int) := by omega
      have hA2 := hA.out
      rw [List.take_of_length_le (by rw [dl_length]; omega)] at hA2
      by_cases h0 : s.toList = []
      · have hz : z = false := by rw [HZ.out]; unfold plain; rw [← toList_dl, h0]; rfl
        subst hz
        clear hA2
        go_wp2_with fail
        go_ret
        exact ⟨rfl, rfl⟩
      · have b1 : s.toList.isEmpty = false := by rw [List.isEmpty_eq_false_iff]; exact h0
        have b0 : (s.toList == []) = false := by rw [beq_eq_false_iff_ne]; exact h0
        have hz : z = true := by rw [HZ.out]; unfold plain; rw [hA2, ← toList_dl, b1]; rfl
        subst hz
        clear hA2 h0
        go_wp2_with fail
        go_ret
        exact ⟨rfl, rfl⟩
end Nm
end Go.Proofs.YtjdhgeikbkjnoaaDoor
