/- WireBack's letters: a text as one of characters below 80, without noughts; it is good. -/
import Derived.Test.YtdbhdajedgkpbaaRg4
import Derived.Test.YtdbhdajedgkpbaaWsh
import Derived.Test.YtdbhdajedgkpbaaWos
import Derived.Test.YtdbhdajedgkpbaaDnw
import Derived.Test.YtdbhdajedgkpbaaRop
namespace Go.Proofs.Ytdbhdajedgkpbaa
set_option linter.unusedVariables false
open Go.RowKit
/-- The bytes of letters. -/
def lett (s : ByteArray) : List UInt8 := (s.data.toList.take 2000).map (fun c => c % 127 + 1)
theorem lett_length (s : ByteArray) : (lett s).length ≤ 2000 := by
  unfold lett
  rw [List.length_map, List.length_take]
  omega
theorem lett_take (s : ByteArray) (i : Nat) (h1 : i < s.size) (h2 : i < 2000) : (lett s).take (i + 1) = (lett s).take i ++ [s.data[i]'h1 % 127 + 1] := by
  have hl : (lett s)[i]? = some (s.data[i]'h1 % 127 + 1) := by
    unfold lett
    rw [List.getElem?_map, List.getElem?_take, if_pos h2]
    have : s.data.toList[i]? = some (s.data[i]'h1) := by
      rw [Array.getElem?_toList]
      exact Array.getElem?_eq_getElem h1
    rw [this]
    rfl
  rw [List.take_add_one, hl]
  rfl
namespace Bkw
open Go.Proofs.Ytdbhdajedgkpbaa.Txt
set_option maxHeartbeats 1000000 in
set_option maxRecDepth 100000 in
theorem letters_any (w : World) (s : ByteArray) (hs : s.size ≤ 140737488355328) : Calls Try.prog 62 #[.string s] w fun e w' => e = .returned (.string (str (lett s))) ∧ Kept [] w w' := by
  obtain ⟨i0, hi, hz0, hz1, hz2⟩ := info_parts Wrt.info5
  go_enter Try.func62, Try.ntmps62
  go_wp2_with fail
  go_loopw [3, 4] (fun b0 kv wr => ∃ (i : Nat) (b : Value), i ≤ s.size ∧ i ≤ 2000 ∧ kv = .int .i64 i ∧ b = b0 ∧ Hid (wr.ownsRow w.heap.size 5 1 b ((lett s).take i).length (((lett s).take i).map bv)) ∧ Hid (Kept [] w wr)) (fun _ kv _ => s.size - (intOf kv).toNat)
  case atStart => exact ⟨0, _, by omega, by omega, rfl, rfl, World.ownsRow_nil _ _ _ _, Kept.refl _ _⟩
  case round =>
    obtain ⟨i, b, hi1, hi2, rfl, rfl, hown, hK⟩ := hrel
    obtain ⟨old, hold⟩ : ∃ x, x = (lett s).take i := ⟨_, rfl⟩
    have holdl : old.length ≤ 2000 := by rw [hold, List.length_take]; omega
    rw [← hold] at hown
    have holdh := Lib.hid hold
    obtain ⟨ab, cb, hb⟩ := own_slice_b hown.out
    by_cases hlt : i < s.size ∧ i < 2000
    · obtain ⟨h1, h2⟩ := hlt
      have h1' : (i : Int) < (s.size : Int) := by omega
      have h2' : (i : Int) < 2000 := by omega
      have htk := lett_take s i h1 h2
      obtain ⟨x, hx⟩ : ∃ x : UInt8, x = s.data[i]'h1 % 127 + 1 := ⟨_, rfl⟩
      rw [← hx, ← hold] at htk
      have hbx : Hid (Value.int .u8 (((s[i]'h1).toNat : Int) % 127 + 1) = bv x) := by
        show _ = _
        unfold bv
        rw [hx]
        have e : (s.data[i]'h1 % 127 + 1).toNat = (s.data[i]'h1).toNat % 127 + 1 := by
          have hm : (s.data[i]'h1).toNat % 127 < 127 := Nat.mod_lt _ (by decide)
          rw [UInt8.toNat_add, UInt8.toNat_mod]
          show ((s.data[i]'h1).toNat % 127 + 1) % 256 = _
          omega
        rw [e]
        rfl
      have htkh := Lib.hid htk
      subst hb
      have hbk : Hid (∀ k, (Value.slice ab old.length cb).ownBlock = some k → w.heap.size ≤ k) := fun k hk => (hown.out.lt k hk).1
      clear htk hx hold
      go_wp2_with (at_builtin; refine wpList_append_lies _ rfl (.tmp 15) (.tmp 21) 37 rfl w.heap.size 5 i0 (.int .u8 0) 1 1 Try.underlying37 hi hz0 hz1 hz2 rfl (by decide) (.slice ab old.length cb) old.length _ rfl (hown.out.alloc _) ⟨wr.heap.size, 0, none⟩ 1 1 [.int .u8 (((s[i]'h1).toNat : Int) % 127 + 1)] rfl rfl (World.news_of_block (heap_alloc_new wr (.cells #[.int .u8 (((s[i]'h1).toNat : Int) % 127 + 1)] 5 (0, 0)))) (by simp [Value.oneCell']) (by decide) (by unfold maxLen; omega) (by omega) (by have := hK.out.size; simp; omega) _ rfl ?_; intro g6 cap6 w6 hown6 hgrow6 hat6 hlt6; have R6 : Hid (w6.ownsRow w.heap.size 5 1 (.slice (some ⟨g6, 0, none⟩) (old.length + 1) cap6) ((lett s).take (i + 1)).length (((lett s).take (i + 1)).map bv)) := (by rw [htkh.out, List.length_append, List.map_append]; rw [hbx.out] at hown6; exact hown6); have R7 : Hid (Kept [] w w6) := (hK.out.alloc _).grown hgrow6 (fun k e => Or.inr (hbk.out k e)); clear hown6 hgrow6 hat6)
      go_roundw
      case rel => exact ⟨i + 1, _, by omega, by omega, by go_num, rfl, R6, R7⟩
      case measure => simp [intOf]; omega
    · have hall : (lett s).take i = lett s := by
        rw [List.take_of_length_le]
        unfold lett
        rw [List.length_map, List.length_take]
        have : s.data.toList.length = s.size := Array.length_toList
        omega
      rw [hall] at hold
      subst hb
      have CO := Rdr.conv_seg (Seg.of_own hown.out)
      rw [hold] at CO hown
      rcases (show ¬ i < s.size ∨ (i < s.size ∧ ¬ i < 2000) by omega) with hA | ⟨hA, hB⟩
      · have hA' : ¬ ((i : Int) < (s.size : Int)) := by omega
        have hold2 := hold
        clear hlt hall holdh hold
        subst hold2
        go_wp2_with fail
        go_ret
        exact ⟨rfl, hK.out⟩
      · have hA' : (i : Int) < (s.size : Int) := by omega
        have hB' : ¬ ((i : Int) < 2000) := by omega
        have hold2 := hold
        clear hlt hall holdh hold
        subst hold2
        go_wp2_with fail
        go_ret
        exact ⟨rfl, hK.out⟩
end Bkw
end Go.Proofs.Ytdbhdajedgkpbaa
