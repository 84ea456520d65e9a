/- WireBack's size of a step; letters are a good text. -/
import Derived.Test.YtdbhdajedgkpbaaLet
namespace Go.Proofs.Ytdbhdajedgkpbaa
set_option linter.unusedVariables false
open Go.RowKit
/-- How many bytes a step writes. -/
def szof (kind : Int) (m : Nat) (s : ByteArray) : Nat :=
  if kind = 1 then 1 else if kind = 2 then 2 else if kind = 7 then 2 else if kind = 3 then 4 else if kind = 4 then 8 else if kind = 5 then m else if kind = 6 then 2 + (lett s).length else 0
theorem lett_bt (s : ByteArray) (i : Nat) (h : i < (lett s).length) : 1 ≤ ((lett s)[i]'h).toNat ∧ ((lett s)[i]'h).toNat ≤ 127 := by
  have hm : (lett s)[i]'h ∈ lett s := List.getElem_mem h
  obtain ⟨c, _, hc⟩ := List.mem_map.1 hm
  rw [← hc]
  have h1 : c.toNat % 127 < 127 := Nat.mod_lt _ (by decide)
  have e : (c % 127 + 1).toNat = c.toNat % 127 + 1 := by
    rw [UInt8.toNat_add, UInt8.toNat_mod]
    show (c.toNat % 127 + 1) % 256 = _
    omega
  omega
namespace Bkw
open Go.Proofs.Ytdbhdajedgkpbaa.Txt
set_option maxHeartbeats 2000000 in
set_option maxRecDepth 100000 in
theorem size_any (w : World) (who kind k : Int) (n m c : Nat) (a : Option Addr) (s : ByteArray) (hs : s.size ≤ 140737488355328) :
    Calls Try.prog 24 #[.agg #[.int .i64 who, .int .i64 kind, .int .u64 n, .int .i64 k, .slice a m c, .string s]] w fun e w' => e = .returned (.int .i64 (szof kind m s : Nat)) ∧ Kept [] w w' := by
  have K0 : Hid (Kept [] w (w.alloc (.cells #[.int .i64 who, .int .i64 kind, .int .u64 n, .int .i64 k, .slice a m c, .string s] 43 (0, 0)))) := (Kept.refl [] _).alloc _
  have LET := Lib.hid fun (w1 : World) => letters_any w1 s hs
  have hll := lett_length s
  have hsl : (str (lett s)).size = (lett s).length := Rdr.str_size _
  by_cases h1 : kind = 1
  · subst h1
    go_enter Try.func24, Try.ntmps24
    go_wp2_with fail
    go_ret
    exact ⟨rfl, K0.out⟩
  by_cases h2 : kind = 2
  · subst h2
    go_enter Try.func24, Try.ntmps24
    go_wp2_with fail
    go_ret
    exact ⟨rfl, K0.out⟩
  by_cases h7 : kind = 7
  · subst h7
    go_enter Try.func24, Try.ntmps24
    go_wp2_with fail
    go_ret
    exact ⟨rfl, K0.out⟩
  by_cases h3 : kind = 3
  · subst h3
    go_enter Try.func24, Try.ntmps24
    go_wp2_with fail
    go_ret
    exact ⟨rfl, K0.out⟩
  by_cases h4 : kind = 4
  · subst h4
    go_enter Try.func24, Try.ntmps24
    go_wp2_with fail
    go_ret
    exact ⟨rfl, K0.out⟩
  by_cases h5 : kind = 5
  · subst h5
    go_enter Try.func24, Try.ntmps24
    go_wp2_with fail
    go_ret
    exact ⟨rfl, K0.out⟩
  by_cases h6 : kind = 6
  · subst h6
    have e6 : szof 6 m s = 2 + (lett s).length := rfl
    rw [e6]
    obtain ⟨st, hst⟩ : ∃ x, x = str (lett s) := ⟨_, rfl⟩
    obtain ⟨z, hz⟩ : ∃ x, x = (lett s).length := ⟨_, rfl⟩
    rw [← hst] at LET hsl
    rw [← hz] at hsl hll ⊢
    clear hst hz
    go_enter Try.func24, Try.ntmps24
    go_wp2_with fail
    refine (LET.out _).mono ?_
    rintro e w1 ⟨rfl, k1⟩
    have K1 : Hid (Kept [] w w1) := K0.out.trans k1 (fun i hi => by simp at hi)
    clear k1 LET
    go_wp2_with fail
    go_ret
    exact ⟨by simp, K1.out⟩
  · have e0 : szof kind m s = 0 := by
      unfold szof
      rw [if_neg h1, if_neg h2, if_neg h7, if_neg h3, if_neg h4, if_neg h5, if_neg h6]
    rw [e0]
    have b1 : (kind == 1) = false := by rw [beq_eq_false_iff_ne]; exact h1
    have b2 : (kind == 2) = false := by rw [beq_eq_false_iff_ne]; exact h2
    have b7 : (kind == 7) = false := by rw [beq_eq_false_iff_ne]; exact h7
    have b3 : (kind == 3) = false := by rw [beq_eq_false_iff_ne]; exact h3
    have b4 : (kind == 4) = false := by rw [beq_eq_false_iff_ne]; exact h4
    have b5 : (kind == 5) = false := by rw [beq_eq_false_iff_ne]; exact h5
    have b6 : (kind == 6) = false := by rw [beq_eq_false_iff_ne]; exact h6
    clear LET e0
    go_enter Try.func24, Try.ntmps24
    go_wp2_with fail
    go_ret
    exact ⟨rfl, K0.out⟩
end Bkw
end Go.Proofs.Ytdbhdajedgkpbaa
