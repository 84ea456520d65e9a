/- What the reference's num does: a number's bytes behind a list. -/
import Derived.Test.YteebiemfhicgbaaRen
import Derived.IntWalk
namespace Go.Proofs.Yteebiemfhicgbaa
set_option linter.unusedVariables false
open Go.RowKit

theorem le_cons (k n : Nat) : le (k + 1) n = UInt8.ofNat n :: le k (n / 256) := le_front k n
/-- What num leaves. -/
def NumOut (w : World) (B : Nat) (bs : List UInt8) (e : Ending) (w' : World) (v : Value) : Prop :=
  ∃ v', e = .returned v' ∧ Hid (Wrt.Own w' B v' bs) ∧ Kept v.ownBlock.toList w w' ∧ ∀ i, v'.ownBlock = some i → v.ownBlock = some i ∨ w.heap.size ≤ i

namespace Stt
open Go.Proofs.Yteebiemfhicgbaa.Txt

set_option maxHeartbeats 1000000 in
set_option maxRecDepth 100000 in
theorem num_any (w : World) (v : Value) (B : Nat) (bs : List UInt8) (x : Int) (n k : Nat) (hx : x = n) (hn : Hid (n ≤ 18446744073709551615)) (hk : k ≤ 8) (hl : bs.length ≤ 1152921504) (hB : B ≤ w.heap.size) (ho : Hid (Wrt.Own w B v bs)) :
    Calls Try.prog 97 #[v, .int .u64 x, .int .i64 k] w fun e w' => NumOut w B (bs ++ le k n) e w' v := by
  subst hx
  obtain ⟨i0, hi, hz0, hz1, hz2⟩ := info_parts Wrt.info5
  have hlt0 := Lib.hid ho.out.lt
  go_enter Try.func97, Try.ntmps97
  go_wp2_with fail
  go_loopw [0, 1, 7] (fun b0 nv kv wr => ∃ (j m : Nat) (b : Value) (l : List UInt8), j ≤ k ∧ kv = .int .i64 j ∧ nv = .int .u64 m ∧ b = b0 ∧ Hid (m ≤ 18446744073709551615) ∧ Hid (bs ++ le k n = l ++ le (k - j) m) ∧ Hid (l.length = bs.length + j) ∧ Hid (wr.ownsRow B 5 1 b l.length (l.map bv)) ∧ Hid (Kept v.ownBlock.toList w wr) ∧ Hid (∀ i, b.ownBlock = some i → v.ownBlock = some i ∨ w.heap.size ≤ i)) (fun _ _ kv _ => k - (intOf kv).toNat)
  case atStart => exact ⟨0, n, v, bs, by omega, rfl, rfl, rfl, hn, rfl, rfl, ho, Kept.refl _ _, fun i h => Or.inl h⟩
  case round =>
    obtain ⟨j, m, b, l, hj, rfl, rfl, rfl, hm, hE, hL, hown, hK, hsub⟩ := hrel
    by_cases hlt : j < k
    · have hll : l.length ≤ 1152921600 := by have := hL.out; omega
      obtain ⟨c, hc⟩ : ∃ c : UInt8, c = UInt8.ofNat m := ⟨_, rfl⟩
      have hcn : c.toNat = m % 256 := by rw [hc]; simp
      have hcv : (IntKind.u8.wrap ((m : Int) % 256)) = (c.toNat : Int) := by rw [hcn, IntWalk.u8_in _ ⟨by omega, by omega⟩]; omega
      have hE2 : Hid (bs ++ le k n = (l ++ [c]) ++ le (k - (j + 1)) (m / 256)) := by
        show _ = _
        rw [hE.out, show k - j = (k - (j + 1)) + 1 by omega, le_cons, hc]
        simp
      have hm2 : Hid (m / 256 ≤ 18446744073709551615) := by have := hm.out; show _ ≤ _; omega
      have HC := Lib.hid hc
      have hll2 : Hid ((l ++ [c]).length = bs.length + (j + 1)) := by have := hL.out; show _ = _; simp; omega
      clear hc hcn
      go_wp2_with (at_builtin; refine wpList_append_lies _ rfl (.tmp 13) (.tmp 17) 22 rfl B 5 i0 (.int .u8 0) 1 1 Try.underlying22 hi hz0 hz1 hz2 rfl (by decide) b _ _ rfl (hown.out.alloc _) ⟨wr.heap.size, 0, none⟩ 1 1 [bv c] rfl rfl (World.news_of_block (cs := #[bv c]) (by exact heap_alloc_new wr _)) (by intro u hu; simp at hu; subst hu; rfl) (by decide) (by unfold maxLen; omega) (by omega) (by have := hK.out.size; simp; omega) _ rfl ?_; intro g cap w2 hown2 hgrow hat hlt2; have R1 : Hid (w2.ownsRow B 5 1 (.slice (some ⟨g, 0, none⟩) (l.length + 1) cap) (l ++ [c]).length ((l ++ [c]).map bv)) := (by simpa [Hid] using hown2); have R2 : Hid (Kept v.ownBlock.toList w w2) := (hK.out.trans ((Kept.refl [] wr).alloc _) (fun i hi => by simp at hi)).grown hgrow (fun i hi => by rcases hsub.out i hi with q | q; exact Or.inl (by simp [q]); exact Or.inr q); have R3 : Hid (∀ i, some g = some i → v.ownBlock = some i ∨ w.heap.size ≤ i) := (fun i hi => by cases hi; rcases hat with q | q; exact hsub.out g q; right; have := hK.out.size; simp at q; omega); clear hown2 hgrow hat hlt2)
      have hw : IntKind.u64.wrap ((m : Int) / 256) = ((m / 256 : Nat) : Int) := by rw [IntWalk.u64_in _ (by have := hm.out; omega)]; omega
      rw [hw]
      clear hw
      go_roundw
      case rel => exact ⟨j + 1, m / 256, _, l ++ [c], by omega, by go_num, rfl, rfl, hm2, hE2, hll2, R1, R2, R3⟩
      case measure => simp [intOf]; omega
    · have hjk : k - j = 0 := by omega
      have hE2 : Hid (bs ++ le k n = l) := by
        show _ = _
        rw [hE.out, hjk]
        simp [le]
      clear hjk
      go_wp2_with fail
      go_ret
      exact ⟨_, rfl, by rw [hE2.out]; exact hown.out, hK.out, hsub.out⟩
end Stt
end Go.Proofs.Yteebiemfhicgbaa
