/- What the law's fill and lent do: lists of their own. -/
import Derived.Test.YtfdbpbhihccgbaaVnm
namespace Go.Proofs.Ytfdbpbhihccgbaa
set_option linter.unusedVariables false
open Go.RowKit
namespace Lst
open Go.Proofs.Ytfdbpbhihccgbaa.Txt

set_option maxHeartbeats 1000000 in
set_option maxRecDepth 100000 in
theorem fill_any (w : World) (x y : Int) (n : Nat) (c : UInt8) (hx : x = n) (hy : y = c.toNat) (hn : n ≤ 1152921504) :
    Calls Try.prog 39 #[.int .i64 x, .int .u8 y] w (Wrt.Fresh w (List.replicate n c)) := by
  subst hx hy
  obtain ⟨i0, hi, hz0, hz1, hz2⟩ := info_parts Wrt.info5
  go_enter Try.func39, Try.ntmps39
  go_wp2_with fail
  go_loopw [5, 6] (fun b0 kv wr => ∃ (k : Nat) (b : Value), k ≤ n ∧ kv = .int .i64 k ∧ b = b0 ∧ Hid (wr.ownsRow w.heap.size 5 1 b (List.replicate k c).length ((List.replicate k c).map bv)) ∧ Hid (Kept [] w wr)) (fun _ kv _ => n - (intOf kv).toNat)
  case atStart => exact ⟨0, _, by omega, rfl, rfl, World.ownsRow_nil _ _ _ _, Kept.refl _ _⟩
  case round =>
    obtain ⟨k, b, hk, rfl, rfl, hown, hK⟩ := hrel
    by_cases hlt : k < n
    · obtain ⟨l, hl⟩ : ∃ l, l = List.replicate k c := ⟨_, rfl⟩
      have hll : l.length = k := by rw [hl, List.length_replicate]
      rw [← hl] at hown
      have HL := Lib.hid hl
      have HLL := Lib.hid hll
      have hlk : l.length ≤ 1152921504 := by omega
      have e2 : List.replicate (k + 1) c = l ++ [c] := by rw [hl, List.replicate_succ']
      have E2 := Lib.hid e2
      clear hl hll e2
      go_wp2_with (at_builtin; refine wpList_append_own _ rfl (.tmp 12) (.tmp 14) 37 rfl w.heap.size 5 i0 (.int .u8 0) 1 1 Try.underlying37 hi hz0 hz1 hz2 rfl (by decide) b l.length _ rfl (hown.out.alloc _) ⟨wr.heap.size, 0, none⟩ 1 1 [bv c] rfl rfl (World.news_of_block (cs := #[bv c]) (by exact heap_alloc_new wr _)) (by intro u hu; simp at hu; subst hu; rfl) (by unfold maxLen; omega) (by omega) (by have := hK.out.size; simp; omega) ?_; intro v2 w2 hown2 hgrow2 _; have R1 : Hid (w2.ownsRow w.heap.size 5 1 v2 (List.replicate (k + 1) c).length ((List.replicate (k + 1) c).map bv)) := (by rw [E2.out]; simpa [Hid] using hown2); have R2 : Hid (Kept [] w w2) := (hK.out.trans ((Kept.refl [] wr).alloc _) (fun i hi => by simp at hi)).grown hgrow2 (fun i hi => Or.inr (hown.out.lt i hi).1); clear hown2 hgrow2)
      go_roundw
      case rel => exact ⟨k + 1, v2, by omega, by go_num, rfl, R1, R2⟩
      case measure => simp [intOf]; omega
    · have hkM : k = n := by omega
      rw [hkM] at hown
      clear hkM
      go_wp2_with fail
      go_ret
      exact ⟨_, rfl, hown.out, hK.out⟩

/-- The bytes with their marks behind them. -/
def marked (bs : List UInt8) : List UInt8 := bs ++ [90, 165, 105]

set_option maxHeartbeats 1000000 in
set_option maxRecDepth 100000 in
theorem lent_any (w : World) (v : Value) (bs : List UInt8) (T : List Nat) (hsz : bs.length ≤ 1152921504) (hb : Hid (Src w v bs T)) :
    Calls Try.prog 17 #[v] w (Wrt.Fresh w (marked bs)) := by
  obtain ⟨i0, hi, hz0, hz1, hz2⟩ := info_parts Wrt.info5
  obtain ⟨a, c, rfl, hno, hcl⟩ := hb.out
  cases a with
  | none =>
    obtain ⟨rfl, rfl⟩ := hno rfl
    clear hno hcl hb hsz
    rw [show (List.length ([] : List UInt8)) = 0 from rfl]
    go_enter Try.func17, Try.ntmps17
    go_wp2_with (at_builtin; first | (refine wpList_append_own_none rfl (.tmp 4) (.tmp 5) 37 rfl w.heap.size 5 i0 1 Try.underlying37 hi _ 0 [] rfl (World.ownsRow_nil _ _ _ _) rfl ?_) | (refine wpList_append_own _ rfl (.tmp 7) (.tmp 8) 37 rfl w.heap.size 5 i0 (.int .u8 0) 1 1 Try.underlying37 hi hz0 hz1 hz2 rfl (by decide) _ 0 _ rfl (World.ownsRow_nil _ _ _ _) ⟨w.heap.size, 0, none⟩ 3 3 [bv 90, bv 165, bv 105] rfl rfl (World.news_of_block (cs := #[bv 90, bv 165, bv 105]) (by exact heap_alloc_new w _)) (by intro u hu; simp at hu; rcases hu with rfl | rfl | rfl <;> rfl) (by unfold maxLen; omega) (by omega) (by simp) ?_; intro v2 w2 hown2 hgrow2 _; have Q1 : Hid (Wrt.Own w2 w.heap.size v2 (marked [])) := (by simpa [Hid, marked, Wrt.Own] using hown2); have Q2 : Hid (Kept [] w w2) := ((Kept.refl [] w).alloc _).grown hgrow2 (fun i hi => by cases hi); clear hown2 hgrow2))
    go_ret
    exact ⟨_, rfl, Q1, Q2.out⟩
  | some ad =>
    have Hcl := Lib.hid (hcl ad rfl).2
    clear hno hcl
    go_enter Try.func17, Try.ntmps17
    go_wp2_with (at_builtin; first | (refine wpList_append_own_at _ rfl (.tmp 4) (.tmp 5) 37 rfl w.heap.size 5 i0 (.int .u8 0) 1 1 Try.underlying37 hi hz0 hz1 hz2 rfl (by decide) _ 0 [] rfl (World.ownsRow_nil _ _ _ _) ad _ _ (bs.map bv) rfl (by simp) Hcl.out (by intro u hu; obtain ⟨x, _, rfl⟩ := List.mem_map.1 hu; rfl) (by unfold maxLen; omega) (by omega) (by simp) ?_; intro v1 w1 hown hgrow _ hat; have R1 : Hid (w1.ownsRow w.heap.size 5 1 v1 bs.length (bs.map bv)) := (by simpa [Hid] using hown); have R2 : Hid (Kept [] w w1) := (Kept.refl [] w).grown hgrow (by intro k hk; cases hk); clear hown hgrow hat) | (refine wpList_append_own _ rfl (.tmp 7) (.tmp 8) 37 rfl w.heap.size 5 i0 (.int .u8 0) 1 1 Try.underlying37 hi hz0 hz1 hz2 rfl (by decide) v1 bs.length _ rfl (R1.out.alloc _) ⟨w1.heap.size, 0, none⟩ 3 3 [bv 90, bv 165, bv 105] rfl rfl (World.news_of_block (cs := #[bv 90, bv 165, bv 105]) (by exact heap_alloc_new w1 _)) (by intro u hu; simp at hu; rcases hu with rfl | rfl | rfl <;> rfl) (by unfold maxLen; omega) (by omega) (by have := R2.out.size; simp; omega) ?_; intro v2 w2 hown2 hgrow2 _; have Q1 : Hid (Wrt.Own w2 w.heap.size v2 (marked bs)) := (by simpa [Hid, marked, Wrt.Own] using hown2); have Q2 : Hid (Kept [] w w2) := (R2.out.trans ((Kept.refl [] w1).alloc _) (fun i hi => by simp at hi)).grown hgrow2 (fun i hi => Or.inr (R1.out.lt i hi).1); clear hown2 hgrow2))
    go_ret
    exact ⟨_, rfl, Q1, Q2.out⟩
end Lst
end Go.Proofs.Ytfdbpbhihccgbaa
