/- stat.lettered: the bits whose letters stand at their places. -/
import Derived.Test.YtkilomaangdmdaaDoorMdw
import Derived.Deep.QuietTactic
import Derived.BigQuiet
namespace Go.Proofs.YtkilomaangdmdaaDoor
set_option linter.unusedVariables false
open Go.RowKit

set_option maxHeartbeats 4000000 in
set_option maxRecDepth 100000 in
theorem lettered_any (s : ByteArray) (hs : s.size ≤ 1152921504) (w : World) :
    Calls Tryd.prog 12 #[.string s] w fun e w' => e = .returned (.int .u32 (litK s.data.toList 13 : Nat)) ∧ Kept [] w w' := by
  have hzl : ∀ w, (zeroValue 35).run Tryd.prog w = .ok (.agg #[.int .u8 0, .int .u32 0]) w := fun w => by kernel_rfl
  obtain ⟨wl, hwl⟩ : ∃ x, x = w.alloc (.cells lrow 35 (0, 0)) := ⟨_, rfl⟩
  obtain ⟨L, hL⟩ : ∃ x, x = w.heap.size := ⟨_, rfl⟩
  have L0 : Hid (wl.heap[L]? = some (.cells lrow 35 (0, 0))) := by rw [hwl, hL]; exact heap_alloc_new w _
  have KL : Hid (Kept [] w wl) := by rw [hwl]; exact (Kept.refl [] w).alloc _
  have LET : Hid (Calls Tryd.prog 6 #[] w fun e w' => e = .returned (.slice (some ⟨L, 0, none⟩) 13 13) ∧ wl = w') := (letters_any w).mono fun e w' ⟨h1, h2⟩ => ⟨by rw [hL]; exact h1, by rw [hwl]; exact h2.symm⟩
  clear hwl hL
  obtain ⟨l, hl⟩ : ∃ l, l = s.data.toList := ⟨_, rfl⟩
  have hll : Hid (s.size = l.length) := by show _ = _; rw [hl]; exact size_list s
  rw [← hl]
  have HLS := Lib.hid hl
  clear hl
  go_enter Tryd.func12, Tryd.ntmps12
  go_wp2_with fail
  refine LET.out.mono ?_
  rintro e w1 ⟨rfl, rfl⟩
  clear LET
  go_wp2_with fail
  go_loopw [3, 8] (fun av iv wr => ∃ i : Nat, i ≤ 13 ∧ iv = .int .i64 i ∧ av = .int .u32 (litK l i : Nat) ∧ Hid (wr.heap[L]? = some (.cells lrow 35 (0, 0))) ∧ Hid (Kept [] wl wr)) (fun _ iv _ => 13 - (intOf iv).toNat)
  case atStart => exact ⟨0, by omega, rfl, rfl, L0, Kept.refl _ _⟩
  case round =>
    clear L0
    obtain ⟨i, hi, rfl, rfl, HLt, HK⟩ := hrel
    obtain ⟨o, ho⟩ : ∃ o, o = litK l i := ⟨_, rfl⟩
    rw [← ho]
    have ho32 : o < 4294967296 := by rw [ho]; exact litK_lt l i
    have HO := Lib.hid ho
    clear ho
    by_cases hlt : i < 13
    · obtain ⟨d0, d1⟩ := lcell HLt.out i hlt
      have hb32 := bt_lt i
      obtain ⟨a2, ha3⟩ := orb32 o (bt i) ho32 hb32
      obtain ⟨bi, hbi⟩ : ∃ x, x = bt i := ⟨_, rfl⟩
      obtain ⟨si, hsi⟩ : ∃ x, x = sg i := ⟨_, rfl⟩
      rw [← hbi] at d1 a2 hb32 ha3
      rw [← hsi] at d0
      obtain ⟨oa, hoa⟩ : ∃ x, x = o ||| bi := ⟨_, rfl⟩
      rw [← hoa] at a2 ha3
      have HOA := Lib.hid hoa
      have HBI := Lib.hid hbi
      have HSI := Lib.hid hsi
      clear hoa hbi hsi
      have hii : (i : Int) < 13 := by omega
      obtain ⟨q, hq⟩ : ∃ q, q = wr.heap.size := ⟨_, rfl⟩
      obtain ⟨wq, hwq⟩ : ∃ x, x = wr.alloc (.cells #[.int .u8 (si.toNat : Int), .int .u32 (bi : Int)] 35 (0, 0)) := ⟨_, rfl⟩
      have KQ : Hid (Kept [] wr wq) := by rw [hwq]; exact (Kept.refl [] wr).alloc _
      have Q0 : Hid (wq.heap[q]? = some (.cells #[.int .u8 (si.toNat : Int), .int .u32 (bi : Int)] 35 (0, 0))) := by rw [hwq, hq]; exact heap_alloc_new wr _
      have y0 : wq.cell? ⟨q, 0, none⟩ = some (.int .u8 (si.toNat : Int)) := by rw [cell_of_row wq q 0 _ _ (0, 0) Q0.out]; rfl
      have y1 : wq.cell? ⟨q, 1, none⟩ = some (.int .u32 (bi : Int)) := by rw [cell_of_row wq q 1 _ _ (0, 0) Q0.out]; rfl
      have HQL : Hid (wq.heap[L]? = some (.cells lrow 35 (0, 0))) := by show _ = _; rw [KQ.out.block L (block_lt HLt.out) (by simp)]; exact HLt.out
      have KE : Hid (Kept [] wl wq) := HK.out.trans KQ.out (fun _ hm => by cases hm)
      have HWQ := Lib.hid hwq
      have HQ := Lib.hid hq
      have NXT : Hid (litK l (i + 1) = if l[i]? = some si then oa else o) := by show _ = _; rw [litK, HSI.out, HOA.out, HBI.out, HO.out]
      clear hwq hq
      go_upto_region 5 with (fail)
      rw [← HWQ.out, ← HQ.out]
      clear d0 d1 hzl
      by_cases hlen : i < s.size
      · have hsi : (i : Int) < (s.size : Int) := by omega
        obtain ⟨c, hc⟩ : ∃ c, c = s[i] := ⟨_, rfl⟩
        have HC : Hid (l[i]? = some c) := by
          have h := HLS.out
          have h2 := hll.out
          show _ = _
          rw [h, List.getElem?_eq_getElem (by rw [← h]; omega), hc]
          rfl
        have hidx : ∀ w, (Instr.index 9 (.string s) (.int .i64 (i : Int))).run Tryd.prog w = .ok (.int .u8 (c.toNat : Int)) w := fun w => by
          rw [hc, run_index_string (P := Tryd.prog) w 9 s .i64 (i : Int) Tryd.underlying9]
          simp [hlen]
        by_cases heq : c = si
        · have j0 : ((c.toNat : Int) == (si.toNat : Int)) = true := by rw [heq]; simp
          have N2 : Hid (litK l (i + 1) = oa) := by show _ = _; rw [NXT.out, HC.out, heq, if_pos rfl]
          clear hc heq NXT
          go_quiet (fail)
          go_wp2_with fail
          go_roundw
          case rel => exact ⟨i + 1, by omega, by go_num, by rw [N2.out], HQL, KE.out.drewN nq⟩
          case measure => simp [intOf]; omega
        · have j0 : ((c.toNat : Int) == (si.toNat : Int)) = false := by
            have : c.toNat ≠ si.toNat := fun e => heq (UInt8.toNat_inj.1 e)
            simp; omega
          have N2 : Hid (litK l (i + 1) = o) := by show _ = _; rw [NXT.out, HC.out, if_neg (fun e => heq (Option.some.inj e))]
          clear hc heq NXT
          go_quiet (fail)
          go_wp2_with fail
          go_roundw
          case rel => exact ⟨i + 1, by omega, by go_num, by rw [N2.out], HQL, KE.out.drewN nq⟩
          case measure => simp [intOf]; omega
      · have hsi : ¬ (i : Int) < (s.size : Int) := by omega
        have hsd : decide ((i : Int) < (s.size : Int)) = false := decide_eq_false hsi
        have N2 : Hid (litK l (i + 1) = o) := by show _ = _; rw [NXT.out, List.getElem?_eq_none (by have := hll.out; omega), if_neg (fun e => by cases e)]
        clear NXT
        go_quiet (fail)
        go_wp2_with fail
        go_roundw
        case rel => exact ⟨i + 1, by omega, by go_num, by rw [N2.out], HQL, KE.out.drewN nq⟩
        case measure => simp [intOf]; omega
    · obtain rfl : i = 13 := by omega
      clear hi hlt hzl
      go_wp2_with fail
      go_ret
      exact ⟨by rw [HO.out]; rfl, KL.out.trans HK.out (fun _ hm => by cases hm)⟩
end Go.Proofs.YtkilomaangdmdaaDoor
