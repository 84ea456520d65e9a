/- What read of nodes does: block by block. -/
import Derived.Test.YtihkldcdikbinaaByd
import Derived.LoopTactic
namespace Go.Proofs.Ytihkldcdikbinaa
set_option linter.unusedVariables false
open Go.RowKit
namespace Nd
open Go.Proofs.Ytihkldcdikbinaa.Utf Go.Proofs.Ytihkldcdikbinaa.Txt Go.PlainAid Go.Proofs.Ytihkldcdikbinaa.Mpf

/-- The byte at a place. -/
def byteAt (g : Nat → Option (List UInt8)) (i : Nat) : UInt8 := ((g (i / 256)).getD z256).getD (i % 256) 0
def bytesAt (g : Nat → Option (List UInt8)) (off k : Nat) : List UInt8 := (List.range k).map fun j => byteAt g (off + j)
theorem bytesAt_length (g : Nat → Option (List UInt8)) (off k : Nat) : (bytesAt g off k).length = k := by simp [bytesAt]
theorem bytesAt_more (g : Nat → Option (List UInt8)) (off k n : Nat) (hg : ∀ i l, g i = some l → l.length = 256) (h : (off + k) % 256 + n ≤ 256) :
    bytesAt g off (k + n) = bytesAt g off k ++ (((g ((off + k) / 256)).getD z256).drop ((off + k) % 256)).take n := by
  have hl : ((g ((off + k) / 256)).getD z256).length = 256 := by
    cases e : g ((off + k) / 256) with
    | none => exact List.length_replicate
    | some l => exact hg _ l e
  refine List.ext_getElem? fun i => ?_
  by_cases h1 : i < k
  · rw [List.getElem?_append_left (by rw [bytesAt_length]; exact h1)]
    simp [bytesAt, h1, show i < k + n by omega]
  · rw [List.getElem?_append_right (by rw [bytesAt_length]; omega), bytesAt_length]
    by_cases h2 : i < k + n
    · have h3 : i - k < n := by omega
      rw [List.getElem?_take, if_pos h3, List.getElem?_drop]
      simp only [bytesAt, List.getElem?_map, List.getElem?_range h2, Option.map_some]
      unfold byteAt
      have e1 : (off + i) / 256 = (off + k) / 256 := by omega
      have e2 : (off + i) % 256 = (off + k) % 256 + (i - k) := by omega
      rw [e1, e2]
      rw [List.getElem?_eq_getElem (by omega)]
      simp [List.getD, show (off + k) % 256 + (i - k) < ((g ((off + k) / 256)).getD z256).length by omega]
    · rw [List.getElem?_take, if_neg (by omega)]
      simp [bytesAt, h2]
theorem info_u8z : (Try.prog.info? 5).map (fun i => (i.zero, i.size, i.bytes)) = some (some (.int .u8 0), 1, 1) := by kernel_rfl
def bl (l : List UInt8) : List Value := l.map fun b => Value.int .u8 (b.toNat : Int)
theorem b8_bl (l : List UInt8) : (b8 l).toList = bl l := by simp [b8, bl]
theorem bl_one (l : List UInt8) : ∀ u ∈ bl l, u.oneCell' = true := by
  intro u hu
  obtain ⟨n, _, rfl⟩ := List.mem_map.1 hu
  rfl

theorem row_keptT {t : TypeId} {S : List Nat} {w w' : World} {v : Value} {n : Nat} {xs : List Value} (h : w.ownsRow 0 t 1 v n xs) (k : Kept S w w') (hn : ∀ g, v.ownBlock = some g → g ∉ S) : w'.ownsRow 0 t 1 v n xs := by
  refine ⟨h.1, ?_⟩
  rcases h.2 with h2 | ⟨g, cap, cur, rfl, hb, hc, hr⟩
  · exact Or.inl h2
  · exact Or.inr ⟨g, cap, cur, rfl, hb, (k.block g (block_lt hc) (hn g rfl)).trans hc, hr⟩
set_option maxRecDepth 100000 in
set_option maxHeartbeats 8000000 in
theorem read_any (w : World) (b : Nat) (d : Is) (lk : Int) (ks : Value) (m nn : Nat) (g : Nat → Option (List UInt8)) (off most left : Nat)
    (hn : NdAt w b d lk ks m) (hm : Mp nK w m nn (fun i => (g i).map blkV)) (hg : ∀ i l, g i = some l → l.length = 256)
    (hmost : 0 < most) (hm63 : most < 9223372036854775808) (hoff : off < d.length) (hlen : d.length < 1000000000) (hleft : left = min (d.length - off) most) :
    Calls Try.prog 54 #[.pointer (some ⟨b, 0, none⟩), .int .u64 off, .int .i64 most] w fun e w' => ∃ g2 cap, e = .returned (.slice (some ⟨g2, 0, none⟩) left cap) ∧ w'.ownsRow 0 5 1 (.slice (some ⟨g2, 0, none⟩) left cap) left (bl (bytesAt g off left)) ∧ w.heap.size ≤ g2 ∧ Kept [] w w' := by
  obtain ⟨i0, hi, hz0, hz1, hz2⟩ := info_parts info_u8z
  have c12 := hn.cell 12 (v := .int .u64 d.length) rfl
  have t1 : ¬ (most : Int) ≤ 0 := by omega
  have t2 : ¬ (d.length : Int) ≤ (off : Int) := by omega
  have q1 : IntKind.u64.wrap ((d.length : Int) - off) = ((d.length - off : Nat) : Int) := u64_sub _ _ (by omega) (by omega)
  have q2 : IntKind.u64.wrap (most : Int) = (most : Int) := u64_id most (by omega)
  have hl0 : 0 < left := by rw [hleft]; omega
  have hmin : min ((d.length - off : Nat) : Int) (most : Int) = (left : Int) := by rw [hleft]; omega
  have HLF : Hid (left < 1000000000 ∧ off + left ≤ d.length) := by refine ⟨?_, ?_⟩ <;> rw [hleft] <;> omega
  have HH := Lib.hid hleft
  clear hleft
  go_enter Try.func54, Try.ntmps54
  go_wp2_with (at_make; refine wpList_make_own _ rfl _ _ 53 rfl 0 5 i0 (.int .u8 0) 1 Try.underlying53 hi hz0 hz1 _ _ _ left rfl rfl rfl (by rw [hz2]; have := HLF.out.1; omega) (by unfold maxLen; have := HLF.out.1; omega) (Nat.zero_le _) ?_; intro w1 hw1 hg1)
  have K1 : Hid (Kept [] w w1) := (Kept.refl [] w).grown hg1 (fun k h => by cases h)
  have R1 := Lib.hid hw1
  clear hw1 hg1 c12 t1 t2 q1 q2 hmin
  go_loopw [1, 7, 8] (fun ov lv tv wr => ∃ (k g2 cap : Nat), ov = .int .u64 ((off + k : Nat) : Int) ∧ lv = .int .u64 ((left - k : Nat) : Int) ∧ tv = .slice (some ⟨g2, 0, none⟩) k cap ∧ Hid (k ≤ left ∧ wr.ownsRow 0 5 1 (.slice (some ⟨g2, 0, none⟩) k cap) k (bl (bytesAt g off k)) ∧ w.heap.size ≤ g2 ∧ Kept [] w wr)) (fun _ lv _ _ => (intOf lv).toNat)
  case atStart => exact ⟨0, _, _, by simp, by simp, rfl, Nat.zero_le _, R1.out, Nat.le_refl _, K1.out⟩
  case round =>
    obtain ⟨k, g2, cap, rfl, rfl, rfl, hR⟩ := hrel
    by_cases hlt : k < left
    · obtain ⟨pos, hpos⟩ : ∃ x, x = off + k := ⟨_, rfl⟩
      obtain ⟨lf, hlf⟩ : ∃ x, x = left - k := ⟨_, rfl⟩
      obtain ⟨bi, hbi⟩ : ∃ x, x = pos / 256 := ⟨_, rfl⟩
      obtain ⟨fr, hfr⟩ : ∃ x, x = pos % 256 := ⟨_, rfl⟩
      obtain ⟨pl, hpl⟩ : ∃ x, x = 256 - fr := ⟨_, rfl⟩
      obtain ⟨n1, hn1⟩ : ∃ x, x = min lf pl := ⟨_, rfl⟩
      obtain ⟨L, hL⟩ : ∃ L, L = (g bi).getD z256 := ⟨_, rfl⟩
      have HB := HLF.out
      have HL : Hid (L.length = 256) := by
        show _ = _
        rw [hL]
        cases hga : g bi with
        | none => exact List.length_replicate
        | some l => exact hg bi l hga
      have hlk : ((g bi).map blkV).getD (.agg (b8 z256)) = .agg (b8 L) := by rw [hL]; cases g bi <;> rfl
      have hbl2 : nK.ok bi := show bi < 18446744073709551616 by omega
      have p1 : IntKind.u64.wrap ((pos : Int) / 256) = (bi : Int) := by rcases u64_div pos with h | h; rw [hbi]; exact h; omega
      have p2 : (pos : Int).tmod 256 = (fr : Int) := by rw [hfr]; exact tmod_nat pos
      have p0 : ((256 - fr : Nat)) = pl := by omega
      have p3 : IntKind.u64.wrap (pl : Int) = (pl : Int) := u64_id _ (by omega)
      have hm1 : min (lf : Int) (pl : Int) = (n1 : Int) := by omega
      have p4 : IntKind.u64.wrap (n1 : Int) = (n1 : Int) := u64_id _ (by omega)
      have p5 : IntKind.u64.wrap ((pos : Int) + n1) = ((pos + n1 : Nat) : Int) := u64_add _ _ (by omega)
      have p6 : IntKind.u64.wrap ((lf : Int) - n1) = ((lf - n1 : Nat) : Int) := u64_sub _ _ (by omega) (by omega)
      have j1 : (0 : Int) < (lf : Int) := by omega
      have f1 : (0 : Int) ≤ (fr : Int) := by omega
      have f2 : (fr : Int) ≤ 256 := by omega
      have f3 : ¬ 256 = fr := by omega
      have f4 : (n1 : Int) ≤ (pl : Int) := by omega
      have f5 : (0 : Int) ≤ (n1 : Int) := by omega
      have FX : Hid (0 < n1 ∧ fr + n1 ≤ 256 ∧ pos = off + k ∧ lf = left - k ∧ n1 ≤ lf ∧ fr = pos % 256 ∧ bi = pos / 256 ∧ k < left ∧ L = (g bi).getD z256) := ⟨by omega, by omega, hpos, hlf, by omega, hfr, hbi, hlt, hL⟩
      rw [← hpos, ← hlf]
      have N : Hid (NdAt wr b d lk ks m) := hn.kept hR.out.2.2.2 (by simp)
      have M : Hid (Mp nK wr m nn (fun i => (g i).map blkV)) := hm.kept hR.out.2.2.2 (by simp)
      have c16 := N.out.cell 16 (v := .map (some m)) rfl
      have ZB := zero_bk
      have NEWS : Hid (bl ((L.drop fr).take n1) = bl ((L.drop fr).take n1) ∧ (bl ((L.drop fr).take n1)).length = n1 * 1 ∧ ∀ w', Bx w' wr.heap.size 133 (b8 L) → ∀ j u, (bl ((L.drop fr).take n1))[j]? = some u → w'.cell? ((⟨wr.heap.size, fr, none⟩ : Addr).add j) = some u) := by
        refine ⟨rfl, ?_, ?_⟩
        · have := HL.out; simp [bl]; omega
        · intro w' hb j u hu
          rw [Go.Addr.add_mid, cell_of_row w' wr.heap.size (fr + j) _ 133 (0, 0) hb]
          unfold bl at hu
          rw [List.getElem?_map, List.getElem?_take] at hu
          split at hu
          · rw [List.getElem?_drop] at hu
            simpa [b8] using hu
          · cases hu
      clear hpos hlf hbi hfr hpl hn1 hL hlt HB
      go_wp2_with (first | (at_lookup; refine wpList_look _ nK rfl _ _ 103 rfl 133 Try.underlying103 (zero_bk _) M.out rfl bi hbl2 rfl ?_; rw [hlk]) | (refine wpList_store_row rfl 133 _ _ rfl wr.heap.size rfl 133 (b8 z256) (b8 L) rfl (Bx.made wr 133 (b8 z256)) (by rw [b8_size, HL.out]; exact size_bk) (by rw [b8_size, b8_size, HL.out]; rfl) (b8_one L) ?_; intro w4 hA4 k4; have KK4 : Hid (Kept [wr.heap.size] wr w4) := ((Kept.refl [wr.heap.size] wr).alloc _).trans k4 (fun i hi => Or.inl hi); have R4 : Hid (w4.ownsRow 0 5 1 (.slice (some ⟨g2, 0, none⟩) k cap) k (bl (bytesAt g off k))) := row_keptT hR.out.2.1 KK4.out (fun q hq h => by rw [List.mem_singleton] at h; have := (hR.out.2.1.lt q hq).2; omega); have A4 := Lib.hid hA4; clear k4 hA4) | (at_builtin; refine wpList_append_lies _ rfl _ _ 53 rfl 0 5 i0 (.int .u8 0) 1 1 Try.underlying53 hi hz0 hz1 hz2 rfl (by decide) _ k (bl (bytesAt g off k)) rfl R4.out ⟨wr.heap.size, fr, none⟩ n1 pl (bl ((L.drop fr).take n1)) rfl NEWS.out.2.1 (NEWS.out.2.2 _ A4.out) (bl_one _) FX.out.1 (by unfold maxLen; have := FX.out; have := HLF.out.1; omega) (by have := FX.out; have := HLF.out.1; omega) (Nat.zero_le _) w4.heap.size rfl ?_; intro g3 cap3 w5 ho5 hg5 hl5 hlt5))
      have HR := hR.out
      have FF := FX.out
      have KK5 : Kept [] w w5 := ((HR.2.2.2.mono (T := [wr.heap.size, g2]) (fun i hi => by cases hi)).trans KK4.out (fun i hi => Or.inl (by rw [List.mem_singleton] at hi; simp [hi]))).trans (S := [wr.heap.size, g2]) (T := [g2]) ((Kept.refl [g2] w4).grown hg5 (fun q hq => Or.inl (by cases hq; exact List.mem_singleton.2 rfl))) (fun i hi => Or.inl (by rw [List.mem_singleton] at hi; simp [hi])) |> fun h => ⟨h.os, h.tape, h.output, h.size, fun i hi _ => h.block i hi (fun hm => by have := HR.2.2.1; have := HR.2.2.2.size; simp at hm; omega)⟩
      go_roundw
      case rel =>
        refine ⟨k + n1, g3, cap3, congrArg (Value.int .u64) (by omega), congrArg (Value.int .u64) (by omega), rfl, ?_, ?_, ?_, KK5⟩
        · omega
        · rw [bytesAt_more g off k n1 hg (by rw [← FF.2.2.1, ← FF.2.2.2.2.2.1]; exact FF.2.1), ← FF.2.2.1, ← FF.2.2.2.2.2.1, ← FF.2.2.2.2.2.2.1, ← FF.2.2.2.2.2.2.2.2]
          have e : bl (bytesAt g off k ++ (L.drop fr).take n1) = bl (bytesAt g off k) ++ bl ((L.drop fr).take n1) := by simp [bl]
          rw [e]
          exact ho5
        · rcases hl5 with h | h
          · cases h; exact HR.2.2.1
          · rw [h]; have := KK4.out.size; have := HR.2.2.2.size; omega
      case measure => simp [intOf]; omega
    · have hkk : k = left := by have := hR.out.1; omega
      subst hkk
      have j1 : ¬ (0 : Int) < ((k - k : Nat) : Int) := by omega
      go_wp2_with fail
      go_ret
      exact ⟨g2, cap, rfl, hR.out.2⟩
end Nd
end Go.Proofs.Ytihkldcdikbinaa
