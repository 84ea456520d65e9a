/- Pack, and what the law asks of rows of records: weights, writes. -/
import Derived.Test.YteebiemfhicgbaaPmt
import Derived.Test.YteebiemfhicgbaaRre
import Derived.Test.YteebiemfhicgbaaReq
namespace Go.Proofs.Yteebiemfhicgbaa
set_option linter.unusedVariables false
open Go.RowKit
theorem Rec.bytes_good {s : Rec} (h : s.err = 0) : s.bytes = s.enc := by unfold Rec.bytes; rw [if_pos h]
theorem Rec.bytes_bad {s : Rec} (h : s.err ≠ 0) : s.bytes = [] := by unfold Rec.bytes; rw [if_neg h]


/-- What Pack tells: so many bytes, of so many records; one more would not fit. -/
def PackOut (w : World) (room : Nat) (l : List Rec) (e : Ending) (w' : World) : Prop :=
  ∃ (n : Nat) (pv : Value), n ≤ l.length ∧ e = .returned (.tuple #[pv, .int .i64 n]) ∧ Hid (Wrt.Own w' w.heap.size pv (encl (l.take n))) ∧ (encl (l.take n)).length ≤ room ∧ (∀ s, l[n]? = some s → room < (encl (l.take n)).length + s.size) ∧ Hid (Kept [] w w')
theorem encl_take {l : List Rec} {i : Nat} {s : Rec} (h : l[i]? = some s) : encl (l.take (i + 1)) = encl (l.take i) ++ s.enc := by
  rw [List.take_add_one, h, encl_append]
  show encl (l.take i) ++ (s.enc ++ []) = _
  rw [List.append_nil]
namespace Stt
open Go.Proofs.Yteebiemfhicgbaa.Txt

set_option maxHeartbeats 1000000 in
set_option maxRecDepth 100000 in
theorem writes_any (w : World) (s : Rec) (so : s.Ok) : Calls Try.prog 13 #[s.val] w fun e w' => e = .returned (.bool ((s.err : Int) == 0)) ∧ Kept [] w w' := by
  have L0 : Hid (Lies (w.alloc (.cells s.cells 30 (0, 0))) w.heap.size s) := heap_alloc_new w _
  have K0 : Hid (Kept [] w (w.alloc (.cells s.cells 30 (0, 0)))) := (Kept.refl [] _).alloc _
  have EN := Lib.hid (rencode_any (w.alloc (.cells s.cells 30 (0, 0))) s so)
  obtain ⟨er, her⟩ : ∃ n, n = s.err := ⟨_, rfl⟩
  obtain ⟨rb, hrb⟩ : ∃ n, n = s.bytes := ⟨_, rfl⟩
  rw [← her, ← hrb] at EN
  rw [← her]
  clear her hrb
  obtain ⟨c0, c1, c2, c3, c4, c5, c6, c7, c8, c9, c10, c11, c12⟩ := L0.out.cells
  obtain ⟨ty, dev, kind, vers, path, mode, atime, mtime, len, name, uid, gid, muid⟩ := s
  unfold Rec.val Rec.cells at *
  simp only [] at *
  clear c0 c1 c2 c3 c4 c5 c6 c7 c8 c9 c10 c11 c12 L0
  go_enter Try.func13, Try.ntmps13
  go_wp2_with fail
  refine EN.out.mono ?_
  rintro e w1 ⟨v, rfl, -, k1⟩
  go_wp2_with fail
  go_ret
  exact ⟨rfl, K0.out.trans k1.out (fun i hi => by simp at hi)⟩


set_option maxHeartbeats 2000000 in
set_option maxRecDepth 100000 in
theorem pack_any (w : World) (g o c room : Nat) (x : Int) (l : List Rec) (hx : x = room) (hl : l.length ≤ 100000) (hr : room ≤ 1000000) (ho : ∀ s ∈ l, s.Ok ∧ s.err = 0) (hR : Hid (RowAt w g o l)) :
    Calls Try.prog 16 #[.int .i64 x, .slice (some ⟨g, o, none⟩) l.length c] w (PackOut w room l) := by
  subst hx
  have hoh := Lib.hid ho
  clear ho
  obtain ⟨i0, hi0, hz0, hz1, hz2⟩ := info_parts Wrt.info5
  go_enter Try.func16, Try.ntmps16
  go_wp2_with fail
  go_loopw [6, 13] (fun b0 kv wr => ∃ (i : Nat) (b : Value), i ≤ l.length ∧ kv = .int .i64 i ∧ b = b0 ∧ Hid (wr.ownsRow w.heap.size 5 1 b (encl (l.take i)).length ((encl (l.take i)).map bv)) ∧ (encl (l.take i)).length ≤ room ∧ Hid (Kept [] w wr)) (fun _ kv _ => l.length - (intOf kv).toNat)
  case atStart => exact ⟨0, _, by omega, rfl, rfl, World.ownsRow_nil _ _ _ _, by simp [encl], Kept.refl _ _⟩
  case round =>
    obtain ⟨i, b, hi, rfl, rfl, hown, hroom, hK⟩ := hrel
    obtain ⟨old, hold⟩ : ∃ x : List UInt8, x = encl (l.take i) := ⟨_, rfl⟩
    rw [← hold] at hown hroom
    have holdh := Lib.hid hold
    obtain ⟨ab, cb, hb⟩ := own_slice_b hown.out
    subst hb
    by_cases hlt : i < l.length
    · obtain ⟨s, hs⟩ : ∃ s, l[i]? = some s := ⟨_, List.getElem?_eq_getElem hlt⟩
      obtain ⟨c0, c1, c2, c3, c4, c5, c6, c7, c8, c9, c10, c11, c12⟩ := (hR.out.kept hK.out (by simp)).cells hs
      obtain ⟨so, se⟩ := hoh.out s (List.mem_of_getElem? hs)
      have htk := encl_take hs
      have hsz : s.enc.length = s.size := s.enc_length
      have hs49 : 49 ≤ s.size := by unfold Rec.size; omega
      obtain ⟨en, hen⟩ : ∃ x : List UInt8, x = s.enc := ⟨_, rfl⟩
      have ENC := fun (w1 : World) => encode_any w1 s so
      rw [Rec.bytes_good se, se, ← hen] at ENC
      rw [← hen] at htk hsz
      rw [← hold] at htk
      have hsh := Lib.hid hs
      have hszh := Lib.hid hsz
      have htkh := Lib.hid htk
      obtain ⟨y0, y1, y2, y3, y4, y5, y6, y7, y8, y9, y10, y11, y12⟩ := s
      simp only [Rec.val, Rec.cells] at ENC c0 c1 c2 c3 c4 c5 c6 c7 c8 c9 c10 c11 c12
      have ENCh := Lib.hid ENC
      have hlt' : (i : Int) < (l.length : Int) := by omega
      have hpos : 0 < en.length := by omega
      clear ENC hs hsz htk hen so se hold hs49
      have K1 : Hid (Kept [] w (wr.alloc (.cells #[.int .u16 y0, .int .u32 y1, .int .u8 y2, .int .u32 y3, .int .u64 y4, .int .u32 y5, .int .u32 y6, .int .u32 y7, .int .u64 y8, .string y9, .string y10, .string y11, .string y12] 30 (0, 0)))) := hK.out.alloc _
      have M1 : Hid ((wr.alloc (.cells #[.int .u16 y0, .int .u32 y1, .int .u8 y2, .int .u32 y3, .int .u64 y4, .int .u32 y5, .int .u32 y6, .int .u32 y7, .int .u64 y8, .string y9, .string y10, .string y11, .string y12] 30 (0, 0))).heap[wr.heap.size]? = some (.cells #[.int .u16 y0, .int .u32 y1, .int .u8 y2, .int .u32 y3, .int .u64 y4, .int .u32 y5, .int .u32 y6, .int .u32 y7, .int .u64 y8, .string y9, .string y10, .string y11, .string y12] 30 (0, 0))) := heap_alloc_new wr _
      have hown1 := Lib.hid (ownsRow_kept hown.out ((Kept.refl [] wr).alloc (.cells #[.int .u16 y0, .int .u32 y1, .int .u8 y2, .int .u32 y3, .int .u64 y4, .int .u32 y5, .int .u32 y6, .int .u32 y7, .int .u64 y8, .string y9, .string y10, .string y11, .string y12] 30 (0, 0))) (fun k e hm => by simp at hm))
      obtain ⟨d0, d1, d2, d3, d4, d5, d6, d7, d8, d9, d10, d11, d12, -⟩ := thirteen M1.out
      clear hown
      go_wp2_with fail
      refine (ENCh.out _).mono ?_
      rintro e w5 ⟨v5, rfl, h5, k5⟩
      obtain ⟨a5, q5, hv5⟩ := own_slice_b h5.out
      subst hv5
      have hown5 := Lib.hid (ownsRow_kept hown1.out k5.out (fun k e hm => by simp at hm))
      have K5 : Hid (Kept [] w w5) := K1.out.trans k5.out (fun i hi => by simp at hi)
      clear c0 c1 c2 c3 c4 c5 c6 c7 c8 c9 c10 c11 c12 d0 d1 d2 d3 d4 d5 d6 d7 d8 d9 d10 d11 d12 M1 hown1 ENCh K1 hK
      by_cases hfit : old.length + en.length ≤ room
      · obtain ⟨ad5, hne5, hc5⟩ : ∃ ad, a5 = some ad ∧ ∀ j u, (en.map bv)[j]? = some u → w5.cell? (ad.add j) = some u := by
          rcases h5.out.2 with ⟨h, h'⟩ | ⟨g', cap', cur, h, _⟩
          · omega
          · cases h
            exact ⟨_, rfl, fun j u hu => h5.out.cells (g := g') rfl j u hu⟩
        subst hne5
        have hc5h := Lib.hid hc5
        have hbk : Hid (∀ k, (Value.slice ab old.length cb).ownBlock = some k → w.heap.size ≤ k) := fun k hk => (hown5.out.lt k hk).1
        have hfit' : ¬ ((room : Int) - (old.length : Int) < (en.length : Int)) := by omega
        clear h5 k5 hc5
        go_wp2_with (at_builtin; refine wpList_append_lies _ rfl (.tmp 36) (.tmp 37) 22 rfl w.heap.size 5 i0 (.int .u8 0) 1 1 Try.underlying22 hi0 hz0 hz1 hz2 rfl (by decide) _ old.length _ rfl hown5.out ad5 en.length _ (en.map bv) rfl (by simp) hc5h.out (by intro u hu; obtain ⟨x, _, rfl⟩ := List.mem_map.1 hu; rfl) hpos (by unfold maxLen; omega) (by omega) K5.out.size _ rfl ?_; intro g6 cap6 w6 hown6 hgrow6 hat6 hlt6; have R6 : Hid (w6.ownsRow w.heap.size 5 1 (.slice (some ⟨g6, 0, none⟩) (old.length + en.length) cap6) (encl (l.take (i + 1))).length ((encl (l.take (i + 1))).map bv)) := (by rw [htkh.out, List.length_append, List.map_append]; exact hown6); have R7 : Hid (Kept [] w w6) := K5.out.grown hgrow6 (fun k e => Or.inr (hbk.out k e)); clear hown6 hgrow6 hat6)
        go_roundw
        case rel => exact ⟨i + 1, _, by omega, by go_num, rfl, R6, by rw [htkh.out, List.length_append]; exact hfit, R7⟩
        case measure => simp [intOf]; omega
      · have hfit' : (room : Int) - (old.length : Int) < (en.length : Int) := by omega
        have hout : Hid (PackOut w room l (.returned (.tuple #[.slice ab old.length cb, .int .i64 i])) w5) := by
          refine ⟨i, _, hi, rfl, ?_, ?_, fun s' hs' => ?_, K5⟩
          · rw [← holdh.out]; exact hown5.out
          · rw [← holdh.out]; exact hroom
          · rw [hsh.out] at hs'
            cases hs'
            rw [← holdh.out, ← hszh.out]
            omega
        clear h5 k5 hown5
        go_wp2_with fail
        exact bodyPost_ret (v := .tuple #[.slice ab old.length cb, .int .i64 i]) (by simp [results, Try.f16, go_sem]) rfl hout.out
    · have hin : i = l.length := by omega
      subst hin
      have hlt' : ¬ ((l.length : Int) < (l.length : Int)) := by omega
      have hout : Hid (PackOut w room l (.returned (.tuple #[.slice ab old.length cb, .int .i64 l.length])) wr) := by
        refine ⟨l.length, _, Nat.le_refl _, rfl, by rw [← holdh.out]; exact hown.out, by rw [← holdh.out]; exact hroom, fun s' hs' => ?_, hK⟩
        rw [List.getElem?_eq_none (Nat.le_refl _)] at hs'
        cases hs'
      clear hown hold
      go_wp2_with fail
      exact bodyPost_ret (v := .tuple #[.slice ab old.length cb, .int .i64 l.length]) (by simp [results, Try.f16, go_sem]) rfl hout.out
end Stt
end Go.Proofs.Yteebiemfhicgbaa
