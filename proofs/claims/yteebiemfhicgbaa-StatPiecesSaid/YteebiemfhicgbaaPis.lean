/- StatPieces walked, for at most a thousand records: packed piece by piece, all come again. -/
import Derived.Test.YteebiemfhicgbaaPid
namespace Go.Proofs.Yteebiemfhicgbaa
set_option linter.unusedVariables false
open Go.RowKit
namespace Stt
open Go.Proofs.Yteebiemfhicgbaa.Txt

set_option maxHeartbeats 12000000 in
set_option maxRecDepth 100000 in
theorem pieces_s (w : World) (v1 v2 : Value) (l : List Rec) (xs : List Int) (T1 T2 : List Nat) (hL : l.length ≤ 1000) (hl : l.length ≤ 140737488355328) (hx : xs.length ≤ 140737488355328) (ho : ∀ s ∈ l, s.Ok) (h1 : Hid (InRow w v1 l T1)) (h2 : Hid (InInts w v2 xs T2)) :
    Calls Try.prog 4 #[v1, v2] w fun e w' => e = .returned (.bool true) ∧ Kept [] w w' := by
  obtain ⟨a1, q1, rfl, hrow1⟩ := id h1.out
  obtain ⟨a2, q2, rfl, hrow2⟩ := id h2.out
  have hr1 := Lib.hid hrow1
  have hr2 := Lib.hid hrow2
  have hoh := Lib.hid ho
  clear hrow1 hrow2
  obtain ⟨j0, hj, jz0, jz1, jz2⟩ := info_parts info30
  have WTS := Lib.hid fun (w1 : World) (h : Hid (InRow w1 (.slice a1 l.length q1) l T1)) => weights_any w1 _ l T1 hl ho h
  clear ho
  go_enter Try.func4, Try.ntmps4
  go_wp2_with fail
  refine (awake_any _).mono ?_
  rintro e w1 ⟨rfl, k1⟩
  have R1 : Hid (InRow w1 (.slice a1 l.length q1) l T1) := h1.out.kept k1 (fun _ _ hm => by simp at hm)
  go_wp2_with fail
  refine (WTS.out _ R1).mono ?_
  rintro e w2 ⟨x, rfl, k2⟩
  have K2 : Hid (Kept [] w w2) := k1.trans k2 (fun i hi => by simp at hi)
  clear k1 k2 R1 WTS
  by_cases hxb : 268435456 < x
  · go_wp2_with fail
    go_ret
    exact ⟨rfl, K2.out⟩
  go_wp2_with fail
  go_loopw [6, 7, 8] (fun fv mv kv wr => ∃ (i M : Nat) (F : List Rec) (f : Value), i ≤ l.length ∧ i ≤ 1000 ∧ kv = .int .i64 i ∧ mv = .int .i64 M ∧ f = fv ∧ M ≤ 65537 ∧ F.length ≤ i ∧ Hid (∀ s ∈ F, s.Ok ∧ s.err = 0 ∧ s.size ≤ M) ∧ Hid (wr.ownsRow w.heap.size 30 13 f F.length (rowl F)) ∧ Hid (Kept [] w wr)) (fun _ _ kv _ => l.length - (intOf kv).toNat)
  case atStart => exact ⟨0, 0, [], _, by omega, by omega, rfl, rfl, rfl, by omega, by simp, (fun s hs => by cases hs), World.ownsRow_nil _ _ _ _, K2⟩
  case round =>
    obtain ⟨i, M, F, f, hi, hi2, rfl, rfl, rfl, hM, hFi, hF, hown, hK⟩ := hrel
    clear K2
    obtain ⟨af, cf, hf, -⟩ := own_slice_r hown.out
    subst hf
    have hb1 : F.length + 1 ≤ maxLen := by
      have hml : maxLen = 9223372036854775807 := rfl
      omega
    have hb2 : (F.length + 1) * 112 ≤ 140737488355328 := by omega
    by_cases hlt : i < l.length ∧ i < 1000
    · obtain ⟨hlt1, hlt2⟩ := hlt
      have hlt1' : (i : Int) < (l.length : Int) := by omega
      have hlt2' : (i : Int) < 1000 := by omega
      obtain ⟨s, hs⟩ : ∃ s, l[i]? = some s := ⟨_, List.getElem?_eq_getElem hlt1⟩
      obtain ⟨g, o, rfl, -, hr⟩ := hr1.out (by omega)
      have hrw := hr.kept hK.out (by simp)
      have hgw : Hid (g < w.heap.size) := World.block_lt_of_cell? w _ (hr i s hs 0 _ rfl)
      obtain ⟨c0, c1, c2, c3, c4, c5, c6, c7, c8, c9, c10, c11, c12⟩ := hrw.cells hs
      have so := hoh.out s (List.mem_of_getElem? hs)
      have WR := writes_any wr s so
      have RS := Lib.hid fun (w1 : World) => rsize_any w1 s so
      have hrh := Lib.hid hrw
      have hsh := Lib.hid hs
      have soh := Lib.hid so
      have hs5 : s.err = 0 → s.size ≤ 65537 := fun h => (Rec.err_zero h).2.2.2.2
      obtain ⟨z, hz⟩ : ∃ z, z = s.size := ⟨_, rfl⟩
      obtain ⟨er, her⟩ : ∃ z, z = s.err := ⟨_, rfl⟩
      rw [← hz] at RS hs5
      rw [← her] at WR hs5
      have hzh := Lib.hid hz
      have herh := Lib.hid her
      obtain ⟨y0, y1, y2, y3, y4, y5, y6, y7, y8, y9, y10, y11, y12⟩ := s
      simp only [Rec.val, Rec.cells] at WR RS c0 c1 c2 c3 c4 c5 c6 c7 c8 c9 c10 c11 c12
      by_cases hw : er = 0
      · have hwb : ((er : Int) == 0) = true := by rw [hw]; rfl
        rw [hwb] at WR
        have hz5 := hs5 hw
        have hwh := Lib.hid hw
        have WRh := Lib.hid WR
        clear hz her hwb hw hs5 WR hs so hr hrw
        go_wp2_with fail
        refine WRh.out.mono ?_
        rintro e w3 ⟨rfl, k3⟩
        have r3 := Lib.hid (hrh.out.kept k3 (by simp))
        have own3 := Lib.hid (ownsRow_kept hown.out k3 (fun k e hm => by simp at hm))
        have K3 : Hid (Kept [] w w3) := hK.out.trans k3 (fun i hi => by simp at hi)
        clear c0 c1 c2 c3 c4 c5 c6 c7 c8 c9 c10 c11 c12
        obtain ⟨c0, c1, c2, c3, c4, c5, c6, c7, c8, c9, c10, c11, c12⟩ := r3.out.cells hsh.out
        simp only [] at c0 c1 c2 c3 c4 c5 c6 c7 c8 c9 c10 c11 c12
        have hbk : Hid (∀ k, (Value.slice af F.length cf).ownBlock = some k → w.heap.size ≤ k) := fun k hk => (own3.out.lt k hk).1
        have hg : Hid (g < w.heap.size) := hgw
        clear k3 WRh hown
        go_wp2_with (at_builtin; refine wpList_append_lies _ rfl (.tmp 40) (.tmp 45) 36 rfl w.heap.size 30 j0 _ 13 112 Try.underlying36 hj jz0 jz1 jz2 rfl (by decide) (.slice af F.length cf) F.length (rowl F) rfl (own3.out.alloc _) ⟨w3.heap.size, 0, none⟩ 1 1 [.int .u16 y0, .int .u32 y1, .int .u8 y2, .int .u32 y3, .int .u64 y4, .int .u32 y5, .int .u32 y6, .int .u32 y7, .int .u64 y8, .string y9, .string y10, .string y11, .string y12] rfl rfl (World.news_of_block (heap_alloc_new w3 (.cells #[.int .u16 y0, .int .u32 y1, .int .u8 y2, .int .u32 y3, .int .u64 y4, .int .u32 y5, .int .u32 y6, .int .u32 y7, .int .u64 y8, .string y9, .string y10, .string y11, .string y12] 30 (0, 0)))) (by simp [Value.oneCell']) (by decide) hb1 hb2 (by have := K3.out.size; simp; omega) _ rfl ?_; intro g4 cap4 w4 hown4 hgrow4 hat4 hlt4; have Q4 : Hid (Kept [] w w4) := (K3.out.alloc _).grown hgrow4 (fun k e => Or.inr (hbk.out k e)); have r4 := Lib.hid (r3.out.kept (((Kept.refl (Value.slice af F.length cf).ownBlock.toList w3).alloc _).grown hgrow4 (fun k e => Or.inl (by rw [e]; simp))) (fun hm => by have := hbk.out _ (by simpa using hm); have := hg.out; omega)); obtain ⟨d0, d1, d2, d3, d4, d5, d6, d7, d8, d9, d10, d11, d12⟩ := r4.out.cells hsh.out; simp only [] at d0 d1 d2 d3 d4 d5 d6 d7 d8 d9 d10 d11 d12; have own4 := Lib.hid hown4; clear c0 c1 c2 c3 c4 c5 c6 c7 c8 c9 c10 c11 c12 hown4 hgrow4 hat4)
        refine (RS.out _).mono ?_
        rintro e w5 ⟨rfl, k5⟩
        have K5 : Hid (Kept [] w w5) := Q4.out.trans k5 (fun i hi => by simp at hi)
        have own5 : Hid (w5.ownsRow w.heap.size 30 13 (.slice (some ⟨g4, 0, none⟩) (F.length + 1) cap4) (F.length + 1) (rowl F ++ [.int .u16 y0, .int .u32 y1, .int .u8 y2, .int .u32 y3, .int .u64 y4, .int .u32 y5, .int .u32 y6, .int .u32 y7, .int .u64 y8, .string y9, .string y10, .string y11, .string y12])) := ownsRow_kept own4.out k5 (fun k e hm => by simp at hm)
        clear d0 d1 d2 d3 d4 d5 d6 d7 d8 d9 d10 d11 d12 k5 own4 Q4
        go_wp2_with fail
        refine ⟨⟨i + 1, if M < z then z else M, F ++ [⟨y0, y1, y2, y3, y4, y5, y6, y7, y8, y9, y10, y11, y12⟩], _, by omega, by omega, by go_num, by split <;> rfl, rfl, by split <;> omega, by simp; omega, ?_, ?_, K5⟩, by simp [intOf]; omega⟩
        · intro s' hs'
          rcases List.mem_append.1 hs' with hs' | hs'
          · obtain ⟨b1, b2, b3⟩ := hF.out s' hs'
            exact ⟨b1, b2, by split <;> omega⟩
          · simp only [List.mem_cons, List.not_mem_nil, or_false] at hs'
            subst hs'
            exact ⟨soh.out, by rw [← herh.out]; exact hwh.out, by rw [← hzh.out]; split <;> omega⟩
        · rw [List.length_append, rowl_append, rowl_one]
          exact own5.out
      · have hwb : ((er : Int) == 0) = false := by rw [beq_eq_false_iff_ne]; omega
        rw [hwb] at WR
        have WRh := Lib.hid WR
        clear hz her hwb hs5 WR hs so hr hrw RS
        go_wp2_with fail
        refine WRh.out.mono ?_
        rintro e w3 ⟨rfl, k3⟩
        have own3 := Lib.hid (ownsRow_kept hown.out k3 (fun k e hm => by simp at hm))
        have K3 : Hid (Kept [] w w3) := hK.out.trans k3 (fun i hi => by simp at hi)
        clear c0 c1 c2 c3 c4 c5 c6 c7 c8 c9 c10 c11 c12 k3 WRh hown
        go_wp2_with fail
        go_roundw
        case rel => exact ⟨i + 1, M, F, _, by omega, by omega, by go_num, rfl, rfl, hM, by omega, hF, own3, K3⟩
        case measure => simp [intOf]; omega
    · have hA' : ¬ ((i : Int) < (l.length : Int)) := by omega
      clear hlt
      obtain ⟨M2, hM2, hMM, hM53⟩ : ∃ M2 : Nat, (if M < 53 then (53 : Int) else (M : Int)) = M2 ∧ M ≤ M2 ∧ 53 ≤ M2 ∧ M2 ≤ 65537 := by
        by_cases h : M < 53
        · exact ⟨53, by rw [if_pos h]; rfl, by omega, by omega, by omega⟩
        · exact ⟨M, by rw [if_neg h], by omega, by omega, by omega⟩
      have hM2' : (if (M : Int) < 53 then (53 : Int) else (M : Int)) = M2 := by
        rw [← hM2]
        by_cases h : M < 53
        · rw [if_pos h, if_pos (by omega)]
        · rw [if_neg h, if_neg (by omega)]
      go_wp2_with fail
      refine (sample_any _).mono ?_
      rintro e w3 ⟨rfl, k3⟩
      have own3 := Lib.hid (ownsRow_kept hown.out k3 (fun k e hm => by simp at hm))
      have K3 : Hid (Kept [] w w3) := hK.out.trans k3 (fun i hi => by simp at hi)
      have hbk : Hid (∀ k, (Value.slice af F.length cf).ownBlock = some k → w.heap.size ≤ k) := fun k hk => (own3.out.lt k hk).1
      clear k3 hown hK
      go_wp2_with (at_builtin; refine wpList_append_lies _ rfl (.tmp 54) (.tmp 56) 36 rfl w.heap.size 30 j0 _ 13 112 Try.underlying36 hj jz0 jz1 jz2 rfl (by decide) (.slice af F.length cf) F.length (rowl F) rfl (own3.out.alloc _) ⟨w3.heap.size, 0, none⟩ 1 1 [.int .u16 1, .int .u32 2, .int .u8 128, .int .u32 3, .int .u64 4, .int .u32 2147484141, .int .u32 5, .int .u32 6, .int .u64 7, .string ⟨#[110]⟩, .string ⟨#[117]⟩, .string ⟨#[103]⟩, .string ⟨#[109]⟩] rfl rfl (World.news_of_block (heap_alloc_new w3 (.cells #[.int .u16 1, .int .u32 2, .int .u8 128, .int .u32 3, .int .u64 4, .int .u32 2147484141, .int .u32 5, .int .u32 6, .int .u64 7, .string ⟨#[110]⟩, .string ⟨#[117]⟩, .string ⟨#[103]⟩, .string ⟨#[109]⟩] 30 (0, 0)))) (by simp [Value.oneCell']) (by decide) hb1 hb2 (by have := K3.out.size; simp; omega) _ rfl ?_; intro g4 cap4 w4 hown4 hgrow4 hat4 hlt4; have Q4 : Hid (Kept [] w w4) := (K3.out.alloc _).grown hgrow4 (fun k e => Or.inr (hbk.out k e)); have own4 := Lib.hid hown4; clear hown4 hgrow4 hat4)
      have own4b : Hid (w4.ownsRow w.heap.size 30 13 (.slice (some ⟨g4, 0, none⟩) (F.length + 1) cap4) (F.length + 1) (rowl (F ++ [smp]))) := by rw [rowl_append, rowl_one]; exact own4.out
      have hF2 : Hid (∀ s ∈ F ++ [smp], (s.Ok ∧ s.err = 0) ∧ s.size ≤ M2) := by
        intro s' hs'
        rcases List.mem_append.1 hs' with hs' | hs'
        · obtain ⟨b1, b2, b3⟩ := hF.out s' hs'
          exact ⟨⟨b1, b2⟩, by omega⟩
        · simp only [List.mem_cons, List.not_mem_nil, or_false] at hs'
          subst hs'
          exact ⟨⟨smp_ok, smp_err⟩, by have : smp.size = 53 := rfl; omega⟩
      have hn2 : (F ++ [smp]).length = F.length + 1 := by simp
      have hnb : F.length + 1 ≤ 1001 := by omega
      have hn0 : 0 < F.length + 1 := by omega
      generalize F.length + 1 = n at own4b hn2 hnb hn0 ⊢
      obtain ⟨F2, hF2e⟩ : ∃ x, x = F ++ [smp] := ⟨_, rfl⟩
      rw [← hF2e] at own4b hF2 hn2
      clear hF own4 own3 hF2e hb1 hb2 hbk K3 hM2 hM2' hA'
      go_loopw [10, 11] (fun av rv wr => ∃ (m r : Nat) (b : Value), m ≤ n ∧ r ≤ m ∧ rv = .int .i64 r ∧ b = av ∧ Hid (wr.ownsRow w4.heap.size 30 13 b m (rowl (F2.take m))) ∧ Hid (Kept [] w4 wr)) (fun av _ _ => n - lenOf av)
      case atStart => exact ⟨0, 0, _, by omega, by omega, rfl, rfl, World.ownsRow_nil _ _ _ _, Kept.refl _ _⟩
      case round =>
        obtain ⟨m, r, b, hm, hrm, rfl, rfl, hownb, hKb⟩ := hrel
        obtain ⟨ab, cb, hb, habs⟩ := own_slice_r hownb.out
        subst hb
        have hFz := Lib.hid (ownsRow_kept own4b.out hKb.out (fun k e hm => by simp at hm))
        have KZ : Hid (Kept [] w wr) := Q4.out.trans hKb.out (fun i hi => by simp at hi)
        by_cases hmn : m < n
        · have hmn' : (m : Int) < (n : Int) := by omega
          have RF0 : Hid (RowAt wr g4 (m * 13) (F2.drop m)) := by
            have h := (RowAt.of hFz.out).drop m
            rwa [Nat.zero_add] at h
          obtain ⟨hcap1, hcap2⟩ : n ≤ cap4 ∧ cap4 ≤ maxLen := by
            rcases own4b.out.2 with ⟨h, _⟩ | ⟨g', cap', cur, h, _, _, hh1, hh2, _⟩
            · cases h
            · cases h; exact ⟨hh1, hh2⟩
          have hcapi : (n : Int) ≤ (cap4 : Int) := by omega
          have hmle : (m : Int) ≤ (n : Int) := by omega
          by_cases hxs : 0 < xs.length
          · have hxs' : 0 < (xs.length : Int) := by omega
            obtain ⟨g2, o2, rfl, -, hcell⟩ := hr2.out hxs
            have hlt2 : r % xs.length < xs.length := Nat.mod_lt _ hxs
            obtain ⟨y, hy⟩ : ∃ y, xs[r % xs.length]? = some y := ⟨_, List.getElem?_eq_getElem hlt2⟩
            have cy := (World.cell?_of_block (KZ.out.block _ (World.block_lt_of_cell? w _ (hcell _ _ hy)) (by simp))).trans (hcell _ _ hy)
            have hmod : Int.tmod (r : Int) (xs.length : Int) = ((r % xs.length : Nat) : Int) := by
              rw [Int.tmod_eq_emod_of_nonneg (by omega)]
              rfl
            generalize r % xs.length = ix at cy hmod hlt2
            have hix : (ix : Int) < (xs.length : Int) := by omega
            clear hcell hy
            go_wp2_with fail
            obtain ⟨room, hX, hM2r, hroomle⟩ := size_of_one M2 y hM53.2
            rw [hX]
            have PACK := pack_any wr g4 (m * 13) (cap4 - m) room room (F2.drop m) rfl (by rw [List.length_drop]; omega) (by omega) (fun s hs => (hF2.out s (List.mem_of_mem_drop hs)).1) RF0
            rw [List.length_drop, hn2] at PACK
            refine PACK.mono ?_
            rintro e w5 ⟨k, pv, hk, rfl, hp5, hroom5, hmore5, k5⟩
            rw [List.length_drop, hn2] at hk
            have hk1 : 0 < k := by
              rcases Nat.eq_zero_or_pos k with h0 | h0
              · exfalso
                subst h0
                obtain ⟨s0, hg0⟩ : ∃ s0, (F2.drop m)[0]? = some s0 := ⟨_, List.getElem?_eq_getElem (by rw [List.length_drop]; omega)⟩
                have h4 : room < 0 + s0.size := hmore5 _ hg0
                have h3 := (hF2.out _ (List.mem_of_mem_drop (List.mem_of_getElem? hg0))).2
                omega
              · exact h0
            have K5 : Hid (Kept [] w4 w5) := hKb.out.trans k5.out (fun i hi => by simp at hi)
            have own5 := Lib.hid (ownsRow_kept hownb.out k5.out (fun k e hm => by simp at hm))
            obtain ⟨L, hL⟩ : ∃ x, x = (F2.drop m).take k := ⟨_, rfl⟩
            rw [← hL] at hp5 hroom5 hmore5
            have hLk : L.length = k := by rw [hL, List.length_take, List.length_drop]; omega
            have hLo : ∀ s ∈ L, s.Ok ∧ s.err = 0 := fun s hs => (hF2.out s (List.mem_of_mem_drop (List.mem_of_mem_take (by rw [hL] at hs; exact hs)))).1
            have hnext : Hid (rowl (F2.take (m + k)) = rowl (F2.take m) ++ rowl L) := by
              show _ = _
              rw [List.take_add, rowl_append, ← hL]
            obtain ⟨en, hen⟩ : ∃ x, x = encl L := ⟨_, rfl⟩
            rw [← hen] at hp5 hroom5 hmore5
            have hall : Hid (endOf (allRecs en) = en.length ∧ (allRecs en).length = k ∧ rowOf (allRecs en) = rowl L) := by
              rw [hen]
              exact ⟨allRecs_whole hLo, by rw [allRecs_encl hLo, posd_length, hLk], by rw [allRecs_encl hLo, posd_row]⟩
            have hcell1 := Lib.hid (cells_one L)
            have hLl := Lib.hid (rowl_length L)
            rw [hLk] at hLl
            obtain ⟨ap, cp, hpv⟩ := own_slice_b hp5.out
            subst hpv
            have hmore := Lib.hid hmore5
            have hLh := Lib.hid hL
            have hk1' : ¬ ((k : Int) < 1) := by omega
            have hk2' : ¬ (((n - m : Nat) : Int) < (k : Int)) := by omega
            have hr5' : ¬ ((room : Int) < (en.length : Int)) := by omega
            clear hmore5 hL hLo hen hownb hKb k5 PACK
            by_cases hkn : k < n - m
            · have hkn' : (k : Int) < ((n - m : Nat) : Int) := by omega
              obtain ⟨s, hs⟩ : ∃ s, (F2.drop m)[k]? = some s := ⟨_, List.getElem?_eq_getElem (by rw [List.length_drop]; omega)⟩
              have hro := hmore.out s hs
              have hRF5 := (RowAt.kept (RowAt0 own4b.out K5.out m) (S := []) (Kept.refl [] _) (by simp)).cells hs
              obtain ⟨c0, c1, c2, c3, c4, c5, c6, c7, c8, c9, c10, c11, c12⟩ := hRF5
              have so := (hF2.out s (List.mem_of_mem_drop (List.mem_of_getElem? hs))).1.1
              have RS := rsize_any w5 s so
              have hszb := (hF2.out s (List.mem_of_mem_drop (List.mem_of_getElem? hs))).2
              obtain ⟨z, hz⟩ : ∃ z, z = s.size := ⟨_, rfl⟩
              rw [← hz] at RS hro hszb
              obtain ⟨VARS⟩ := s
              simp only [Rec.val, Rec.cells] at RS c0 c1 c2 c3 c4 c5 c6 c7 c8 c9 c10 c11 c12
              have hro' : ¬ ((en.length : Int) + (z : Int) ≤ (room : Int)) := by omega
              have RSh := Lib.hid RS
              clear hz hs so RS
              go_wp2_with fail
              refine RSh.out.mono ?_
              rintro e w6 ⟨rfl, k6⟩
              have own6 := Lib.hid (ownsRow_kept own5.out k6 (fun k e hm => by simp at hm))
              have K6 : Hid (Kept [] w4 w6) := K5.out.trans k6 (fun i hi => by simp at hi)
              have hp6 := Lib.hid (ownsRow_kept hp5.out k6 (fun k e hm => by simp at hm))
              clear c0 c1 c2 c3 c4 c5 c6 c7 c8 c9 c10 c11 c12 k6 RSh own5 K5 hp5
              go_wp2_with fail
              have S6 := Lib.hid (Src.of_own hp6.out)
              refine (records_any _ _ en _ (by omega) S6 (fun k hk => (hp6.out.lt k (by simpa using hk)).2)).mono ?_
              rintro e w7 (⟨hend, vl, rfl, hr7, k7⟩ | ⟨hend, rfl, k7⟩)
              · obtain ⟨ha1, ha2, ha3⟩ := hall.out
                rw [ha2, ha3] at hr7
                obtain ⟨a7, c7, rfl, h7⟩ := own_slice_r hr7.out
                obtain ⟨g7, rfl⟩ := h7 hk1
                have own7 := Lib.hid (ownsRow_kept own6.out k7 (fun k e hm => by simp at hm))
                have K7 : Hid (Kept [] w4 w7) := K6.out.trans k7 (fun i hi => by simp at hi)
                have hnews := Lib.hid (hr7.out.cells (g := g7) rfl)
                have hbk7 : Hid (∀ k, (Value.slice ab m cb).ownBlock = some k → w4.heap.size ≤ k) := fun k hk => (own7.out.lt k hk).1
                have hb1 : m + k ≤ maxLen := by
                  have hml : maxLen = 9223372036854775807 := rfl
                  omega
                have hb2 : (m + k) * 112 ≤ 140737488355328 := by omega
                clear hend ha1 ha2 ha3 hr7 k7 own6 K6 hp6 S6
                go_wp2_with (at_builtin; refine wpList_append_lies _ rfl (.tmp 136) (.tmp 137) 36 rfl w4.heap.size 30 j0 _ 13 112 Try.underlying36 hj jz0 jz1 jz2 rfl (by decide) (.slice ab m cb) m _ rfl own7.out ⟨g7, 0, none⟩ k c7 (rowl L) rfl hLl.out hnews.out hcell1.out hk1 hb1 hb2 K7.out.size _ rfl ?_; intro g8 cap8 w8 hown8 hgrow8 hat8 hlt8; have K8 : Hid (Kept [] w4 w8) := K7.out.grown hgrow8 (fun k e => Or.inr (hbk7.out k e)); have own8 : Hid (w8.ownsRow w4.heap.size 30 13 (.slice (some ⟨g8, 0, none⟩) (m + k) cap8) (m + k) (rowl (F2.take (m + k)))) := (by show World.ownsRow _ _ _ _ _ _ _; rw [hnext.out]; exact hown8); clear hown8 hgrow8 hat8)
                go_roundw
                case rel => exact ⟨m + k, r + 1, _, by omega, by omega, by go_num, rfl, own8, K8⟩
                case measure => simp [lenOf]; omega
              · exact absurd hall.out.1 hend
            · have hkn' : ¬ ((k : Int) < ((n - m : Nat) : Int)) := by omega
              have own6 := own5
              have K6 := K5
              have hp6 := hp5
              clear own5 K5 hp5
              go_wp2_with fail
              have S6 := Lib.hid (Src.of_own hp6.out)
              refine (records_any _ _ en _ (by omega) S6 (fun k hk => (hp6.out.lt k (by simpa using hk)).2)).mono ?_
              rintro e w7 (⟨hend, vl, rfl, hr7, k7⟩ | ⟨hend, rfl, k7⟩)
              · obtain ⟨ha1, ha2, ha3⟩ := hall.out
                rw [ha2, ha3] at hr7
                obtain ⟨a7, c7, rfl, h7⟩ := own_slice_r hr7.out
                obtain ⟨g7, rfl⟩ := h7 hk1
                have own7 := Lib.hid (ownsRow_kept own6.out k7 (fun k e hm => by simp at hm))
                have K7 : Hid (Kept [] w4 w7) := K6.out.trans k7 (fun i hi => by simp at hi)
                have hnews := Lib.hid (hr7.out.cells (g := g7) rfl)
                have hbk7 : Hid (∀ k, (Value.slice ab m cb).ownBlock = some k → w4.heap.size ≤ k) := fun k hk => (own7.out.lt k hk).1
                have hb1 : m + k ≤ maxLen := by
                  have hml : maxLen = 9223372036854775807 := rfl
                  omega
                have hb2 : (m + k) * 112 ≤ 140737488355328 := by omega
                clear hend ha1 ha2 ha3 hr7 k7 own6 K6 hp6 S6
                go_wp2_with (at_builtin; refine wpList_append_lies _ rfl (.tmp 136) (.tmp 137) 36 rfl w4.heap.size 30 j0 _ 13 112 Try.underlying36 hj jz0 jz1 jz2 rfl (by decide) (.slice ab m cb) m _ rfl own7.out ⟨g7, 0, none⟩ k c7 (rowl L) rfl hLl.out hnews.out hcell1.out hk1 hb1 hb2 K7.out.size _ rfl ?_; intro g8 cap8 w8 hown8 hgrow8 hat8 hlt8; have K8 : Hid (Kept [] w4 w8) := K7.out.grown hgrow8 (fun k e => Or.inr (hbk7.out k e)); have own8 : Hid (w8.ownsRow w4.heap.size 30 13 (.slice (some ⟨g8, 0, none⟩) (m + k) cap8) (m + k) (rowl (F2.take (m + k)))) := (by show World.ownsRow _ _ _ _ _ _ _; rw [hnext.out]; exact hown8); clear hown8 hgrow8 hat8)
                go_roundw
                case rel => exact ⟨m + k, r + 1, _, by omega, by omega, by go_num, rfl, own8, K8⟩
                case measure => simp [lenOf]; omega
              · exact absurd hall.out.1 hend
          · have hxs' : ¬ 0 < (xs.length : Int) := by omega
            go_wp2_with fail
            have hM2r : M2 ≤ M2 := Nat.le_refl _
            have hroomle : M2 ≤ 70000 := by omega
            have PACK := pack_any wr g4 (m * 13) (cap4 - m) M2 M2 (F2.drop m) rfl (by rw [List.length_drop]; omega) (by omega) (fun s hs => (hF2.out s (List.mem_of_mem_drop hs)).1) RF0
            rw [List.length_drop, hn2] at PACK
            refine PACK.mono ?_
            rintro e w5 ⟨k, pv, hk, rfl, hp5, hroom5, hmore5, k5⟩
            rw [List.length_drop, hn2] at hk
            have hk1 : 0 < k := by
              rcases Nat.eq_zero_or_pos k with h0 | h0
              · exfalso
                subst h0
                obtain ⟨s0, hg0⟩ : ∃ s0, (F2.drop m)[0]? = some s0 := ⟨_, List.getElem?_eq_getElem (by rw [List.length_drop]; omega)⟩
                have h4 : M2 < 0 + s0.size := hmore5 _ hg0
                have h3 := (hF2.out _ (List.mem_of_mem_drop (List.mem_of_getElem? hg0))).2
                omega
              · exact h0
            have K5 : Hid (Kept [] w4 w5) := hKb.out.trans k5.out (fun i hi => by simp at hi)
            have own5 := Lib.hid (ownsRow_kept hownb.out k5.out (fun k e hm => by simp at hm))
            obtain ⟨L, hL⟩ : ∃ x, x = (F2.drop m).take k := ⟨_, rfl⟩
            rw [← hL] at hp5 hroom5 hmore5
            have hLk : L.length = k := by rw [hL, List.length_take, List.length_drop]; omega
            have hLo : ∀ s ∈ L, s.Ok ∧ s.err = 0 := fun s hs => (hF2.out s (List.mem_of_mem_drop (List.mem_of_mem_take (by rw [hL] at hs; exact hs)))).1
            have hnext : Hid (rowl (F2.take (m + k)) = rowl (F2.take m) ++ rowl L) := by
              show _ = _
              rw [List.take_add, rowl_append, ← hL]
            obtain ⟨en, hen⟩ : ∃ x, x = encl L := ⟨_, rfl⟩
            rw [← hen] at hp5 hroom5 hmore5
            have hall : Hid (endOf (allRecs en) = en.length ∧ (allRecs en).length = k ∧ rowOf (allRecs en) = rowl L) := by
              rw [hen]
              exact ⟨allRecs_whole hLo, by rw [allRecs_encl hLo, posd_length, hLk], by rw [allRecs_encl hLo, posd_row]⟩
            have hcell1 := Lib.hid (cells_one L)
            have hLl := Lib.hid (rowl_length L)
            rw [hLk] at hLl
            obtain ⟨ap, cp, hpv⟩ := own_slice_b hp5.out
            subst hpv
            have hmore := Lib.hid hmore5
            have hLh := Lib.hid hL
            have hk1' : ¬ ((k : Int) < 1) := by omega
            have hk2' : ¬ (((n - m : Nat) : Int) < (k : Int)) := by omega
            have hr5' : ¬ ((M2 : Int) < (en.length : Int)) := by omega
            clear hmore5 hL hLo hen hownb hKb k5 PACK
            by_cases hkn : k < n - m
            · have hkn' : (k : Int) < ((n - m : Nat) : Int) := by omega
              obtain ⟨s, hs⟩ : ∃ s, (F2.drop m)[k]? = some s := ⟨_, List.getElem?_eq_getElem (by rw [List.length_drop]; omega)⟩
              have hro := hmore.out s hs
              have hRF5 := (RowAt.kept (RowAt0 own4b.out K5.out m) (S := []) (Kept.refl [] _) (by simp)).cells hs
              obtain ⟨c0, c1, c2, c3, c4, c5, c6, c7, c8, c9, c10, c11, c12⟩ := hRF5
              have so := (hF2.out s (List.mem_of_mem_drop (List.mem_of_getElem? hs))).1.1
              have RS := rsize_any w5 s so
              have hszb := (hF2.out s (List.mem_of_mem_drop (List.mem_of_getElem? hs))).2
              obtain ⟨z, hz⟩ : ∃ z, z = s.size := ⟨_, rfl⟩
              rw [← hz] at RS hro hszb
              obtain ⟨VARS⟩ := s
              simp only [Rec.val, Rec.cells] at RS c0 c1 c2 c3 c4 c5 c6 c7 c8 c9 c10 c11 c12
              have hro' : ¬ ((en.length : Int) + (z : Int) ≤ (M2 : Int)) := by omega
              have RSh := Lib.hid RS
              clear hz hs so RS
              go_wp2_with fail
              refine RSh.out.mono ?_
              rintro e w6 ⟨rfl, k6⟩
              have own6 := Lib.hid (ownsRow_kept own5.out k6 (fun k e hm => by simp at hm))
              have K6 : Hid (Kept [] w4 w6) := K5.out.trans k6 (fun i hi => by simp at hi)
              have hp6 := Lib.hid (ownsRow_kept hp5.out k6 (fun k e hm => by simp at hm))
              clear c0 c1 c2 c3 c4 c5 c6 c7 c8 c9 c10 c11 c12 k6 RSh own5 K5 hp5
              go_wp2_with fail
              have S6 := Lib.hid (Src.of_own hp6.out)
              refine (records_any _ _ en _ (by omega) S6 (fun k hk => (hp6.out.lt k (by simpa using hk)).2)).mono ?_
              rintro e w7 (⟨hend, vl, rfl, hr7, k7⟩ | ⟨hend, rfl, k7⟩)
              · obtain ⟨ha1, ha2, ha3⟩ := hall.out
                rw [ha2, ha3] at hr7
                obtain ⟨a7, c7, rfl, h7⟩ := own_slice_r hr7.out
                obtain ⟨g7, rfl⟩ := h7 hk1
                have own7 := Lib.hid (ownsRow_kept own6.out k7 (fun k e hm => by simp at hm))
                have K7 : Hid (Kept [] w4 w7) := K6.out.trans k7 (fun i hi => by simp at hi)
                have hnews := Lib.hid (hr7.out.cells (g := g7) rfl)
                have hbk7 : Hid (∀ k, (Value.slice ab m cb).ownBlock = some k → w4.heap.size ≤ k) := fun k hk => (own7.out.lt k hk).1
                have hb1 : m + k ≤ maxLen := by
                  have hml : maxLen = 9223372036854775807 := rfl
                  omega
                have hb2 : (m + k) * 112 ≤ 140737488355328 := by omega
                clear hend ha1 ha2 ha3 hr7 k7 own6 K6 hp6 S6
                go_wp2_with (at_builtin; refine wpList_append_lies _ rfl (.tmp 136) (.tmp 137) 36 rfl w4.heap.size 30 j0 _ 13 112 Try.underlying36 hj jz0 jz1 jz2 rfl (by decide) (.slice ab m cb) m _ rfl own7.out ⟨g7, 0, none⟩ k c7 (rowl L) rfl hLl.out hnews.out hcell1.out hk1 hb1 hb2 K7.out.size _ rfl ?_; intro g8 cap8 w8 hown8 hgrow8 hat8 hlt8; have K8 : Hid (Kept [] w4 w8) := K7.out.grown hgrow8 (fun k e => Or.inr (hbk7.out k e)); have own8 : Hid (w8.ownsRow w4.heap.size 30 13 (.slice (some ⟨g8, 0, none⟩) (m + k) cap8) (m + k) (rowl (F2.take (m + k)))) := (by show World.ownsRow _ _ _ _ _ _ _; rw [hnext.out]; exact hown8); clear hown8 hgrow8 hat8)
                go_roundw
                case rel => exact ⟨m + k, r + 1, _, by omega, by omega, by go_num, rfl, own8, K8⟩
                case measure => simp [lenOf]; omega
              · exact absurd hall.out.1 hend
            · have hkn' : ¬ ((k : Int) < ((n - m : Nat) : Int)) := by omega
              have own6 := own5
              have K6 := K5
              have hp6 := hp5
              clear own5 K5 hp5
              go_wp2_with fail
              have S6 := Lib.hid (Src.of_own hp6.out)
              refine (records_any _ _ en _ (by omega) S6 (fun k hk => (hp6.out.lt k (by simpa using hk)).2)).mono ?_
              rintro e w7 (⟨hend, vl, rfl, hr7, k7⟩ | ⟨hend, rfl, k7⟩)
              · obtain ⟨ha1, ha2, ha3⟩ := hall.out
                rw [ha2, ha3] at hr7
                obtain ⟨a7, c7, rfl, h7⟩ := own_slice_r hr7.out
                obtain ⟨g7, rfl⟩ := h7 hk1
                have own7 := Lib.hid (ownsRow_kept own6.out k7 (fun k e hm => by simp at hm))
                have K7 : Hid (Kept [] w4 w7) := K6.out.trans k7 (fun i hi => by simp at hi)
                have hnews := Lib.hid (hr7.out.cells (g := g7) rfl)
                have hbk7 : Hid (∀ k, (Value.slice ab m cb).ownBlock = some k → w4.heap.size ≤ k) := fun k hk => (own7.out.lt k hk).1
                have hb1 : m + k ≤ maxLen := by
                  have hml : maxLen = 9223372036854775807 := rfl
                  omega
                have hb2 : (m + k) * 112 ≤ 140737488355328 := by omega
                clear hend ha1 ha2 ha3 hr7 k7 own6 K6 hp6 S6
                go_wp2_with (at_builtin; refine wpList_append_lies _ rfl (.tmp 136) (.tmp 137) 36 rfl w4.heap.size 30 j0 _ 13 112 Try.underlying36 hj jz0 jz1 jz2 rfl (by decide) (.slice ab m cb) m _ rfl own7.out ⟨g7, 0, none⟩ k c7 (rowl L) rfl hLl.out hnews.out hcell1.out hk1 hb1 hb2 K7.out.size _ rfl ?_; intro g8 cap8 w8 hown8 hgrow8 hat8 hlt8; have K8 : Hid (Kept [] w4 w8) := K7.out.grown hgrow8 (fun k e => Or.inr (hbk7.out k e)); have own8 : Hid (w8.ownsRow w4.heap.size 30 13 (.slice (some ⟨g8, 0, none⟩) (m + k) cap8) (m + k) (rowl (F2.take (m + k)))) := (by show World.ownsRow _ _ _ _ _ _ _; rw [hnext.out]; exact hown8); clear hown8 hgrow8 hat8)
                go_roundw
                case rel => exact ⟨m + k, r + 1, _, by omega, by omega, by go_num, rfl, own8, K8⟩
                case measure => simp [lenOf]; omega
              · exact absurd hall.out.1 hend
        · have hmn2 : m = n := by omega
          subst hmn2
          rw [← hn2, List.take_length, hn2] at hownb
          obtain ⟨gb, rfl⟩ := habs (by omega)
          have hAL := alike_any wr gb g4 cb cap4 F2 (by omega) (RowAt.of hownb.out) (RowAt.of hFz.out)
          rw [hn2] at hAL
          clear hownb hFz
          go_wp2_with fail
          refine hAL.mono ?_
          rintro e w9 ⟨rfl, k9⟩
          go_wp2_with fail
          go_ret
          exact ⟨rfl, KZ.out.trans k9 (fun i hi => by simp at hi)⟩
end Stt
end Go.Proofs.Yteebiemfhicgbaa
