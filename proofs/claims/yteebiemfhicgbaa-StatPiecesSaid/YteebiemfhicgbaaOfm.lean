/- StatOneForm walked: what is read as a record, or as records, is just what is written of them. -/
import Derived.Test.YteebiemfhicgbaaRds
import Derived.Test.YteebiemfhicgbaaAwk
namespace Go.Proofs.Yteebiemfhicgbaa
set_option linter.unusedVariables false
open Go.RowKit

theorem conv_src {w : World} {v : Value} {bs : List UInt8} {T : List Nat} (h : Src w v bs T) : (convert 22 9 v).run Try.prog w = .ok (.string (str bs)) w := by
  obtain ⟨a, c, rfl, h1, h2⟩ := h
  cases a with
  | none =>
    obtain ⟨rfl, rfl⟩ := h1 rfl
    exact Lib.run_convert_nil_bytes w 22 9 5 0 Try.underlying22 Try.underlying5 Try.underlying9
  | some ad => exact run_convert_bytes_back w 22 9 5 ad c bs Try.underlying22 Try.underlying5 Try.underlying9 (fun j hj => (h2 ad rfl).2 j _ (by rw [List.getElem?_map, List.getElem?_eq_getElem hj]; rfl))

/-- The cells of the i-th record in a row. -/
theorem rowOf_at : ∀ (l : List (Nat × Rec)) (i : Nat) (p : Nat × Rec) (k : Nat) (u : Value), l[i]? = some p → p.2.cells.toList[k]? = some u → (rowOf l)[i * 13 + k]? = some u
  | [], i, p, k, u, h, _ => by cases h
  | q :: l, 0, p, k, u, h, hu => by
    cases h
    show (q.2.cells.toList ++ rowOf l)[0 * 13 + k]? = some u
    rw [Nat.zero_mul, Nat.zero_add, List.getElem?_append_left (List.getElem?_eq_some_iff.1 hu).1]
    exact hu
  | q :: l, i + 1, p, k, u, h, hu => by
    show (q.2.cells.toList ++ rowOf l)[(i + 1) * 13 + k]? = some u
    have hl : q.2.cells.toList.length = 13 := rfl
    rw [List.getElem?_append_right (by omega), hl, show (i + 1) * 13 + k - 13 = i * 13 + k by omega]
    exact rowOf_at l i p k u h hu
theorem row_cell {w : World} {base n cap g : Nat} {l : List (Nat × Rec)} (h : w.ownsRow base 30 13 (.slice (some ⟨g, 0, none⟩) n cap) n (rowOf l)) {i k : Nat} {p : Nat × Rec} {u : Value} (hi : l[i]? = some p) (hu : p.2.cells.toList[k]? = some u) :
    w.cell? ⟨g, i * 13 + k, none⟩ = some u := by
  have hr := rowOf_at l i p k u hi hu
  rcases h.2 with ⟨h2, _⟩ | ⟨g', cap', cur, h2, _, hg, _, _, _, ht⟩
  · cases h2
  · cases h2
    rw [cell_of_row w g (i * 13 + k) _ 30 (0, 0) hg]
    rw [← ht, List.getElem?_take] at hr
    split at hr
    · rw [← hr]; simp
    · cases hr

theorem own_slice_r {w : World} {B : Nat} {e : TypeId} {z : Nat} {v : Value} {n : Nat} {xs : List Value} (h : w.ownsRow B e z v n xs) : ∃ a c, v = .slice a n c ∧ (0 < n → ∃ g, a = some ⟨g, 0, none⟩) := by
  rcases h.2 with ⟨rfl, rfl⟩ | ⟨g, cap, cur, rfl, _⟩
  · exact ⟨_, _, rfl, fun h => by omega⟩
  · exact ⟨_, _, rfl, fun _ => ⟨g, rfl⟩⟩

namespace Stt
open Go.Proofs.Yteebiemfhicgbaa.Txt

set_option maxHeartbeats 2000000 in
set_option maxRecDepth 100000 in
theorem form_any (w : World) (v : Value) (bs : List UInt8) (T : List Nat) (hb : Hid (Src w v bs T)) (hT : Hid (∀ k ∈ T, k < w.heap.size)) :
    Calls Try.prog 3 #[v] w fun e w' => e = .returned (.bool true) ∧ Kept [] w w' := by
  obtain ⟨av, cv, rfl, -⟩ := id hb.out
  by_cases hbd : bs.length ≤ 268435456
  · have REC := Lib.hid fun (w1 : World) (hs : Hid (Src w1 (.slice av bs.length cv) bs T)) (h1 : Hid (∀ k ∈ T, k < w1.heap.size)) => records_any w1 _ bs T (by omega) hs h1
    have hle : ¬ (268435456 < (bs.length : Int)) := by omega
    cases hd : dec bs with
    | none =>
      have DEC := Lib.hid fun (w1 : World) (hs : Hid (Src w1 (.slice av bs.length cv) bs T)) => decode_no w1 _ bs T (by omega) hd hs
      rw [show Rec.none.val = .agg #[.int .u16 0, .int .u32 0, .int .u8 0, .int .u32 0, .int .u64 0, .int .u32 0, .int .u32 0, .int .u32 0, .int .u64 0, .string ⟨#[]⟩, .string ⟨#[]⟩, .string ⟨#[]⟩, .string ⟨#[]⟩] from rfl] at DEC
      clear hd
      go_enter Try.func3, Try.ntmps3
      go_wp2_with fail
      refine (awake_any _).mono ?_
      rintro e w1 ⟨rfl, k1⟩
      have S1 : Hid (Src w1 (.slice av bs.length cv) bs T) := hb.out.kept k1 (fun _ _ hm => by simp at hm)
      go_wp2_with fail
      refine (DEC.out _ S1).mono ?_
      rintro e w2 ⟨rfl, k2⟩
      have K3 : Hid (Kept [] w (w2.alloc (.cells #[.int .u16 0, .int .u32 0, .int .u8 0, .int .u32 0, .int .u64 0, .int .u32 0, .int .u32 0, .int .u32 0, .int .u64 0, .string ⟨#[]⟩, .string ⟨#[]⟩, .string ⟨#[]⟩, .string ⟨#[]⟩] 30 (0, 0)))) := (k1.trans k2 (fun i hi => by simp at hi)).alloc _
      clear k1 k2 S1 DEC
      go_wp2_with fail
      generalize (w2.alloc (.cells #[.int .u16 0, .int .u32 0, .int .u8 0, .int .u32 0, .int .u64 0, .int .u32 0, .int .u32 0, .int .u32 0, .int .u64 0, .string ⟨#[]⟩, .string ⟨#[]⟩, .string ⟨#[]⟩, .string ⟨#[]⟩] 30 (0, 0))) = w3 at K3 ⊢
      have S3 : Hid (Src w3 (.slice av bs.length cv) bs T) := hb.out.kept K3.out (fun _ _ hm => by simp at hm)
      have T3 : Hid (∀ k ∈ T, k < w3.heap.size) := fun k hk => by have := hT.out k hk; have := K3.out.size; omega
      refine (REC.out w3 S3 T3).mono ?_
      rintro e w4 (⟨hend, vl, rfl, hr4, k4⟩ | ⟨hend, rfl, k4⟩)
      · have K4 : Hid (Kept [] w w4) := K3.out.trans k4 (fun i hi => by simp at hi)
        have hall := Lib.hid (allRecs_all hend)
        have hok := Lib.hid fun (p : Nat × Rec) (hp : p ∈ allRecs bs) => allRecs_ok hp
        have hll := Lib.hid (allRecs_length bs)
        obtain ⟨l, hl⟩ : ∃ l, l = allRecs bs := ⟨_, rfl⟩
        rw [← hl] at hr4 hall hok hll
        obtain ⟨al, cl, rfl, hal⟩ := own_slice_r hr4.out
        clear hl hend REC S3 T3 k4
        go_wp2_with fail
        obtain ⟨i0, hi0, hz0, hz1, hz2⟩ := info_parts Wrt.info5
        go_loopw [9, 10] (fun b0 kv wr => ∃ (i : Nat) (b : Value), i ≤ l.length ∧ kv = .int .i64 i ∧ b = b0 ∧ Hid (wr.ownsRow w4.heap.size 5 1 b (encs (l.take i)).length ((encs (l.take i)).map bv)) ∧ Hid (Kept [] w4 wr)) (fun _ kv _ => l.length - (intOf kv).toNat)
        case atStart => exact ⟨0, _, by omega, rfl, rfl, World.ownsRow_nil _ _ _ _, Kept.refl _ _⟩
        case round =>
          obtain ⟨i, b, hi, rfl, rfl, hown, hK⟩ := hrel
          by_cases hlt : i < l.length
          · obtain ⟨g, rfl⟩ := hal (by omega)
            obtain ⟨p, hp⟩ : ∃ p, l[i]? = some p := ⟨_, List.getElem?_eq_getElem hlt⟩
            have hr := ownsRow_kept hr4.out hK.out (fun k e hm => by simp at hm)
            obtain ⟨so, se⟩ := hok.out p (List.mem_of_getElem? hp)
            have ENC := encode_any wr p.2 so
            have hbytes : p.2.bytes = p.2.enc := by unfold Rec.bytes; rw [if_pos se]
            have htk : encs (l.take (i + 1)) = encs (l.take i) ++ p.2.enc := by
              rw [List.take_add_one, hp, encs_append]
              show encs (l.take i) ++ (p.2.enc ++ []) = _
              rw [List.append_nil]
            have hle2 : (encs (l.take (i + 1))).length ≤ 268435456 := by
              have h1 := congrArg List.length (hall.out)
              have h2 := encs_append (l.take (i + 1)) (l.drop (i + 1))
              rw [List.take_append_drop] at h2
              rw [h2, List.length_append] at h1
              omega
            rw [hbytes, se] at ENC
            obtain ⟨at', y0, y1, y2, y3, y4, y5, y6, y7, y8, y9, y10, y11, y12⟩ := p
            obtain ⟨en, hen⟩ : ∃ x : List UInt8, x = (⟨y0, y1, y2, y3, y4, y5, y6, y7, y8, y9, y10, y11, y12⟩ : Rec).enc := ⟨_, rfl⟩
            simp only [] at ENC htk
            rw [← hen] at ENC htk
            simp only [Rec.val, Rec.cells] at ENC
            have hpos : 0 < en.length := by rw [hen, Rec.enc_length]; unfold Rec.size; omega
            have c0 : wr.cell? ⟨g, i * 13, none⟩ = some (.int .u16 y0) := row_cell (k := 0) hr hp rfl
            have c1 : wr.cell? ⟨g, i * 13 + 1, none⟩ = some (.int .u32 y1) := row_cell hr hp rfl
            have c2 : wr.cell? ⟨g, i * 13 + 2, none⟩ = some (.int .u8 y2) := row_cell hr hp rfl
            have c3 : wr.cell? ⟨g, i * 13 + 3, none⟩ = some (.int .u32 y3) := row_cell hr hp rfl
            have c4 : wr.cell? ⟨g, i * 13 + 4, none⟩ = some (.int .u64 y4) := row_cell hr hp rfl
            have c5 : wr.cell? ⟨g, i * 13 + 5, none⟩ = some (.int .u32 y5) := row_cell hr hp rfl
            have c6 : wr.cell? ⟨g, i * 13 + 6, none⟩ = some (.int .u32 y6) := row_cell hr hp rfl
            have c7 : wr.cell? ⟨g, i * 13 + 7, none⟩ = some (.int .u32 y7) := row_cell hr hp rfl
            have c8 : wr.cell? ⟨g, i * 13 + 8, none⟩ = some (.int .u64 y8) := row_cell hr hp rfl
            have c9 : wr.cell? ⟨g, i * 13 + 9, none⟩ = some (.string y9) := row_cell hr hp rfl
            have c10 : wr.cell? ⟨g, i * 13 + 10, none⟩ = some (.string y10) := row_cell hr hp rfl
            have c11 : wr.cell? ⟨g, i * 13 + 11, none⟩ = some (.string y11) := row_cell hr hp rfl
            have c12 : wr.cell? ⟨g, i * 13 + 12, none⟩ = some (.string y12) := row_cell hr hp rfl
            have ENCh := Lib.hid ENC
            have htkh := Lib.hid htk
            have hllh := hll.out
            have hi64 : (i : Int) < (l.length : Int) := by omega
            clear ENC htk hp hr hen hbytes so se
            go_wp2_with fail
            refine (ENCh.out).mono ?_
            rintro e w5 ⟨v5, rfl, h5, k5⟩
            obtain ⟨a5, q5, hv5⟩ := own_slice_b h5.out
            subst hv5
            have hown5 := Lib.hid (ownsRow_kept hown.out k5.out (fun k e hm => by simp at hm))
            have K5 : Hid (Kept [] w4 w5) := hK.out.trans k5.out (fun i hi => by simp at hi)
            obtain ⟨ad5, hne5, hc5⟩ : ∃ ad, a5 = some ad ∧ ∀ j u, (en.map bv)[j]? = some u → w5.cell? (ad.add j) = some u := by
              rcases h5.out.2 with ⟨h, h'⟩ | ⟨g', cap', cur, h, _⟩
              · omega
              · cases h
                exact ⟨_, rfl, fun j u hu => h5.out.cells (g := g') rfl j u hu⟩
            subst hne5
            have hc5h := Lib.hid hc5
            have hbk : Hid (∀ k, b.ownBlock = some k → w4.heap.size ≤ k) := fun k hk => (hown.out.lt k hk).1
            have hlen5 : (encs (l.take i)).length + en.length ≤ 268435456 := by
              have := hle2
              rw [htkh.out, List.length_append] at this
              exact this
            clear hown hK k5 h5 c0 c1 c2 c3 c4 c5 c6 c7 c8 c9 c10 c11 c12 ENCh hc5 hle2
            go_wp2_with (at_builtin; refine wpList_append_lies _ rfl (.tmp 70) (.tmp 71) 22 rfl w4.heap.size 5 i0 (.int .u8 0) 1 1 Try.underlying22 hi0 hz0 hz1 hz2 rfl (by decide) b (encs (l.take i)).length _ rfl hown5.out ad5 en.length _ (en.map bv) rfl (by simp) hc5h.out (by intro u hu; obtain ⟨x, _, rfl⟩ := List.mem_map.1 hu; rfl) hpos (by unfold maxLen; omega) (by omega) K5.out.size _ rfl ?_; intro g6 cap6 w6 hown6 hgrow6 hat6 hlt6; have R6 : Hid (w6.ownsRow w4.heap.size 5 1 (.slice (some ⟨g6, 0, none⟩) ((encs (l.take i)).length + en.length) cap6) (encs (l.take (i + 1))).length ((encs (l.take (i + 1))).map bv)) := (by rw [htkh.out, List.length_append, List.map_append]; exact hown6); have R7 : Hid (Kept [] w4 w6) := K5.out.grown hgrow6 (fun k e => Or.inr (hbk.out k e)); clear hown6 hgrow6 hat6)
            go_roundw
            case rel => exact ⟨i + 1, _, by omega, by go_num, rfl, R6, R7⟩
            case measure => simp [intOf]; omega
          · have hin : i = l.length := by omega
            rw [hin, List.take_length] at hown
            have hall' := hall.out
            rw [hall'] at hown
            have KE : Hid (Kept [] w wr) := K4.out.trans hK.out (fun i hi => by simp at hi)
            have CV2 := conv_src (hb.out.kept KE.out (fun _ _ hm => by simp at hm))
            obtain ⟨a9, c9, hv9⟩ := own_slice_b hown.out
            subst hv9
            have CO2 := Rdr.conv_seg (Seg.of_own hown.out)
            have hlt' : ¬ ((i : Int) < (l.length : Int)) := by omega
            clear hown hin hall'
            go_wp2_with fail
            go_ret
            exact ⟨rfl, KE.out⟩
      · have K4 : Hid (Kept [] w w4) := K3.out.trans k4 (fun i hi => by simp at hi)
        clear k4 REC hend S3 T3
        go_wp2_with fail
        go_ret
        exact ⟨rfl, K4.out⟩
    | some s =>
      obtain ⟨so, se, sb⟩ := dec_rev hd
      have DEC := Lib.hid fun (w1 : World) (hs : Hid (Src w1 (.slice av bs.length cv) bs T)) => decode_yes w1 _ bs T s (by omega) hd hs
      have ENC := fun (w1 : World) => encode_any w1 s so
      have hbytes : s.bytes = bs := by unfold Rec.bytes; rw [if_pos se, sb]
      rw [hbytes, se] at ENC
      clear hd so se sb hbytes
      obtain ⟨ty, dev, kind, vers, path, mode, atime, mtime, len, name, uid, gid, muid⟩ := s
      unfold Rec.val Rec.cells at ENC DEC
      simp only [] at ENC DEC
      have ENCh := Lib.hid ENC
      clear ENC
      go_enter Try.func3, Try.ntmps3
      go_wp2_with fail
      refine (awake_any _).mono ?_
      rintro e w1 ⟨rfl, k1⟩
      have S1 : Hid (Src w1 (.slice av bs.length cv) bs T) := hb.out.kept k1 (fun _ _ hm => by simp at hm)
      go_wp2_with fail
      refine (DEC.out _ S1).mono ?_
      rintro e w2 ⟨rfl, k2⟩
      have K2 : Hid (Kept [] w (w2.alloc (.cells #[.int .u16 ty, .int .u32 dev, .int .u8 kind, .int .u32 vers, .int .u64 path, .int .u32 mode, .int .u32 atime, .int .u32 mtime, .int .u64 len, .string name, .string uid, .string gid, .string muid] 30 (0, 0)))) := (k1.trans k2 (fun i hi => by simp at hi)).alloc _
      have M2 : Hid ((w2.alloc (.cells #[.int .u16 ty, .int .u32 dev, .int .u8 kind, .int .u32 vers, .int .u64 path, .int .u32 mode, .int .u32 atime, .int .u32 mtime, .int .u64 len, .string name, .string uid, .string gid, .string muid] 30 (0, 0))).heap[w2.heap.size]? = some (.cells #[.int .u16 ty, .int .u32 dev, .int .u8 kind, .int .u32 vers, .int .u64 path, .int .u32 mode, .int .u32 atime, .int .u32 mtime, .int .u64 len, .string name, .string uid, .string gid, .string muid] 30 (0, 0))) := heap_alloc_new w2 _
      obtain ⟨d0, d1, d2, d3, d4, d5, d6, d7, d8, d9, d10, d11, d12, -⟩ := thirteen M2.out
      clear k1 k2 S1 M2 DEC
      go_wp2_with fail
      refine (ENCh.out _).mono ?_
      rintro e w3 ⟨v3, rfl, h3, k3⟩
      obtain ⟨a3, c3, hv3⟩ := own_slice_b h3.out
      subst hv3
      have K3 : Hid (Kept [] w w3) := K2.out.trans k3.out (fun i hi => by simp at hi)
      have S3 : Hid (Src w3 (.slice av bs.length cv) bs T) := hb.out.kept K3.out (fun _ _ hm => by simp at hm)
      have T3 : Hid (∀ k ∈ T, k < w3.heap.size) := fun k hk => by have := hT.out k hk; have := K3.out.size; omega
      have CV := conv_src S3.out
      have CO := Rdr.conv_seg (Seg.of_own h3.out)
      clear K2 k3 h3 d0 d1 d2 d3 d4 d5 d6 d7 d8 d9 d10 d11 d12 ENCh
      go_wp2_with fail
      refine (REC.out w3 S3 T3).mono ?_
      rintro e w4 (⟨hend, vl, rfl, hr4, k4⟩ | ⟨hend, rfl, k4⟩)
      · have K4 : Hid (Kept [] w w4) := K3.out.trans k4 (fun i hi => by simp at hi)
        have hall := Lib.hid (allRecs_all hend)
        have hok := Lib.hid fun (p : Nat × Rec) (hp : p ∈ allRecs bs) => allRecs_ok hp
        have hll := Lib.hid (allRecs_length bs)
        obtain ⟨l, hl⟩ : ∃ l, l = allRecs bs := ⟨_, rfl⟩
        rw [← hl] at hr4 hall hok hll
        obtain ⟨al, cl, rfl, hal⟩ := own_slice_r hr4.out
        clear hl hend REC S3 T3 k4
        go_wp2_with fail
        obtain ⟨i0, hi0, hz0, hz1, hz2⟩ := info_parts Wrt.info5
        go_loopw [9, 10] (fun b0 kv wr => ∃ (i : Nat) (b : Value), i ≤ l.length ∧ kv = .int .i64 i ∧ b = b0 ∧ Hid (wr.ownsRow w4.heap.size 5 1 b (encs (l.take i)).length ((encs (l.take i)).map bv)) ∧ Hid (Kept [] w4 wr)) (fun _ kv _ => l.length - (intOf kv).toNat)
        case atStart => exact ⟨0, _, by omega, rfl, rfl, World.ownsRow_nil _ _ _ _, Kept.refl _ _⟩
        case round =>
          obtain ⟨i, b, hi, rfl, rfl, hown, hK⟩ := hrel
          by_cases hlt : i < l.length
          · obtain ⟨g, rfl⟩ := hal (by omega)
            obtain ⟨p, hp⟩ : ∃ p, l[i]? = some p := ⟨_, List.getElem?_eq_getElem hlt⟩
            have hr := ownsRow_kept hr4.out hK.out (fun k e hm => by simp at hm)
            obtain ⟨so, se⟩ := hok.out p (List.mem_of_getElem? hp)
            have ENC := encode_any wr p.2 so
            have hbytes : p.2.bytes = p.2.enc := by unfold Rec.bytes; rw [if_pos se]
            have htk : encs (l.take (i + 1)) = encs (l.take i) ++ p.2.enc := by
              rw [List.take_add_one, hp, encs_append]
              show encs (l.take i) ++ (p.2.enc ++ []) = _
              rw [List.append_nil]
            have hle2 : (encs (l.take (i + 1))).length ≤ 268435456 := by
              have h1 := congrArg List.length (hall.out)
              have h2 := encs_append (l.take (i + 1)) (l.drop (i + 1))
              rw [List.take_append_drop] at h2
              rw [h2, List.length_append] at h1
              omega
            rw [hbytes, se] at ENC
            obtain ⟨at', y0, y1, y2, y3, y4, y5, y6, y7, y8, y9, y10, y11, y12⟩ := p
            obtain ⟨en, hen⟩ : ∃ x : List UInt8, x = (⟨y0, y1, y2, y3, y4, y5, y6, y7, y8, y9, y10, y11, y12⟩ : Rec).enc := ⟨_, rfl⟩
            simp only [] at ENC htk
            rw [← hen] at ENC htk
            simp only [Rec.val, Rec.cells] at ENC
            have hpos : 0 < en.length := by rw [hen, Rec.enc_length]; unfold Rec.size; omega
            have c0 : wr.cell? ⟨g, i * 13, none⟩ = some (.int .u16 y0) := row_cell (k := 0) hr hp rfl
            have c1 : wr.cell? ⟨g, i * 13 + 1, none⟩ = some (.int .u32 y1) := row_cell hr hp rfl
            have c2 : wr.cell? ⟨g, i * 13 + 2, none⟩ = some (.int .u8 y2) := row_cell hr hp rfl
            have c3 : wr.cell? ⟨g, i * 13 + 3, none⟩ = some (.int .u32 y3) := row_cell hr hp rfl
            have c4 : wr.cell? ⟨g, i * 13 + 4, none⟩ = some (.int .u64 y4) := row_cell hr hp rfl
            have c5 : wr.cell? ⟨g, i * 13 + 5, none⟩ = some (.int .u32 y5) := row_cell hr hp rfl
            have c6 : wr.cell? ⟨g, i * 13 + 6, none⟩ = some (.int .u32 y6) := row_cell hr hp rfl
            have c7 : wr.cell? ⟨g, i * 13 + 7, none⟩ = some (.int .u32 y7) := row_cell hr hp rfl
            have c8 : wr.cell? ⟨g, i * 13 + 8, none⟩ = some (.int .u64 y8) := row_cell hr hp rfl
            have c9 : wr.cell? ⟨g, i * 13 + 9, none⟩ = some (.string y9) := row_cell hr hp rfl
            have c10 : wr.cell? ⟨g, i * 13 + 10, none⟩ = some (.string y10) := row_cell hr hp rfl
            have c11 : wr.cell? ⟨g, i * 13 + 11, none⟩ = some (.string y11) := row_cell hr hp rfl
            have c12 : wr.cell? ⟨g, i * 13 + 12, none⟩ = some (.string y12) := row_cell hr hp rfl
            have ENCh := Lib.hid ENC
            have htkh := Lib.hid htk
            have hllh := hll.out
            have hi64 : (i : Int) < (l.length : Int) := by omega
            clear ENC htk hp hr hen hbytes so se
            go_wp2_with fail
            refine (ENCh.out).mono ?_
            rintro e w5 ⟨v5, rfl, h5, k5⟩
            obtain ⟨a5, q5, hv5⟩ := own_slice_b h5.out
            subst hv5
            have hown5 := Lib.hid (ownsRow_kept hown.out k5.out (fun k e hm => by simp at hm))
            have K5 : Hid (Kept [] w4 w5) := hK.out.trans k5.out (fun i hi => by simp at hi)
            obtain ⟨ad5, hne5, hc5⟩ : ∃ ad, a5 = some ad ∧ ∀ j u, (en.map bv)[j]? = some u → w5.cell? (ad.add j) = some u := by
              rcases h5.out.2 with ⟨h, h'⟩ | ⟨g', cap', cur, h, _⟩
              · omega
              · cases h
                exact ⟨_, rfl, fun j u hu => h5.out.cells (g := g') rfl j u hu⟩
            subst hne5
            have hc5h := Lib.hid hc5
            have hbk : Hid (∀ k, b.ownBlock = some k → w4.heap.size ≤ k) := fun k hk => (hown.out.lt k hk).1
            have hlen5 : (encs (l.take i)).length + en.length ≤ 268435456 := by
              have := hle2
              rw [htkh.out, List.length_append] at this
              exact this
            clear hown hK k5 h5 c0 c1 c2 c3 c4 c5 c6 c7 c8 c9 c10 c11 c12 ENCh hc5 hle2
            go_wp2_with (at_builtin; refine wpList_append_lies _ rfl (.tmp 70) (.tmp 71) 22 rfl w4.heap.size 5 i0 (.int .u8 0) 1 1 Try.underlying22 hi0 hz0 hz1 hz2 rfl (by decide) b (encs (l.take i)).length _ rfl hown5.out ad5 en.length _ (en.map bv) rfl (by simp) hc5h.out (by intro u hu; obtain ⟨x, _, rfl⟩ := List.mem_map.1 hu; rfl) hpos (by unfold maxLen; omega) (by omega) K5.out.size _ rfl ?_; intro g6 cap6 w6 hown6 hgrow6 hat6 hlt6; have R6 : Hid (w6.ownsRow w4.heap.size 5 1 (.slice (some ⟨g6, 0, none⟩) ((encs (l.take i)).length + en.length) cap6) (encs (l.take (i + 1))).length ((encs (l.take (i + 1))).map bv)) := (by rw [htkh.out, List.length_append, List.map_append]; exact hown6); have R7 : Hid (Kept [] w4 w6) := K5.out.grown hgrow6 (fun k e => Or.inr (hbk.out k e)); clear hown6 hgrow6 hat6)
            go_roundw
            case rel => exact ⟨i + 1, _, by omega, by go_num, rfl, R6, R7⟩
            case measure => simp [intOf]; omega
          · have hin : i = l.length := by omega
            rw [hin, List.take_length] at hown
            have hall' := hall.out
            rw [hall'] at hown
            have KE : Hid (Kept [] w wr) := K4.out.trans hK.out (fun i hi => by simp at hi)
            have CV2 := conv_src (hb.out.kept KE.out (fun _ _ hm => by simp at hm))
            obtain ⟨a9, c9, hv9⟩ := own_slice_b hown.out
            subst hv9
            have CO2 := Rdr.conv_seg (Seg.of_own hown.out)
            have hlt' : ¬ ((i : Int) < (l.length : Int)) := by omega
            clear hown hin hall'
            go_wp2_with fail
            go_ret
            exact ⟨rfl, KE.out⟩
      · have K4 : Hid (Kept [] w w4) := K3.out.trans k4 (fun i hi => by simp at hi)
        clear k4 REC hend S3 T3
        go_wp2_with fail
        go_ret
        exact ⟨rfl, K4.out⟩
  · have hle : 268435456 < (bs.length : Int) := by omega
    go_enter Try.func3, Try.ntmps3
    go_wp2_with fail
    refine (awake_any _).mono ?_
    rintro e w1 ⟨rfl, k1⟩
    go_wp2_with fail
    go_ret
    exact ⟨rfl, k1⟩
end Stt
end Go.Proofs.Yteebiemfhicgbaa
