/- A book's turn: stage 2, walked. -/
import Derived.Test.YtgdaiajjnfnomaaBo0
namespace Go.Proofs.Ytgdaiajjnfnomaa
set_option linter.unusedVariables false
open Go.RowKit
namespace Law
open Cut
set_option maxHeartbeats 64000000 in
set_option maxRecDepth 100000 in
theorem turn2 (w wc : World) (k : Nat) (lv mv fv wv : Value) (vs : List Value) (fs : List (List UInt8)) (ms : List UInt8) (hs : List Value) (hb : List (List UInt8)) (xs ys : List Value) (xb : List (List UInt8)) (col : Nat → Nat) (ha ta : Option Addr) (hc tc : Nat)
    (hl : fs.length + 5 * hb.length ≤ 1000000000) (hfb : Hid (∀ x ∈ fs, x.length ≤ 1200000000)) (hbb : Hid (∀ x ∈ hb, x.length ≤ 1100000000)) (hlm0 : Hid (ms.length = fs.length)) (huni : Uni fs ms) (hhl : Hid (hs.length = hb.length)) (X0 : Hid (BX wc k lv mv (.slice ha hb.length hc) (.slice ta hb.length tc) fv wv vs fs ms hs hb xs ys xb col 0 0)) (FAR0 : Hid (Far w col wc col))
    {u5 u6 u16 u17 u18 u19 u20 u21 u22 u23 u24 u25 u26 u27 u28 u29 u30 u31 u32 u33 u34 u35 u36 u37 u38 u39 u40 u41 u42 u43 u44 u45 u46 u47 u48 u49 u50 u51 u52 u53 u54 u55 u56 u57 u58 u59 u60 u61 u62 u63 u64 u65 u66 u67 u68 u69 u70 u71 u72 u73 u74 u75 u76 u77 u78 u79 u80 u81 u82 u83 u84 u85 u86 u87 u88 u89 u90 u91 u92 u93 u94 u95 u96 u97 u98 u99 u100 u101 u102 u103 u104 u105 u106 u107 u108 u109 u110 u111 u112 u113 u114 u115 u116 u117 u118 u119 u120 u121 u122 u123 u124 u125 u126 u127 u128 u129 u130 u131 u132 u133 u134 u135 u136 u137 u138 u139 u140 u141 u142 u143 u144 u145 u146 u147 u148 u149 u150 u151 u152 u153 u154 u155 u156 u157 u158 u159 u160 u161 u162 u163 u164 u165 u166 u167 u168 u169 u170 u171 u172 u173 u174 u175 u176 u177 u178 u179 u180 u181 u182 u183 u184 u185 u186 u187 u188 u189 u190 u191 u192 u193 u194 u195 u196 u197 u198 u199 u200 u201 u202 u203 u204 u205 u206 u207 u208 u209 u210 u211 u212 u213 u214 u215 u216 u217 u218 u219 u220 u221 u222 u223 u224 u225 u226 u227 u228 u229 u230 u231 u232 u233 u234 u235 u236 u237 u238 u239 u240 u241 u242 u243 u244 u245 : Value} {J K' : Act → World → Prop} {X' : World → Prop}
    (hJ : ∀ (a' : Act) (w' : World), (∃ u3 u7 u8 u9 u16 u17 u18 u19 u20 u21 u22 u23 u24 u25 u26 u27 u28 u29 u30 u31 u32 u33 u34 u35 u36 u37 u38 u39 u40 u41 u42 u43 u44 u45 u46 u47 u48 u49 u50 u51 u52 u53 u54 u55 u56 u57 u58 u59 u60 u61 u62 u63 u64 u65 u66 u67 u68 u69 u70 u71 u72 u73 u74 u75 u76 u77 u78 u79 u80 u81 u82 u83 u84 u85 u86 u87 u88 u89 u90 u91 u92 u93 u94 u95 u96 u97 u98 u99 u100 u101 u102 u103 u104 u105 u106 u107 u108 u109 u110 u111 u112 u113 u114 u115 u116 u117 u118 u119 u120 u121 u122 u123 u124 u125 u126 u127 u128 u129 u130 u131 u132 u133 u134 u135 u136 u137 u138 u139 u140 u141 u142 u143 u144 u145 u146 u147 u148 u149 u150 u151 u152 u153 u154 u155 u156 u157 u158 u159 u160 u161 u162 u163 u164 u165 u166 u167 u168 u169 u170 u171 u172 u173 u174 u175 u176 u177 u178 u179 u180 u181 u182 u183 u184 u185 u186 u187 u188 u189 u190 u191 u192 u193 u194 u195 u196 u197 u198 u199 u200 u201 u202 u203 u204 u205 u206 u207 u208 u209 u210 u211 u212 u213 u214 u215 u216 u217 u218 u219 u220 u221 u222 u223 u224 u225 u226 u227 u228 u229 u230 u231 u232 u233 u234 u235 u236 u237 u238 u239 u240 u241 u242 u243 u244 u245 : Value, (u3 = .bool true ∧ ∃ (lv mv : Value) (F : List (List UInt8)) (M : List UInt8) (col' : Nat → Nat), Hid (BX w' k lv mv (.slice ha hb.length hc) (.slice ta hb.length tc) fv wv (vs ++ hs) F M hs hb xs ys xb col' hs.length hs.length) ∧ Hid (Uni F M) ∧ Hid (M.length = F.length) ∧ Hid (F.length = fs.length + hb.length) ∧ Hid (Bnd F fs.length) ∧ Hid (Far w col w' col')) ∧ a' = ⟨List.toArray ((.pointer (some ⟨k, 0, none⟩) : Value) :: undef :: (.bool false : Value) :: u3 :: (.int .i64 fs.length : Value) :: u5 :: u6 :: u7 :: u8 :: u9 :: undef :: undef :: undef :: undef :: undef :: undef :: u16 :: u17 :: u18 :: u19 :: u20 :: u21 :: u22 :: u23 :: u24 :: u25 :: u26 :: u27 :: u28 :: u29 :: u30 :: u31 :: u32 :: u33 :: u34 :: u35 :: u36 :: u37 :: u38 :: u39 :: u40 :: u41 :: u42 :: u43 :: u44 :: u45 :: u46 :: u47 :: u48 :: u49 :: u50 :: u51 :: u52 :: u53 :: u54 :: u55 :: u56 :: u57 :: u58 :: u59 :: u60 :: u61 :: u62 :: u63 :: u64 :: u65 :: u66 :: u67 :: u68 :: u69 :: u70 :: u71 :: u72 :: u73 :: u74 :: u75 :: u76 :: u77 :: u78 :: u79 :: u80 :: u81 :: u82 :: u83 :: u84 :: u85 :: u86 :: u87 :: u88 :: u89 :: u90 :: u91 :: u92 :: u93 :: u94 :: u95 :: u96 :: u97 :: u98 :: u99 :: u100 :: u101 :: u102 :: u103 :: u104 :: u105 :: u106 :: u107 :: u108 :: u109 :: u110 :: u111 :: u112 :: u113 :: u114 :: u115 :: u116 :: u117 :: u118 :: u119 :: u120 :: u121 :: u122 :: u123 :: u124 :: u125 :: u126 :: u127 :: u128 :: u129 :: u130 :: u131 :: u132 :: u133 :: u134 :: u135 :: u136 :: u137 :: u138 :: u139 :: u140 :: u141 :: u142 :: u143 :: u144 :: u145 :: u146 :: u147 :: u148 :: u149 :: u150 :: u151 :: u152 :: u153 :: u154 :: u155 :: u156 :: u157 :: u158 :: u159 :: u160 :: u161 :: u162 :: u163 :: u164 :: u165 :: u166 :: u167 :: u168 :: u169 :: u170 :: u171 :: u172 :: u173 :: u174 :: u175 :: u176 :: u177 :: u178 :: u179 :: u180 :: u181 :: u182 :: u183 :: u184 :: u185 :: u186 :: u187 :: u188 :: u189 :: u190 :: u191 :: u192 :: u193 :: u194 :: u195 :: u196 :: u197 :: u198 :: u199 :: u200 :: u201 :: u202 :: u203 :: u204 :: u205 :: u206 :: u207 :: u208 :: u209 :: u210 :: u211 :: u212 :: u213 :: u214 :: u215 :: u216 :: u217 :: u218 :: u219 :: u220 :: u221 :: u222 :: u223 :: u224 :: u225 :: u226 :: u227 :: u228 :: u229 :: u230 :: u231 :: u232 :: u233 :: u234 :: u235 :: u236 :: u237 :: u238 :: u239 :: u240 :: u241 :: u242 :: u243 :: u244 :: u245 :: []), []⟩) → J a' w') (hK : ∀ (a' : Act) (w' : World), Met J a' w' → K' a' w') :
    Code.wp Try.prog (turnBlk 2) (Exit.then K' (bodyPost Try.prog Try.f7 (fun e w' => e = .returned (.bool true) ∧ X' w'))) ⟨List.toArray ((.pointer (some ⟨k, 0, none⟩) : Value) :: undef :: (.bool false : Value) :: (.bool true : Value) :: (.int .i64 fs.length : Value) :: u5 :: u6 :: (.int .i64 0 : Value) :: undef :: undef :: undef :: undef :: undef :: undef :: undef :: undef :: u16 :: u17 :: u18 :: u19 :: u20 :: u21 :: u22 :: u23 :: u24 :: u25 :: u26 :: u27 :: u28 :: u29 :: u30 :: u31 :: u32 :: u33 :: u34 :: u35 :: u36 :: u37 :: u38 :: u39 :: u40 :: u41 :: u42 :: u43 :: u44 :: u45 :: u46 :: u47 :: u48 :: u49 :: u50 :: u51 :: u52 :: u53 :: u54 :: u55 :: u56 :: u57 :: u58 :: u59 :: u60 :: u61 :: u62 :: u63 :: u64 :: u65 :: u66 :: u67 :: u68 :: u69 :: u70 :: u71 :: u72 :: u73 :: u74 :: u75 :: u76 :: u77 :: u78 :: u79 :: u80 :: u81 :: u82 :: u83 :: u84 :: u85 :: u86 :: u87 :: u88 :: u89 :: u90 :: u91 :: u92 :: u93 :: u94 :: u95 :: u96 :: u97 :: u98 :: u99 :: u100 :: u101 :: u102 :: u103 :: u104 :: u105 :: u106 :: u107 :: u108 :: u109 :: u110 :: u111 :: u112 :: u113 :: u114 :: u115 :: u116 :: u117 :: u118 :: u119 :: u120 :: u121 :: u122 :: u123 :: u124 :: u125 :: u126 :: u127 :: u128 :: u129 :: u130 :: u131 :: u132 :: u133 :: u134 :: u135 :: u136 :: u137 :: u138 :: u139 :: u140 :: u141 :: u142 :: u143 :: u144 :: u145 :: u146 :: u147 :: u148 :: u149 :: u150 :: u151 :: u152 :: u153 :: u154 :: u155 :: u156 :: u157 :: u158 :: u159 :: u160 :: u161 :: u162 :: u163 :: u164 :: u165 :: u166 :: u167 :: u168 :: u169 :: u170 :: u171 :: u172 :: u173 :: u174 :: u175 :: u176 :: u177 :: u178 :: u179 :: u180 :: u181 :: u182 :: u183 :: u184 :: u185 :: u186 :: u187 :: u188 :: u189 :: u190 :: u191 :: u192 :: u193 :: u194 :: u195 :: u196 :: u197 :: u198 :: u199 :: u200 :: u201 :: u202 :: u203 :: u204 :: u205 :: u206 :: u207 :: u208 :: u209 :: u210 :: u211 :: u212 :: u213 :: u214 :: u215 :: u216 :: u217 :: u218 :: u219 :: u220 :: u221 :: u222 :: u223 :: u224 :: u225 :: u226 :: u227 :: u228 :: u229 :: u230 :: u231 :: u232 :: u233 :: u234 :: u235 :: u236 :: u237 :: u238 :: u239 :: u240 :: u241 :: u242 :: u243 :: u244 :: u245 :: []), []⟩ wc := by
  obtain ⟨i0, hi0, hz00, hz01, hz02⟩ := info_parts info_u8
  obtain ⟨i1, hi1, hz10, hz11, hz12⟩ := info_parts info_sl
  have hlm := hlm0.out
  conv => arg 2; whnf
  go_wp2_with fail
  go_loopw [7] (fun s7 wr => ∃ (i : Nat) (lv mv : Value) (F : List (List UInt8)) (M : List UInt8) (col' : Nat → Nat), s7 = .int .i64 i ∧ i ≤ hb.length ∧ Hid (BX wr k lv mv (.slice ha hb.length hc) (.slice ta hb.length tc) fv wv (vs ++ hs.take i) F M hs hb xs ys xb col' i i) ∧ Hid (Uni F M) ∧ Hid (M.length = F.length) ∧ Hid (F.length = fs.length + i) ∧ Hid (Bnd F fs.length) ∧ Hid (Far w col wr col')) (fun s7 _ => hb.length - (intOf s7).toNat)
  case atStart => exact ⟨0, _, _, fs, ms, col, rfl, Nat.zero_le _, by rw [List.take_zero, List.append_nil]; exact X0, huni, hlm, rfl, Bnd.start hfb.out, FAR0⟩
  case round =>
    clear X0 FAR0
    obtain ⟨i, lv, mv, F, M, col', rfl, hi, I, U, LM, LF, FB, FAR⟩ := hrel
    obtain ⟨la', lc', rfl⟩ := I.out.l.val
    obtain ⟨ma', mc', rfl⟩ := own_slice I.out.m
    obtain ⟨c0, c1, c2, c3, c4, c5, fz⟩ := sixB I.out.box
    by_cases hlt : i < hb.length
    · have j1 : (i : Int) < (hb.length : Int) := by omega
      have hih : i < hs.length := by have := hhl.out; omega
      obtain ⟨b1, d1, y1, e1, g1, f1, gy, o1, -⟩ := I.out.h.at rfl i hlt (Nat.le_refl _)
      obtain rfl : y1 = hs[i] := by rw [List.getElem?_eq_getElem hih] at gy; exact (Option.some.inj gy).symm
      obtain ⟨hxa, -, hxc⟩ : ha = some ⟨b1, 0, none⟩ ∧ hb.length = hb.length ∧ hc = d1 := by simpa using e1
      obtain ⟨bs, hbs⟩ : ∃ bs, bs = hb[i] := ⟨_, rfl⟩
      have hbl : bs.length ≤ 1100000000 := by rw [hbs]; exact hbb.out _ (List.getElem_mem hlt)
      rw [← hbs] at o1
      obtain ⟨x1, z1, hy⟩ := own_slice o1
      obtain ⟨mm, hmm⟩ : ∃ mm, mm = F.length % 251 + 1 := ⟨_, rfl⟩
      have hM : (F.length : Int) % 251 + 1 = (mm : Int) := by omega
      have hm1 : mm ≤ 251 := by omega
      have O1 : Hid (Own wr 0 hs[i] bs) := o1
      have HY := Lib.hid hy
      have hfl9 : F.length ≤ 1000000000 := by have := LF.out; omega
      rw [hy] at f1
      have hxb : bv (UInt8.ofNat mm) = .int .u8 mm := by unfold bv; rw [u8_natB]; congr 1; omega
      have HXB := Lib.hid hxb
      rw [hxa] at c2
      clear hmm gy e1 o1 hy hxb hbs c3 c4 c5
      obtain ⟨wo, hwo⟩ : ∃ wo : World, wo = wr := ⟨_, rfl⟩
      subst hwo
      go_wp2_with fail
      go_loopw [9] (fun s9 wx => ∃ q : Nat, s9 = .int .i64 q ∧ q ≤ bs.length ∧ Hid (Own wx 0 hs[i] (List.replicate q (UInt8.ofNat mm) ++ bs.drop q)) ∧ Hid (Kept hs[i].ownBlock.toList wo wx)) (fun s9 _ => bs.length - (intOf s9).toNat)
      case atStart => exact ⟨0, rfl, Nat.zero_le _, by simpa using O1, Kept.refl _ _⟩
      case round =>
        obtain ⟨q, rfl, hq, OQ, KQ⟩ := hrel
        have I2 := I.out.mark hih (Nat.le_refl _) (Nat.le_succ _) KQ.out O1.out
        obtain ⟨c0, c1, c2, c3, c4, c5, fz⟩ := sixB I2.box
        obtain ⟨b2, d2, e2, g2, f2⟩ := I2.h.cellAt rfl i hih
        have hx2 : b2 = b1 := by
          have e3 : ha = some ⟨b2, 0, none⟩ := by simpa using (Value.slice.inj e2).1
          rw [hxa] at e3
          simpa using e3.symm
        rw [hx2, HY.out] at f2
        rw [hxa] at c2
        have OQ2 := OQ.out
        rw [HY.out] at OQ2
        have hml := mark_len (x := UInt8.ofNat mm) hq
        by_cases hlq : q < bs.length
        · have j2 : (q : Int) < (bs.length : Int) := by omega
          have OQ3 := OQ2
          unfold Own at OQ3
          rw [hml] at OQ3
          obtain ⟨gx, rfl⟩ : ∃ gx, x1 = some ⟨gx, 0, none⟩ := by
            rcases OQ3.2 with ⟨e, _⟩ | ⟨g', cap, cur, e, _⟩
            · have := (Value.slice.inj e).2.1; omega
            · exact ⟨g', (Value.slice.inj e).1⟩
          have fq := OQ3.frozenAt q
          obtain ⟨v0, hv0⟩ : ∃ v0, wr.cell? ⟨gx, q, none⟩ = some v0 := by
            have hlt2 : q < ((List.replicate q (UInt8.ofNat mm) ++ bs.drop q).map bv).length := by rw [List.length_map, hml]; exact hlq
            have := OQ3.cells (g := gx) rfl q _ (List.getElem?_eq_getElem hlt2)
            rw [Addr.add_lit, Nat.zero_add] at this
            exact ⟨_, this⟩
          obtain ⟨ST, SG⟩ := OQ3.stored q (bv (UInt8.ofNat mm))
          rw [mark_step hlq, HXB.out] at ST
          rw [HXB.out] at SG
          have NEW : Hid (Own (wr.setCell ⟨gx, q, none⟩ (.int .u8 mm)) 0 hs[i] (List.replicate (q + 1) (UInt8.ofNat mm) ++ bs.drop (q + 1))) := by
            show Own _ 0 _ _
            unfold Own
            rw [mark_len (by omega), HY.out]
            exact ST
          have KN : Hid (Kept hs[i].ownBlock.toList wo (wr.setCell ⟨gx, q, none⟩ (.int .u8 mm))) := by
            refine KQ.out.trans ((Kept.refl [gx] wr).grown SG (fun k e => Or.inl (by cases e; simp))) (fun b hb => Or.inl ?_)
            simp at hb
            subst hb
            rw [HY.out]
            simp [Value.ownBlock]
          clear I2 OQ OQ2 OQ3 ST SG KQ hml c0 c1 c3 c4 c5 e2
          go_wp2_with fail
          go_roundw
          case rel => exact ⟨q + 1, by go_num, by omega, NEW, KN⟩
          case measure => simp [intOf]; omega
        · have j2 : ¬ (q : Int) < (bs.length : Int) := by omega
          have hqe : q = bs.length := by omega
          have OE : Hid (Own wr 0 hs[i] (List.replicate bs.length (UInt8.ofNat mm))) := by
            have h := OQ.out
            rw [hqe, List.drop_length, List.append_nil] at h
            exact h
          have I2h := Lib.hid I2
          clear I2 OQ OQ2 hml hqe c1 c3 c4 c5 e2
          go_wp2_with fail
          have hll : (vs ++ hs.take i).length = F.length := I2h.out.l.len
          have LO : Hid ((wr.alloc (.cells #[.slice x1 bs.length z1] 22)).drew.ownsRow 0 22 1 (.slice la' F.length lc') F.length (vs ++ hs.take i)) := by
            have h := I2h.out.l.own
            rw [hll] at h
            exact (h.alloc _).drew
          have YO : Hid (Own (wr.alloc (.cells #[.slice x1 bs.length z1] 22)).drew 0 (.slice x1 bs.length z1) (List.replicate bs.length (UInt8.ofNat mm))) := by
            have h := OE.out
            rw [HY.out] at h
            exact (World.ownsRow.alloc h _).drew
          have YP : Hid (∀ b, (Value.slice x1 bs.length z1).ownBlock = some b → col' b = 0 ∨ InH hs (i + 1) b) := fun b hb => Or.inr ⟨i, hih, Nat.lt_succ_self _, by rw [HY.out]; exact hb⟩
          have KA : Hid (Kept [] wr (wr.alloc (.cells #[.slice x1 bs.length z1] 22)).drew) := ((Kept.refl [] wr).alloc _).drew
          have HLL := Lib.hid hll
          have FAR1 : Hid (Far w col wr col') := FAR.out.step KQ.out (fun b hb hlt => by
            have e : col' b = 2 := (I.out.hc b ⟨i, hih, hih, by simpa using hb⟩).1
            omega) (fun _ _ => rfl)
          have hml2 : M.length ≤ 1000000000 := by have := LM.out; omega
          have c0a : (wr.alloc (.cells #[.slice x1 bs.length z1] 22)).cell? ⟨k, 0, none⟩ = some (.slice la' F.length lc') := by
            rw [← c0]
            exact World.cell?_of_block ((Kept.refl [] wr).alloc _ |>.block k (block_lt I2h.out.box) (by simp))
          clear hll OE
          go_region_law (refine step_append_src (wr.alloc (.cells #[.slice x1 bs.length z1] 22)).drew rfl (.tmp 92) (.tmp 100) 26 rfl 0 22 i1 (.slice none 0 0) 1 24 Try.underlying26 hi1 hz10 hz11 hz12 rfl (by decide) (.slice la' F.length lc') F.length (vs ++ hs.take i) (by simp [Act.eval]) LO.out (.slice (some ⟨wr.heap.size, 0, none⟩) 1 1) 1 [.slice x1 bs.length z1] (by simp [Act.eval]) (Or.inr ⟨_, _, rfl, World.news_of_block (cs := #[.slice x1 bs.length z1]) (by exact heap_alloc_new wr _)⟩) rfl (by intro u hu; simp at hu; subst hu; rfl) (by unfold maxLen; omega) (by omega) (Nat.zero_le _) ?_; intro v4 w4 hown4 hgrow4 hat4; obtain ⟨X4, B4, K4, U4⟩ := I2h.out.pushl KA.out YO.out YP.out (Nat.le_succ i) HLL.out.symm hown4 hgrow4 hat4; obtain ⟨n0, n1, n2, n3, n4, n5, nz⟩ := sixB B4; obtain ⟨ya, yc, rfl⟩ := own_slice hown4; have X4h := Lib.hid X4; have K4h := Lib.hid K4; have U4h := Lib.hid U4; clear hown4 hgrow4 hat4 X4 B4 K4 U4)
          all_goals
            clear n0 n1 n2 n3 n4 n5 nz
            obtain ⟨w5, hw5⟩ : ∃ w5, w5 = w4.setCell ⟨k, 0, none⟩ (.slice ya (F.length + 1) yc) := ⟨_, rfl⟩
            rw [← hw5] at X4h K4h ⊢
            clear hw5
            obtain ⟨n0, n1, n2, n3, n4, n5, nz⟩ := sixB X4h.out.box
            have FAR2 := Lib.hid (FAR1.out.step K4h.out (fun b hb hlt => by
              rcases List.mem_cons.1 hb with rfl | hb
              · have := I2h.out.ck; omega
              · have := I2h.out.lc b (by simpa using hb); omega) U4h.out)
            have hs5 := K4h.out.size
            go_wp2_with (at_builtin; refine wpList_append_src (w5.alloc (.cells #[.int .u8 mm] 5)) rfl (.tmp 108) (.tmp 110) 22 rfl 0 5 i0 (.int .u8 0) 1 1 Try.underlying22 hi0 hz00 hz01 hz02 rfl (by decide) (.slice ma' M.length mc') M.length (M.map bv) rfl (X4h.out.m.alloc _) (.slice (some ⟨w5.heap.size, 0, none⟩) 1 1) 1 [.int .u8 mm] rfl (Or.inr ⟨_, _, rfl, World.news_of_block (cs := #[.int .u8 mm]) (by exact heap_alloc_new w5 _)⟩) rfl (by intro u hu; simp at hu; subst hu; rfl) (by unfold maxLen; omega) (by omega) (Nat.zero_le _) ?_; intro v6 w6 hown6 hgrow6 hat6; obtain ⟨X6, B6, K6, U6⟩ := X4h.out.pushm (x := UInt8.ofNat mm) ((Kept.refl [] w5).alloc _) rfl (by rw [HXB.out]; exact hown6) hgrow6 hat6; obtain ⟨p0, p1, p2, p3, p4, p5, pz⟩ := sixB B6; obtain ⟨qa, qc, rfl⟩ := own_slice hown6; have X6h := Lib.hid X6; have K6h := Lib.hid K6; have U6h := Lib.hid U6; clear hown6 hgrow6 hat6 X6 B6 K6 U6)
            have FAR3 := Lib.hid (FAR2.out.step K6h.out (fun b hb hlt => by
              rcases List.mem_cons.1 hb with rfl | hb
              · have := X4h.out.ck; omega
              · have := X4h.out.mc b (by simpa using hb); omega) U6h.out)
            have eL : vs ++ hs.take (i + 1) = (vs ++ hs.take i) ++ [.slice x1 bs.length z1] := by rw [List.take_succ_eq_append_getElem hih, HY.out, List.append_assoc]
            refine ⟨⟨i + 1, _, _, F ++ [List.replicate bs.length (UInt8.ofNat mm)], M ++ [UInt8.ofNat mm], _, by go_num, by omega, by rw [eL]; exact X6h, U.out.push LM.out _ _, by show _ = _; have := LM.out; simp; omega, by show _ = _; have := LF.out; simp; omega, FB.out.push (by have := LF.out; omega) (by rw [List.length_replicate]; exact hbl), FAR3⟩, by simp [intOf]; omega⟩
    · have hie : i = hs.length := by have := hhl.out; omega
      have j1 : ¬ (i : Int) < (hb.length : Int) := by omega
      have e2 : vs ++ hs.take i = vs ++ hs := by rw [List.take_of_length_le (by omega)]
      have e3 : i = hb.length := by omega
      rw [e2, hie] at I
      have LF2 : Hid (F.length = fs.length + hb.length) := by show _ = _; rw [LF.out, e3]
      clear e2 hie e3 LF
      go_wp2_with fail
      go_meet
      case rel => exact ⟨rfl, _, _, F, M, col', I, U, LM, LF2, FB, FAR⟩
end Law
end Go.Proofs.Ytgdaiajjnfnomaa
