/- A book's turn: stage 3, walked. -/
import Derived.Test.YtgdaiajjnfnomaaBo0
namespace Go.Proofs.Ytgdaiajjnfnomaa
set_option linter.unusedVariables false
open Go.RowKit
namespace Law
open Cut
set_option maxHeartbeats 64000000 in
set_option maxRecDepth 100000 in
theorem turn3 (w wc : World) (k : Nat) (fv wv : Value) (vs : List Value) (fs : List (List UInt8)) (hs : List Value) (hb : List (List UInt8)) (xs ys : List Value) (xb : List (List UInt8)) (col col2 : Nat → Nat) (la' ma' ha ta : Option Addr) (lc' mc' hc tc N0 : Nat) (F : List (List UInt8)) (M : List UInt8)
    (hl : fs.length + 5 * hb.length ≤ 1000000000) (hhl : Hid (hs.length = hb.length)) (X : Hid (BX wc k (.slice la' F.length lc') (.slice ma' M.length mc') (.slice ha hb.length hc) (.slice ta hb.length tc) fv wv (vs ++ hs) F M hs hb xs ys xb col2 hs.length hs.length)) (U : Hid (Uni F M)) (LM : Hid (M.length = F.length)) (FB : Hid (Bnd F fs.length)) (FAR : Hid (Far w col wc col2))
    (hvs : Hid (∀ e ∈ vs, ∀ b, e.ownBlock = some b → col b = 0 ∧ b < w.heap.size)) (hvl : Hid (vs.length = fs.length)) (HN0 : Hid (N0 = F.length)) (hF1 : fs.length ≤ F.length) (hF2 : F.length ≤ fs.length + hb.length) (hF3 : fs.length + hb.length ≤ F.length)
    {u5 u6 u7 u8 u9 u16 u17 u18 u19 u20 u21 u22 u23 u24 u25 u26 u27 u28 u29 u30 u31 u32 u33 u34 u35 u36 u37 u38 u39 u40 u41 u42 u43 u44 u45 u46 u47 u48 u49 u50 u51 u52 u53 u54 u55 u56 u57 u58 u59 u60 u61 u62 u63 u64 u65 u66 u67 u68 u69 u70 u71 u72 u73 u74 u75 u76 u77 u78 u79 u80 u81 u82 u83 u84 u85 u86 u87 u88 u89 u90 u91 u92 u93 u94 u95 u96 u97 u98 u99 u100 u101 u102 u103 u104 u105 u106 u107 u108 u109 u110 u111 u112 u113 u114 u115 u116 u117 u118 u119 u120 u121 u122 u123 u124 u125 u126 u127 u128 u129 u130 u131 u132 u133 u134 u135 u136 u137 u138 u139 u140 u141 u142 u143 u144 u145 u146 u147 u148 u149 u150 u151 u152 u153 u154 u155 u156 u157 u158 u159 u160 u161 u162 u163 u164 u165 u166 u167 u168 u169 u170 u171 u172 u173 u174 u175 u176 u177 u178 u179 u180 u181 u182 u183 u184 u185 u186 u187 u188 u189 u190 u191 u192 u193 u194 u195 u196 u197 u198 u199 u200 u201 u202 u203 u204 u205 u206 u207 u208 u209 u210 u211 u212 u213 u214 u215 u216 u217 u218 u219 u220 u221 u222 u223 u224 u225 u226 u227 u228 u229 u230 u231 u232 u233 u234 u235 u236 u237 u238 u239 u240 u241 u242 u243 u244 u245 : Value} {J K' : Act → World → Prop} {X' : World → Prop}
    (hJ : ∀ (a' : Act) (w' : World), (∃ u3 u11 u12 u13 u16 u17 u18 u19 u20 u21 u22 u23 u24 u25 u26 u27 u28 u29 u30 u31 u32 u33 u34 u35 u36 u37 u38 u39 u40 u41 u42 u43 u44 u45 u46 u47 u48 u49 u50 u51 u52 u53 u54 u55 u56 u57 u58 u59 u60 u61 u62 u63 u64 u65 u66 u67 u68 u69 u70 u71 u72 u73 u74 u75 u76 u77 u78 u79 u80 u81 u82 u83 u84 u85 u86 u87 u88 u89 u90 u91 u92 u93 u94 u95 u96 u97 u98 u99 u100 u101 u102 u103 u104 u105 u106 u107 u108 u109 u110 u111 u112 u113 u114 u115 u116 u117 u118 u119 u120 u121 u122 u123 u124 u125 u126 u127 u128 u129 u130 u131 u132 u133 u134 u135 u136 u137 u138 u139 u140 u141 u142 u143 u144 u145 u146 u147 u148 u149 u150 u151 u152 u153 u154 u155 u156 u157 u158 u159 u160 u161 u162 u163 u164 u165 u166 u167 u168 u169 u170 u171 u172 u173 u174 u175 u176 u177 u178 u179 u180 u181 u182 u183 u184 u185 u186 u187 u188 u189 u190 u191 u192 u193 u194 u195 u196 u197 u198 u199 u200 u201 u202 u203 u204 u205 u206 u207 u208 u209 u210 u211 u212 u213 u214 u215 u216 u217 u218 u219 u220 u221 u222 u223 u224 u225 u226 u227 u228 u229 u230 u231 u232 u233 u234 u235 u236 u237 u238 u239 u240 u241 u242 u243 u244 u245 : Value, (u3 = .bool true ∧ ∃ (lv mv : Value) (ex : List Value) (F : List (List UInt8)) (M : List UInt8) (col' : Nat → Nat), Hid (BX w' k lv mv (.slice ha hb.length hc) (.slice ta hb.length tc) fv wv (vs ++ hs ++ ex) F M hs hb xs ys xb col' hs.length hs.length) ∧ Hid (Uni F M) ∧ Hid (M.length = F.length) ∧ Hid (F.length ≤ fs.length + 5 * hb.length) ∧ Hid (∀ x ∈ F, x.length ≤ 1200000000) ∧ Hid (Far w col w' col')) ∧ a' = ⟨List.toArray ((.pointer (some ⟨k, 0, none⟩) : Value) :: undef :: (.bool false : Value) :: u3 :: (.int .i64 fs.length : Value) :: u5 :: u6 :: u7 :: u8 :: u9 :: (.int .i64 N0 : Value) :: u11 :: u12 :: u13 :: undef :: undef :: u16 :: u17 :: u18 :: u19 :: u20 :: u21 :: u22 :: u23 :: u24 :: u25 :: u26 :: u27 :: u28 :: u29 :: u30 :: u31 :: u32 :: u33 :: u34 :: u35 :: u36 :: u37 :: u38 :: u39 :: u40 :: u41 :: u42 :: u43 :: u44 :: u45 :: u46 :: u47 :: u48 :: u49 :: u50 :: u51 :: u52 :: u53 :: u54 :: u55 :: u56 :: u57 :: u58 :: u59 :: u60 :: u61 :: u62 :: u63 :: u64 :: u65 :: u66 :: u67 :: u68 :: u69 :: u70 :: u71 :: u72 :: u73 :: u74 :: u75 :: u76 :: u77 :: u78 :: u79 :: u80 :: u81 :: u82 :: u83 :: u84 :: u85 :: u86 :: u87 :: u88 :: u89 :: u90 :: u91 :: u92 :: u93 :: u94 :: u95 :: u96 :: u97 :: u98 :: u99 :: u100 :: u101 :: u102 :: u103 :: u104 :: u105 :: u106 :: u107 :: u108 :: u109 :: u110 :: u111 :: u112 :: u113 :: u114 :: u115 :: u116 :: u117 :: u118 :: u119 :: u120 :: u121 :: u122 :: u123 :: u124 :: u125 :: u126 :: u127 :: u128 :: u129 :: u130 :: u131 :: u132 :: u133 :: u134 :: u135 :: u136 :: u137 :: u138 :: u139 :: u140 :: u141 :: u142 :: u143 :: u144 :: u145 :: u146 :: u147 :: u148 :: u149 :: u150 :: u151 :: u152 :: u153 :: u154 :: u155 :: u156 :: u157 :: u158 :: u159 :: u160 :: u161 :: u162 :: u163 :: u164 :: u165 :: u166 :: u167 :: u168 :: u169 :: u170 :: u171 :: u172 :: u173 :: u174 :: u175 :: u176 :: u177 :: u178 :: u179 :: u180 :: u181 :: u182 :: u183 :: u184 :: u185 :: u186 :: u187 :: u188 :: u189 :: u190 :: u191 :: u192 :: u193 :: u194 :: u195 :: u196 :: u197 :: u198 :: u199 :: u200 :: u201 :: u202 :: u203 :: u204 :: u205 :: u206 :: u207 :: u208 :: u209 :: u210 :: u211 :: u212 :: u213 :: u214 :: u215 :: u216 :: u217 :: u218 :: u219 :: u220 :: u221 :: u222 :: u223 :: u224 :: u225 :: u226 :: u227 :: u228 :: u229 :: u230 :: u231 :: u232 :: u233 :: u234 :: u235 :: u236 :: u237 :: u238 :: u239 :: u240 :: u241 :: u242 :: u243 :: u244 :: u245 :: []), []⟩) → J a' w') (hK : ∀ (a' : Act) (w' : World), Met J a' w' → K' a' w') :
    Code.wp Try.prog (turnBlk 6) (Exit.then K' (bodyPost Try.prog Try.f7 (fun e w' => e = .returned (.bool true) ∧ X' w'))) ⟨List.toArray ((.pointer (some ⟨k, 0, none⟩) : Value) :: undef :: (.bool false : Value) :: (.bool true : Value) :: (.int .i64 fs.length : Value) :: u5 :: u6 :: u7 :: u8 :: u9 :: (.int .i64 N0 : Value) :: (.int .i64 fs.length : Value) :: undef :: undef :: undef :: undef :: u16 :: u17 :: u18 :: u19 :: u20 :: u21 :: u22 :: u23 :: u24 :: u25 :: u26 :: u27 :: u28 :: u29 :: u30 :: u31 :: u32 :: u33 :: u34 :: u35 :: u36 :: u37 :: u38 :: u39 :: u40 :: u41 :: u42 :: u43 :: u44 :: u45 :: u46 :: u47 :: u48 :: u49 :: u50 :: u51 :: u52 :: u53 :: u54 :: u55 :: u56 :: u57 :: u58 :: u59 :: u60 :: u61 :: u62 :: u63 :: u64 :: u65 :: u66 :: u67 :: u68 :: u69 :: u70 :: u71 :: u72 :: u73 :: u74 :: u75 :: u76 :: u77 :: u78 :: u79 :: u80 :: u81 :: u82 :: u83 :: u84 :: u85 :: u86 :: u87 :: u88 :: u89 :: u90 :: u91 :: u92 :: u93 :: u94 :: u95 :: u96 :: u97 :: u98 :: u99 :: u100 :: u101 :: u102 :: u103 :: u104 :: u105 :: u106 :: u107 :: u108 :: u109 :: u110 :: u111 :: u112 :: u113 :: u114 :: u115 :: u116 :: u117 :: u118 :: u119 :: u120 :: u121 :: u122 :: u123 :: u124 :: u125 :: u126 :: u127 :: u128 :: u129 :: u130 :: u131 :: u132 :: u133 :: u134 :: u135 :: u136 :: u137 :: u138 :: u139 :: u140 :: u141 :: u142 :: u143 :: u144 :: u145 :: u146 :: u147 :: u148 :: u149 :: u150 :: u151 :: u152 :: u153 :: u154 :: u155 :: u156 :: u157 :: u158 :: u159 :: u160 :: u161 :: u162 :: u163 :: u164 :: u165 :: u166 :: u167 :: u168 :: u169 :: u170 :: u171 :: u172 :: u173 :: u174 :: u175 :: u176 :: u177 :: u178 :: u179 :: u180 :: u181 :: u182 :: u183 :: u184 :: u185 :: u186 :: u187 :: u188 :: u189 :: u190 :: u191 :: u192 :: u193 :: u194 :: u195 :: u196 :: u197 :: u198 :: u199 :: u200 :: u201 :: u202 :: u203 :: u204 :: u205 :: u206 :: u207 :: u208 :: u209 :: u210 :: u211 :: u212 :: u213 :: u214 :: u215 :: u216 :: u217 :: u218 :: u219 :: u220 :: u221 :: u222 :: u223 :: u224 :: u225 :: u226 :: u227 :: u228 :: u229 :: u230 :: u231 :: u232 :: u233 :: u234 :: u235 :: u236 :: u237 :: u238 :: u239 :: u240 :: u241 :: u242 :: u243 :: u244 :: u245 :: []), []⟩ wc := by
  obtain ⟨i0, hi0, hz00, hz01, hz02⟩ := info_parts info_u8
  obtain ⟨i1, hi1, hz10, hz11, hz12⟩ := info_parts info_sl
  obtain ⟨c0, c1, c2, c3, c4, c5, fz⟩ := sixB X.out.box
  have hc0 : wc.cell? ⟨k, 0, none⟩ = some (.slice la' N0 lc') := by rw [HN0.out]; exact c0
  clear c0
  have c0 := hc0
  clear hc0
  conv => arg 2; whnf
  go_wp2_with fail
  go_loopw [11] (fun s11 wr => ∃ (i : Nat) (lv mv : Value) (ex : List Value) (FX : List (List UInt8)) (MX : List UInt8) (col' : Nat → Nat), s11 = .int .i64 (fs.length + i : Nat) ∧ i ≤ hb.length ∧ Hid (BX wr k lv mv (.slice ha hb.length hc) (.slice ta hb.length tc) fv wv (vs ++ hs ++ ex) (F ++ FX) (M ++ MX) hs hb xs ys xb col' hs.length hs.length) ∧ Hid (Uni (F ++ FX) (M ++ MX)) ∧ Hid (MX.length = FX.length) ∧ Hid (FX.length = 4 * i) ∧ Hid (∀ x ∈ FX, x.length ≤ 1200000000) ∧ Hid (Far w col wr col') ∧ Hid (∀ e ∈ ex, ∀ b, e.ownBlock = some b → col' b = 0 ∨ InH hs i b)) (fun s11 _ => N0 - (intOf s11).toNat)
  case atStart => exact ⟨0, _, _, [], [], [], col2, rfl, Nat.zero_le _, by simpa using X, by simpa using U, rfl, rfl, fun x hx => by simp at hx, FAR, fun e he => by simp at he⟩
  case round =>
    clear X U FAR c0 c1 c2 c3 c4 c5 fz
    obtain ⟨i, lv, mv, ex, FX, MX, col', rfl, hi, I, U, LX, LE, XB, FAR, EX⟩ := hrel
    obtain ⟨la', lc', rfl⟩ := I.out.l.val
    obtain ⟨c0, c1, c2, c3, c4, c5, fz⟩ := sixB I.out.box
    by_cases hlt : i < hb.length
    · have hih : i < hs.length := by have := hhl.out; omega
      have j1 : ((fs.length + i : Nat) : Int) < (N0 : Int) := by have := HN0.out; omega
      obtain ⟨ix, hix⟩ : ∃ ix, ix = fs.length + i := ⟨_, rfl⟩
      rw [← hix] at j1 ⊢
      have HIX := Lib.hid hix
      have hxF : ix < F.length := by have := HN0.out; omega
      have hxF2 : ix < (F ++ FX).length := by rw [List.length_append]; omega
      obtain ⟨b1, d1, y1, e1, g1, f1, gy, o1, op1⟩ := I.out.l.at rfl ix hxF2 (Nat.zero_le _)
      have hyi : y1 = hs[i] := by
        rw [List.append_assoc, List.getElem?_append_right (by rw [hvl.out]; omega), hvl.out, hix, Nat.add_sub_cancel_left, List.getElem?_append_left hih, List.getElem?_eq_getElem hih] at gy
        exact (Option.some.inj gy).symm
      have hxM : ix < (M ++ MX).length := by rw [List.length_append]; have := LM.out; omega
      obtain ⟨μ, hμ⟩ : ∃ μ, μ = (M ++ MX)[ix] := ⟨_, rfl⟩
      have hrep : (F ++ FX)[ix] = List.replicate ((F ++ FX)[ix]).length μ := by rw [hμ]; exact U.out ix hxF2 hxM
      obtain ⟨n0, hn0⟩ : ∃ n, n = ((F ++ FX)[ix]).length := ⟨_, rfl⟩
      have hnb : n0 ≤ 1100000000 := by rw [hn0, List.getElem_append_left hxF]; exact FB.out.at (by omega) hxF
      rw [← hn0] at hrep
      rw [hrep] at o1
      obtain ⟨x1, z1, hy⟩ := own_slice o1
      rw [List.length_replicate] at hy
      have O1 : Hid (Own wr 0 hs[i] (List.replicate n0 μ)) := by rw [← hyi]; exact o1
      have HY : Hid (hs[i] = .slice x1 n0 z1) := by rw [← hyi]; exact hy
      have UND : Hid (∀ e ∈ vs ++ hs ++ ex, ∀ g, e.ownBlock = some g → hs[i].ownBlock = some g → lenV e ≤ n0) := by
        intro e he g h1 h2
        have c2g := (I.out.hc g ⟨i, hih, hih, h2⟩).1
        rcases List.mem_append.1 he with q | q
        · rcases List.mem_append.1 q with q | q
          · exfalso
            have a := hvs.out e q g h1
            have := FAR.out.same g a.2
            omega
          · obtain ⟨m, hm, rfl⟩ := List.mem_iff_getElem.1 q
            by_cases hmi : m = i
            · subst hmi
              rw [HY.out]
              exact Nat.le_refl _
            · exact absurd h2 (I.out.hd m i hm hih hmi g h1)
        · rcases EX.out e q g h1 with a | ⟨m, hm, hmi, h3⟩
          · omega
          · exact absurd h2 (I.out.hd m i hm hih (by omega) g h3)
      have HMU := Lib.hid hμ
      obtain ⟨hla, -, hlc⟩ : la' = some ⟨b1, 0, none⟩ ∧ (F ++ FX).length = (F ++ FX).length ∧ lc' = d1 := by simpa using e1
      have j2 : (ix : Int) < ((F ++ FX).length : Int) := by omega
      rw [hy] at f1
      rw [hla] at c0
      clear hix gy hyi hμ hrep hn0 o1 op1 hy e1 c2 c3 c4 c5
      go_wp2_with fail
      go_loopw [12, 13] (fun s12 s13 wx => ∃ (q : Nat) (v lv mv : Value) (ex : List Value) (FX : List (List UInt8)) (MX : List UInt8) (col' : Nat → Nat), v = s12 ∧ s13 = .int .i64 q ∧ q ≤ 70 ∧ Hid (CJ wx k lv mv (.slice ha hb.length hc) (.slice ta hb.length tc) fv wv vs hs ex F FX M MX hb xs ys xb col' w col i (4 * i + cnt4 q) (n0 + q) μ v)) (fun _ s13 _ => 70 - (intOf s13).toNat)
      case atStart =>
        refine ⟨0, _, _, _, ex, FX, MX, col', rfl, rfl, by decide, I.out, U.out, LM.out, LX.out, ?_, XB.out, FAR.out, ?_, ?_, ?_, ?_⟩
        · show _ = _
          rw [LE.out]
          rfl
        · intro e he b hb
          rcases EX.out e he b hb with a | a
          · exact Or.inl a
          · exact Or.inr (a.more (Nat.le_succ _))
        · have h := UND.out
          rw [HY.out] at h
          exact h
        · intro b hb
          exact Or.inr ⟨i, hih, Nat.lt_succ_self _, by rw [HY.out]; exact hb⟩
        · have h := O1.out
          rw [HY.out] at h
          exact h
      case round =>
        clear I U LX LE XB FAR EX UND c0 c1 fz O1 j2 f1
        obtain ⟨q, v, lv, mv, ex, FX, MX, col', rfl, rfl, hq, C⟩ := hrel
        obtain ⟨la2, lc2, rfl⟩ := C.out.x.l.val
        have hq4 := cnt4_le q
        have hFX : FX.length ≤ 4 * i + 4 := by have := C.out.le; omega
        have hFL : (F ++ FX).length ≤ 1000000000 := by rw [List.length_append]; have := HN0.out; omega
        have hML : (M ++ MX).length ≤ 1000000000 := by
          have h1 := C.out.lx
          have h2 := LM.out
          rw [List.length_append] at hFL ⊢
          omega
        have hxM2 : ix < (M ++ MX).length := by rw [List.length_append]; have := LM.out; omega
        have hget : (M ++ MX)[ix]? = some μ := by
          rw [HMU.out]
          rw [List.getElem?_append_left (by have := LM.out; omega), List.getElem_append_left (by have := LM.out; omega)]
          exact List.getElem?_eq_getElem _
        obtain ⟨mb, mcp, hmv⟩ : ∃ mb mcp, mv = .slice (some ⟨mb, 0, none⟩) (M ++ MX).length mcp := by
          rcases C.out.x.m.2 with ⟨_, h0⟩ | ⟨g, cap, cur, e, _⟩
          · omega
          · exact ⟨g, cap, e⟩
        subst hmv
        have HGET := Lib.hid hget
        obtain ⟨xv, zv, hv⟩ := own_slice C.out.ov
        rw [List.length_replicate] at hv
        subst hv
        have j3 : (ix : Int) < ((M ++ MX).length : Int) := by omega
        obtain ⟨NF, hNF⟩ : ∃ n, n = (F ++ FX).length := ⟨_, rfl⟩
        obtain ⟨NM, hNM⟩ : ∃ n, n = (M ++ MX).length := ⟨_, rfl⟩
        rw [← hNF] at hFL
        rw [← hNM] at hML j3
        rw [← hNF, ← hNM] at C
        obtain ⟨c0, c1, c2, c3, c4, c5, fz⟩ := sixB C.out.x.box
        by_cases hlq : q < 70
        · have j4 : (q : Int) < 70 := by omega
          have OV2 : Hid (wr.ownsRow 0 5 1 (.slice xv (n0 + q) zv) (n0 + q) ((List.replicate (n0 + q) μ).map bv)) := by
            have h := C.out.ov
            unfold Own at h
            rw [List.length_replicate] at h
            exact h
          have hmcell : wr.cell? ⟨mb, ix, none⟩ = some (.int .u8 μ.toNat) := by
            have := C.out.x.m.cells (g := mb) rfl ix (bv μ) (by rw [List.getElem?_map, HGET.out]; rfl)
            rw [Addr.add_lit, Nat.zero_add] at this
            exact this
          have HNF := Lib.hid hNF
          have HNM := Lib.hid hNM
          clear hNF hNM hget hq4 hxM2 c0 c2 c3 c4 c5
          go_upto_region 27 with (at_builtin; refine wpList_append_cap (wr.alloc (.cells #[.int .u8 μ.toNat] 5)) rfl (.tmp 136) (.tmp 144) 22 rfl 0 5 i0 (.int .u8 0) 1 1 Try.underlying22 hi0 hz00 hz01 hz02 rfl (by decide) (.slice xv (n0 + q) zv) (n0 + q) ((List.replicate (n0 + q) μ).map bv) rfl (OV2.out.alloc _) (.slice (some ⟨wr.heap.size, 0, none⟩) 1 1) 1 [.int .u8 μ.toNat] rfl (Or.inr ⟨_, _, rfl, World.news_of_block (cs := #[.int .u8 μ.toNat]) (by exact heap_alloc_new wr _)⟩) rfl (by intro u hu; simp at hu; subst hu; rfl) (by unfold maxLen; omega) (by omega) (Nat.zero_le _) ?_; intro v5 w5 hown5 hgrow5 hcap5; have CH := Lib.hid (CJ.grow C.out hih ((Kept.refl [] wr).alloc _) hown5 hgrow5 hcap5); obtain ⟨xa, xc, rfl⟩ := own_slice hown5; clear hown5 hgrow5 hcap5)
          clear hmcell c1 fz OV2 C
          obtain ⟨col5, hc5⟩ : ∃ c, c = upd col' (wr.alloc (.cells #[.int .u8 μ.toNat] 5)).heap.size 0 := ⟨_, rfl⟩
          rw [← hc5] at CH
          clear hc5
          go_cut [159] from 146 to 158 (fun s159 wx => s159 = .bool (recB q) ∧ w5 = wx)
          case first =>
            by_cases h0 : (q : Int) = 0
            · have hrt : Hid (recB q = true) := decide_eq_true (by omega)
              go_wp2_with fail
              go_meet
              case rel => exact ⟨by rw [hrt.out], rfl⟩
            · by_cases h3 : (q : Int) = 3
              · have hrt : Hid (recB q = true) := decide_eq_true (by omega)
                go_wp2_with fail
                go_meet
                case rel => exact ⟨by rw [hrt.out], rfl⟩
              · by_cases h15 : (q : Int) = 15
                · have hrt : Hid (recB q = true) := decide_eq_true (by omega)
                  go_wp2_with fail
                  go_meet
                  case rel => exact ⟨by rw [hrt.out], rfl⟩
                · by_cases h69 : (q : Int) = 69
                  · have hrt : Hid (recB q = true) := decide_eq_true (by omega)
                    go_wp2_with fail
                    go_meet
                    case rel => exact ⟨by rw [hrt.out], rfl⟩
                  · have hrt : Hid (recB q = false) := decide_eq_false (by omega)
                    go_wp2_with fail
                    go_meet
                    case rel => exact ⟨by rw [hrt.out]; first | (simp; omega) | simp, rfl⟩
          case rest =>
            obtain ⟨rfl, rfl⟩ := hcut
            cases hrec : recB q with
            | false =>
              have C9 : Hid (CJ w5 k (.slice la2 NF lc2) (.slice (some ⟨mb, 0, none⟩) NM mcp) (.slice ha hb.length hc) (.slice ta hb.length tc) fv wv vs hs ex F FX M MX hb xs ys xb col5 w col i (4 * i + cnt4 (q + 1)) (n0 + (q + 1)) μ (.slice xa (n0 + q + 1) xc)) := by
                rw [cnt4_no hrec]
                exact CH
              clear hrec CH
              go_wp2_with fail
              go_roundw
              case rel => exact ⟨q + 1, _, _, _, ex, FX, MX, col5, rfl, by go_num, by omega, C9⟩
              case measure => simp [intOf]; omega
            | true =>
              have hcn := Lib.hid (cnt4_yes hrec)
              have LO : Hid ((w5.alloc (.cells #[.slice xa (n0 + q + 1) xc] 22)).ownsRow 0 22 1 (.slice la2 NF lc2) NF (vs ++ hs ++ ex)) := by
                have h := CH.out.x.l.own
                rw [CH.out.x.l.len, ← HNF.out] at h
                exact h.alloc _
              have YO : Hid (Own (w5.alloc (.cells #[.slice xa (n0 + q + 1) xc] 22)) 0 (.slice xa (n0 + q + 1) xc) (List.replicate (n0 + q + 1) μ)) := World.ownsRow.alloc CH.out.ov _
              have YP : Hid (∀ b, (Value.slice xa (n0 + q + 1) xc).ownBlock = some b → col5 b = 0 ∨ InH hs hs.length b) := fun b hb => (CH.out.vb b hb).imp id (fun z => z.more (by omega))
              have HLL : Hid (NF = (vs ++ hs ++ ex).length) := by show _ = _; rw [CH.out.x.l.len, HNF.out]
              obtain ⟨c0, c1, c2, c3, c4, c5, fz⟩ := sixB CH.out.x.box
              clear hrec c1 c2 c3 c4 c5
              go_upto_region 29 with (at_builtin; refine wpList_append_src (w5.alloc (.cells #[.slice xa (n0 + q + 1) xc] 22)) rfl (.tmp 164) (.tmp 166) 26 rfl 0 22 i1 (.slice none 0 0) 1 24 Try.underlying26 hi1 hz10 hz11 hz12 rfl (by decide) (.slice la2 NF lc2) NF (vs ++ hs ++ ex) rfl LO.out (.slice (some ⟨w5.heap.size, 0, none⟩) 1 1) 1 [.slice xa (n0 + q + 1) xc] rfl (Or.inr ⟨_, _, rfl, World.news_of_block (cs := #[.slice xa (n0 + q + 1) xc]) (by exact heap_alloc_new w5 _)⟩) rfl (by intro u hu; simp at hu; subst hu; rfl) (by unfold maxLen; omega) (by omega) (Nat.zero_le _) ?_; intro v6 w6 hown6 hgrow6 hat6; obtain ⟨X6, B6, K6, U6⟩ := CH.out.x.pushl ((Kept.refl [] w5).alloc _) YO.out YP.out (Nat.le_refl _) HLL.out hown6 hgrow6 hat6; obtain ⟨p0, p1, p2, p3, p4, p5, pz⟩ := sixB B6; obtain ⟨ya, yc, rfl⟩ := own_slice hown6; have X6h := Lib.hid X6; have K6h := Lib.hid K6; have U6h := Lib.hid U6; clear hown6 hgrow6 hat6 X6 B6 K6 U6)
              clear p0 p1 p2 p3 p4 p5 pz c0 fz
              have HLL2 := HLL
              obtain ⟨w7, hw7⟩ : ∃ w7, w7 = w6.setCell ⟨k, 0, none⟩ (.slice ya (NF + 1) yc) := ⟨_, rfl⟩
              rw [← hw7] at X6h K6h ⊢
              clear hw7 LO YO YP HLL HLL2
              obtain ⟨p0, p1, p2, p3, p4, p5, pz⟩ := sixB X6h.out.box
              have hmcell : w7.cell? ⟨mb, ix, none⟩ = some (.int .u8 μ.toNat) := by
                have := X6h.out.m.cells (g := mb) rfl ix (bv μ) (by rw [List.getElem?_map, HGET.out]; rfl)
                rw [Addr.add_lit, Nat.zero_add] at this
                exact this
              have KA7 : Hid (Kept [] w7 (w7.alloc (.cells #[.int .u8 μ.toNat] 5)).drew) := ((Kept.refl [] w7).alloc _).drew
              have LM7 : Hid ((w7.alloc (.cells #[.int .u8 μ.toNat] 5)).drew.ownsRow 0 5 1 (.slice (some ⟨mb, 0, none⟩) NM mcp) NM ((M ++ MX).map bv)) := by
                have h := X6h.out.m
                unfold Own at h
                rw [← HNM.out] at h
                exact (h.alloc _).drew
              have c1a : (w7.alloc (.cells #[.int .u8 μ.toNat] 5)).cell? ⟨k, 1, none⟩ = some (.slice (some ⟨mb, 0, none⟩) NM mcp) := by
                rw [← p1]
                exact World.cell?_of_block ((Kept.refl [] w7).alloc _ |>.block k (block_lt X6h.out.box) (by simp))
              clear p0 p2 p3 p4 p5
              go_region_law (refine step_append_src (w7.alloc (.cells #[.int .u8 μ.toNat] 5)).drew rfl (.tmp 174) (.tmp 182) 22 rfl 0 5 i0 (.int .u8 0) 1 1 Try.underlying22 hi0 hz00 hz01 hz02 rfl (by decide) (.slice (some ⟨mb, 0, none⟩) NM mcp) NM ((M ++ MX).map bv) (by simp [Act.eval]) LM7.out (.slice (some ⟨w7.heap.size, 0, none⟩) 1 1) 1 [.int .u8 μ.toNat] (by simp [Act.eval]) (Or.inr ⟨_, _, rfl, World.news_of_block (cs := #[.int .u8 μ.toNat]) (by exact heap_alloc_new w7 _)⟩) rfl (by intro u hu; simp at hu; subst hu; rfl) (by unfold maxLen; omega) (by omega) (Nat.zero_le _) ?_; intro v8 w8 hown8 hgrow8 hat8; obtain ⟨X8, B8, K8, U8⟩ := X6h.out.pushm (x := μ) KA7.out HNM.out hown8 hgrow8 hat8; obtain ⟨p0, p1, p2, p3, p4, p5, pz⟩ := sixB B8; obtain ⟨qa, qc, rfl⟩ := own_slice hown8; have C8 := Lib.hid (CH.out.push hih (by omega) K6h.out U6h.out K8 U8 X8); clear hown8 hgrow8 hat8 X8 B8 K8 U8)
              all_goals
                have C9 := Lib.hid (C8.out.cast (show 4 * i + cnt4 q + 1 = 4 * i + cnt4 (q + 1) by rw [hcn.out]; rfl) (Nat.add_assoc n0 q 1))
                clear C8
                go_wp2_with fail
                go_roundw
                case rel => exact ⟨q + 1, _, _, _, _, _, _, _, rfl, by go_num, by omega, C9⟩
                case measure => simp [intOf]; omega
        · have hqe : q = 70 := by omega
          have j4 : ¬ (q : Int) < 70 := by omega
          have LE2 : Hid (FX.length = 4 * (i + 1)) := by show _ = _; rw [C.out.le, hqe, cnt4_70]; omega
          have HQE := Lib.hid hqe
          have HIX2 : Hid ((ix : Int) + 1 = ((fs.length + (i + 1) : Nat) : Int)) := by show _ = _; have := HIX.out; omega
          have hm2 : N0 - ((ix : Int) + 1).toNat < N0 - (ix : Int).toNat := by omega
          clear hNF hNM hget hq4 hqe c2 c3 c4 c5
          go_wp2_with fail
          refine ⟨⟨i + 1, _, _, ex, FX, MX, col', ?_, by omega, C.out.x, C.out.u, C.out.lx, LE2, C.out.xbl, C.out.far, C.out.exl⟩, ?_⟩
          · rw [HIX2.out]
          · simpa [intOf] using hm2
    · have j1 : ¬ ((fs.length + i : Nat) : Int) < (N0 : Int) := by have := HN0.out; omega
      have LL : Hid ((F ++ FX).length ≤ fs.length + 5 * hb.length) := by show _ ≤ _; rw [List.length_append]; have := LE.out; omega
      have LMM : Hid ((M ++ MX).length = (F ++ FX).length) := by show _ = _; rw [List.length_append, List.length_append]; have := LX.out; have := LM.out; omega
      have FBB : Hid (∀ x ∈ F ++ FX, x.length ≤ 1200000000) := fun x hx => by
        rcases List.mem_append.1 hx with q | q
        · exact FB.out.1 x q
        · exact XB.out x q
      go_wp2_with fail
      go_meet
      case rel => exact ⟨rfl, _, _, ex, F ++ FX, M ++ MX, col', I, U, LMM, LL, FBB, FAR⟩
end Law
end Go.Proofs.Ytgdaiajjnfnomaa
