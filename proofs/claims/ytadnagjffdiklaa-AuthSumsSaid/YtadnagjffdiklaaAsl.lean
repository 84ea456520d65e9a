/- AuthSums walked: whatever the key, the numbers, the place, the number and the byte. -/
import Derived.Test.YtadnagjffdiklaaAst
import Derived.Test.YtadnagjffdiklaaLaw
import Derived.Laws.OwnMore
import Derived.Lib.ConvBytes
import Derived.Lib.AtoiErrMem
import Derived.Deep.Cut
import Derived.Deep.CutBlock
import Derived.Deep.CutRange
import Derived.IntWalk
namespace Go.Proofs.Ytadnagjffdiklaa.Asl
set_option linter.unusedVariables false
open Go.RowKit Go.PlainAid Go.Proofs.Ytadnagjffdiklaa.Asm Go.Proofs.Ytadnagjffdiklaa.Ast

theorem info_n : (Try.prog.info? 22).map (fun i => (i.zero, i.size, i.bytes)) = some (some (.int .u64 0), 1, 8) := by kernel_rfl
theorem one_n {l : List Nat} : ∀ u ∈ l.map uv, u.oneCell' = true := by
  intro u hu
  obtain ⟨x, _, rfl⟩ := List.mem_map.1 hu
  rfl
theorem own_slice {w : World} {base : Nat} {e : TypeId} {size : Nat} {v : Value} {n : Nat} {xs : List Value} (h : w.ownsRow base e size v n xs) : ∃ a c, v = .slice a n c := by
  rcases h.2 with ⟨rfl, rfl⟩ | ⟨g, cap, cur, rfl, _⟩
  · exact ⟨_, _, rfl⟩
  · exact ⟨_, _, rfl⟩
theorem ownsRow_kept {w w' : World} {S : List Nat} {base : Nat} {e : TypeId} {size : Nat} {v : Value} {n : Nat} {xs : List Value} (h : w.ownsRow base e size v n xs) (hk : Kept S w w') (hd : ∀ k, v.ownBlock = some k → k ∉ S) : w'.ownsRow base e size v n xs := by
  refine ⟨h.1, ?_⟩
  rcases h.2 with h2 | ⟨g, cap, cur, rfl, a1, a2, a3, a4, a5, a6⟩
  · exact Or.inl h2
  · exact Or.inr ⟨g, cap, cur, rfl, a1, (hk.block g (block_lt a2) (hd g rfl)).trans a2, a3, a4, a5, a6⟩
/-- Numbers that the call owns can be read. -/
theorem nums_own {w : World} {B : Nat} {v : Value} {l : List Nat} (h : w.ownsRow B 22 1 v l.length (l.map uv)) : Nums w v l := by
  have hc := fun g => h.cells (g := g)
  rcases h.2 with ⟨e, h0⟩ | ⟨g, cap, cur, e, _⟩
  · exact ⟨none, 0, by rw [h0]; exact e, fun i n hi => by rw [List.eq_nil_of_length_eq_zero h0] at hi; simp at hi⟩
  · exact ⟨_, _, e, fun i n hi => ⟨_, rfl, hc g (by rw [e]; rfl) i _ (by rw [List.getElem?_map, hi]; rfl)⟩⟩
theorem src_of {w : World} {v : Value} {l : List Nat} (h : Nums w v l) (hn : l ≠ [] ∨ v = .slice none 0 0) : RowSrc w v l.length (l.map uv) := by
  obtain ⟨a, c, rfl, hat⟩ := h
  rcases hn with hn | hn
  · obtain ⟨ad, rfl, -⟩ := hat 0 _ (List.getElem?_eq_getElem (List.length_pos_iff.2 hn))
    refine Or.inr ⟨ad, c, rfl, fun j u hu => ?_⟩
    rw [List.getElem?_map] at hu
    obtain ⟨n, hn2, rfl⟩ := Option.map_eq_some_iff.1 hu
    obtain ⟨ad', e, h2⟩ := hat j n hn2
    cases e
    exact h2
  · simp only [Value.slice.injEq] at hn
    have : l = [] := List.eq_nil_of_length_eq_zero hn.2.1
    exact Or.inl ⟨by simp [hn.1, hn.2.1, hn.2.2], by rw [this]; rfl, by rw [this]; rfl⟩

theorem own_at {w : World} {B n c : Nat} {a : Option Addr} {l : List Nat} (h : w.ownsRow B 22 1 (.slice a (n + 1) c) (n + 1) (l.map uv)) :
    ∃ g, a = some ⟨g, 0, none⟩ ∧ B ≤ g ∧ g < w.heap.size ∧ (∀ j, w.frozen? ⟨g, j, none⟩ = false) ∧ ∀ (j x : Nat), l[j]? = some x → w.cell? ⟨g, j, none⟩ = some (.int .u64 (x : Int)) := by
  have hc := fun g => h.cells (g := g)
  have hf := h
  rcases h.2 with ⟨_, h0⟩ | ⟨g, cap, cur, e, hb, hg, _⟩
  · omega
  · simp only [Value.slice.injEq] at e
    obtain ⟨rfl, -, rfl⟩ := e
    refine ⟨g, rfl, hb, block_lt hg, fun j => hf.frozenAt j, fun j x hx => ?_⟩
    have := hc g rfl j (uv x) (by rw [List.getElem?_map, hx]; rfl)
    rw [Addr.add_lit, Nat.zero_add] at this
    exact this
theorem two_of {w w1 w2 : World} {a1 : Option Addr} {c1 : Nat} {v2 : Value} {l : List Nat} (K1 : Hid (Kept [] w w1)) (R1 : Hid (w1.ownsRow w.heap.size 22 1 (.slice a1 l.length c1) l.length (l.map uv)))
    (hown : w2.ownsRow w.heap.size 22 1 v2 (l.length + 1) (l.map uv ++ [.int .u64 3])) (hgrow : (w1.alloc (.cells #[.int .u64 3] 22)).grownBy w2 (Value.slice a1 l.length c1).ownBlock)
    (hat : v2.ownBlock = (Value.slice a1 l.length c1).ownBlock ∨ v2.ownBlock = some (w1.alloc (.cells #[.int .u64 3] 22)).heap.size) :
    Hid (w2.ownsRow w.heap.size 22 1 v2 (l.length + 1) ((l ++ [3]).map uv)) ∧ Hid (Kept [] w w2) := by
  refine ⟨by rw [List.map_append]; exact hown, (K1.out.alloc _).grown hgrow (fun k e => Or.inr ?_)⟩
  rcases R1.out.2 with ⟨h, -⟩ | ⟨g, cap, cur, h, hb, -⟩
  · rw [h] at e; cases e
  · rw [h] at e; cases e; exact hb
set_option maxHeartbeats 2000000 in
set_option maxRecDepth 100000 in
theorem sums_in (w : World) (key : ByteArray) (v : Value) (l : List Nat) (at' : Int) (n : Nat) (k : UInt8) (hk : key.size ≤ 268435456) (hl : l.length ≤ 33554432) (hlt : Hid (∀ x ∈ l, x < top)) (hv : Hid (RowSrc w v l.length (l.map uv)))
    (h1 : -9223372036854775808 ≤ at') (h2 : at' ≤ 9223372036854775807) (hn : n < top) :
    Calls Try.prog 4 #[.string key, v, .int .i64 at', .int .u64 n, .int .u8 k.toNat] w fun e w' => e = .returned (.bool true) ∧ Below w.heap.size w w' := by
  obtain ⟨i0, hi, hz0, hz1, hz2⟩ := info_parts info_n
  obtain ⟨a, c, rfl⟩ : ∃ a c, v = .slice a l.length c := by
    rcases hv.out with ⟨e, h, -⟩ | ⟨ad, c, e, -⟩
    · exact ⟨none, 0, by rw [h]; exact e⟩
    · exact ⟨_, _, e⟩
  have k1 : ¬ (268435456 : Int) < (key.size : Int) := by omega
  have k2 : ¬ (33554432 : Int) < (l.length : Int) := by omega
  go_enter Try.func4, Try.ntmps4
  obtain ⟨a0, ha0⟩ : ∃ a0 : Nat, (a0 : Int) = if at' < 0 then -(at' + 1) else at' := ⟨(if at' < 0 then -(at' + 1) else at').toNat, by split <;> omega⟩
  have HA := Lib.hid ha0
  have ha1 : a0 ≤ 9223372036854775807 := by have := ha0; split at this <;> omega
  clear ha0
  go_upto_if 38 with (first
    | (at_builtin; refine wpList_append_src w rfl (.tmp 31) (.tmp 32) 26 rfl w.heap.size 22 i0 (.int .u64 0) 1 8 Try.underlying26 hi hz0 hz1 hz2 rfl (by decide) (.slice none 0 0) 0 [] rfl (World.ownsRow_nil _ _ _ _) (.slice a l.length c) l.length (l.map uv) rfl hv.out (by simp) one_n (by unfold maxLen; omega) (by omega) (Nat.le_refl _) ?_; intro v1 w1 hown hgrow hat; have R1 : Hid (w1.ownsRow w.heap.size 22 1 v1 l.length (l.map uv)) := (by simpa [Hid] using hown); have K1 : Hid (Kept [] w w1) := (Kept.refl [] w).grown hgrow (fun k e => by cases e); clear hown hgrow hat; obtain ⟨a1, c1, rfl⟩ := own_slice R1.out)
    | (at_builtin; refine wpList_append_src (w1.alloc (.cells #[.int .u64 3] 22)) rfl (.tmp 34) (.tmp 35) 26 rfl w.heap.size 22 i0 (.int .u64 0) 1 8 Try.underlying26 hi hz0 hz1 hz2 rfl (by decide) (.slice a1 l.length c1) l.length (l.map uv) rfl (R1.out.alloc _) (.slice (some ⟨w1.heap.size, 0, none⟩) 1 1) 1 [.int .u64 3] rfl (Or.inr ⟨_, _, rfl, World.news_of_block (cs := #[.int .u64 3]) (by exact heap_alloc_new w1 _)⟩) rfl (by intro u hu; simp at hu; subst hu; rfl) (by unfold maxLen; omega) (by omega) (by have := K1.out.size; simp; omega) ?_; intro v2 w2 hown hgrow hat; obtain ⟨R2, K2⟩ := two_of K1 R1 hown hgrow hat; clear hown hgrow hat; obtain ⟨a2, c2, rfl⟩ := own_slice R2.out; obtain ⟨g2, rfl, hg2, hb2, fz2, ce2⟩ := own_at R2.out; have CE2 := Lib.hid ce2; clear fz2 ce2))
  go_cut [2] from 38 to 41 (fun s2 wx => s2 = .int .i64 a0 ∧ w2 = wx)
  case first =>
    by_cases h0 : at' < 0
    · have e1 : IntKind.wrap .i64 (at' + 1) = at' + 1 := IntWalk.i64_in _ (by omega)
      have e2 : IntKind.wrap .i64 (-(at' + 1)) = -(at' + 1) := IntWalk.i64_in _ (by omega)
      go_wp2_with fail
      go_meet
      case rel => exact ⟨by rw [HA.out, if_pos h0], rfl⟩
    · go_wp2_with fail
      go_meet
      case rel => exact ⟨by rw [HA.out, if_neg (by omega)], rfl⟩
  case rest =>
    obtain ⟨rfl, rfl⟩ := hcut
    have SR : Hid (RowSrc w2 (.slice (some ⟨g2, 0, none⟩) (l.length + 1) c2) (l.length + 1) ((l ++ [3]).map uv)) := by
      have h := src_of (nums_own (l := l ++ [3]) (by simpa [Hid] using R2.out)) (Or.inl (by simp))
      have e : (l ++ [3]).length = l.length + 1 := by simp
      rw [e] at h
      exact h
    obtain ⟨i, hi0⟩ : ∃ i, i = a0 % (l.length + 1) := ⟨_, rfl⟩
    have HI : (a0 : Int) % ((l.length : Int) + 1) = (i : Int) := by rw [hi0]; simp
    have hil : i < l.length + 1 := by rw [hi0]; exact Nat.mod_lt _ (by omega)
    have hil' : (i : Int) < (l.length : Int) + 1 := by omega
    obtain ⟨mi, hmi⟩ : ∃ mi, (l ++ [3])[i]? = some mi := ⟨_, List.getElem?_eq_getElem (by simpa using hil)⟩
    have HMI := Lib.hid hmi
    clear hi0 hmi
    go_wp2_with (first
      | (at_builtin; refine wpList_append_src w2 rfl (.tmp 42) (.tmp 43) 26 rfl w2.heap.size 22 i0 (.int .u64 0) 1 8 Try.underlying26 hi hz0 hz1 hz2 rfl (by decide) (.slice none 0 0) 0 [] rfl (World.ownsRow_nil _ _ _ _) (.slice (some ⟨g2, 0, none⟩) (l.length + 1) c2) (l.length + 1) ((l ++ [3]).map uv) rfl SR.out (by simp) one_n (by unfold maxLen; omega) (by omega) (Nat.le_refl _) ?_; intro v3 w3 hown hgrow hat; have R3 : Hid (w3.ownsRow w2.heap.size 22 1 v3 (l.length + 1) ((l ++ [3]).map uv)) := (by simpa [Hid] using hown); have K3 : Hid (Kept [] w2 w3) := (Kept.refl [] w2).grown hgrow (fun k e => by cases e); clear hown hgrow hat; obtain ⟨a3, c3, rfl⟩ := own_slice R3.out; obtain ⟨g3, rfl, hg3, hb3, fz3, ce3⟩ := own_at R3.out; have C3 := ce3 i mi HMI.out; have F3 := fz3 i; clear fz3 ce3))
    have e : (l ++ [3]).length = l.length + 1 := by simp
    obtain ⟨W, hW⟩ : ∃ W, W = w3.setCell ⟨g3, i, none⟩ (.int .u64 (n : Int)) := ⟨_, rfl⟩
    have R4 : Hid (W.ownsRow w2.heap.size 22 1 (.slice (some ⟨g3, 0, none⟩) (l.length + 1) c3) (l.length + 1) (((l ++ [3]).set i n).map uv)) := by
      have h := (R3.out.stored i (uv n)).1
      rw [hW, List.map_set]
      exact h
    have K4 : Hid (Kept [] w2 W) := by rw [hW]; exact K3.out.setCell (Or.inr hg3) _
    have R5 : Hid (W.ownsRow w.heap.size 22 1 (.slice (some ⟨g2, 0, none⟩) (l.length + 1) c2) (l.length + 1) ((l ++ [3]).map uv)) := ownsRow_kept R2.out K4.out (fun k _ h => by cases h)
    have N1 : Hid (Nums W (.slice (some ⟨g2, 0, none⟩) (l.length + 1) c2) (l ++ [3])) := nums_own (by rw [e]; exact R5.out)
    have N2 : Hid (Nums W (.slice (some ⟨g3, 0, none⟩) (l.length + 1) c3) ((l ++ [3]).set i n)) := nums_own (by rw [List.length_set, e]; exact R4.out)
    have C2 : W.cell? ⟨g2, i, none⟩ = some (.int .u64 (mi : Int)) := by
      obtain ⟨g, hg, -, -, -, h⟩ := own_at R5.out
      cases hg
      exact h i mi HMI.out
    have L1 : Hid (∀ x ∈ l ++ [3], x < top) := by
      intro x hx
      rcases List.mem_append.1 hx with h | h
      · exact hlt.out x h
      · simp at h; rw [h]; decide
    have L2 : Hid (∀ x ∈ (l ++ [3]).set i n, x < top) := fun x hx => by
      rcases List.mem_or_eq_of_mem_set hx with h | h
      · exact L1.out x h
      · rw [h]; exact hn
    have e2 : ((l ++ [3]).set i n).length = l.length + 1 := by simp
    obtain ⟨X, hX⟩ : ∃ X, X = Asm.sum key.data.toList (l ++ [3]) := ⟨_, rfl⟩
    obtain ⟨Y, hY⟩ : ∃ Y, Y = Asm.sum key.data.toList ((l ++ [3]).set i n) := ⟨_, rfl⟩
    have hkl : key.data.toList.length = key.size := by simp
    obtain ⟨q, hq⟩ : ∃ q, q = decide (mi = n) := ⟨_, rfl⟩
    have E1 : ((X : Int) == (Y : Int)) = q := by
      have h := sum_list key.data.toList (l ++ [3]) i n (by rw [e]; exact hil) (by unfold top; omega) L1.out (by rw [e]; unfold top; omega) hn
      have h2 := HMI.out
      rw [List.getElem?_eq_getElem (by rw [e]; exact hil), Option.some.injEq] at h2
      rw [h2, ← hX, ← hY] at h
      rw [hq, Bool.eq_iff_iff]
      simp only [beq_iff_eq, decide_eq_true_eq]
      omega
    have E2 : ((mi : Int) == (n : Int)) = q := by
      rw [hq, Bool.eq_iff_iff]
      simp only [beq_iff_eq, decide_eq_true_eq]
      omega
    have HX := Lib.hid hX
    have HY := Lib.hid hY
    clear hX hY hq C3 F3 SR
    rw [← hW]
    have HW := Lib.hid hW
    clear hW
    refine (sum_any W key _ (l ++ [3]) X (by omega) (by rw [e]; omega) L1 N1 HX).mono ?_
    rintro e w4 ⟨rfl, rfl⟩
    go_wp2_with fail
    refine (sum_any w4 key _ ((l ++ [3]).set i n) Y (by omega) (by rw [e2]; omega) L2 N2 HY).mono ?_
    rintro e w5 ⟨rfl, rfl⟩
    clear HX HY e2 L2 N2 R4 R3 R2 R1 HA
    have K5 : Hid (Kept [] w w5) := K2.out.trans K4.out (fun i hi => by cases hi)
    obtain ⟨W6, hW6⟩ : ∃ W6, W6 = Lib.bytesWorld w5 5 (key ++ ⟨#[122]⟩) := ⟨_, rfl⟩
    obtain ⟨cp, hcp⟩ : ∃ cp, cp = grownCap w5 (key ++ ⟨#[122]⟩).size 0 5 := ⟨_, rfl⟩
    obtain ⟨kb, hkb⟩ : ∃ kb, kb = key.data.toList ++ [122] := ⟨_, rfl⟩
    have hkbl : kb.length = key.size + 1 := by rw [hkb, List.length_append, hkl]; rfl
    have hss : (key ++ ⟨#[122]⟩).size = key.size + 1 := by rw [ByteArray.size_append]; rfl
    have hsd : (key ++ ⟨#[122]⟩).data.toList = kb := by rw [hkb, ByteArray.data_append, Array.toList_append]
    have hcv : (convert 9 27 (.string (key ++ ⟨#[122]⟩))).run Try.prog w5 = .ok (.slice (some ⟨w5.heap.size, 0, none⟩) (key.size + 1) cp) W6 := by
      rw [hW6, hcp, ← hss]
      exact Lib.run_convert_string_bytes w5 9 27 5 _ (u := .string) Try.underlying9 Try.underlying27 Try.underlying5
    have K6 : Hid (Kept [] w5 W6) := by rw [hW6]; exact Kept.of_below (Lib.bytesWorld_below w5 5 _) []
    obtain ⟨j, hj0⟩ : ∃ j, j = a0 % (key.size + 1) := ⟨_, rfl⟩
    have HJ : (a0 : Int) % ((key.size : Int) + 1) = (j : Int) := by rw [hj0]; simp
    have hjl : j < key.size + 1 := by rw [hj0]; exact Nat.mod_lt _ (by omega)
    have hjl' : (j : Int) < (key.size : Int) + 1 := by omega
    obtain ⟨bj, hbj⟩ : ∃ bj, kb[j]? = some bj := ⟨_, List.getElem?_eq_getElem (by omega)⟩
    have CA : Hid (∀ (x : Nat) (b : UInt8), kb[x]? = some b → W6.cell? ⟨w5.heap.size, x, none⟩ = some (.int .u8 (b.toNat : Int))) := fun x b hb => by
      have hx : x < kb.length := (List.getElem?_eq_some_iff.1 hb).1
      rw [hW6, Lib.bytesWorld_cell w5 5 _ x (by rw [hss]; omega), hsd, List.getD, hb]
      rfl
    have C6 := CA.out j bj hbj
    have F6 : W6.frozen? ⟨w5.heap.size, j, none⟩ = false := by
      have hz : (key ++ ⟨#[122]⟩).size ≤ (Lib.bytesCells w5 5 (key ++ ⟨#[122]⟩)).size := by
        unfold Lib.bytesCells; rw [Array.size_append, Array.size_map]; exact Nat.le_add_right _ _
      unfold World.frozen?
      rw [hW6, Lib.bytesWorld_at_new]
      simp only [Bool.and_eq_false_iff, decide_eq_false_iff_not]
      left
      rw [hss] at hz
      omega
    have hS6 : W6.heap.size = w5.heap.size + 1 := by rw [hW6]; exact Lib.bytesWorld_size _ _ _
    have HBJ := Lib.hid hbj
    have HKB := Lib.hid hkb
    have HSD := Lib.hid hsd
    have HSS := Lib.hid hss
    have HS6 := Lib.hid hS6
    clear hW6 hcp hkb hj0 hbj hsd hss hkbl hS6
    go_wp2_with fail
    have hszk : W6.heap.size = w5.heap.size + 1 := HS6.out
    have hg2s : g2 < w5.heap.size := by have := K4.out.size; omega
    obtain ⟨W7, hW7⟩ : ∃ W7, W7 = W6.setCell ⟨w5.heap.size, j, none⟩ (.int .u8 (k.toNat : Int)) := ⟨_, rfl⟩
    have K7 : Hid (Kept [] w5 W7) := by rw [hW7]; exact K6.out.setCell (Or.inr (Nat.le_refl _)) _
    have R7 : Hid (W7.ownsRow w.heap.size 22 1 (.slice (some ⟨g2, 0, none⟩) (l.length + 1) c2) (l.length + 1) ((l ++ [3]).map uv)) := ownsRow_kept R5.out K7.out (fun k _ h => by cases h)
    have N7 : Hid (Nums W7 (.slice (some ⟨g2, 0, none⟩) (l.length + 1) c2) (l ++ [3])) := nums_own (by rw [e]; exact R7.out)
    have hkbl : kb.length = key.size + 1 := by rw [HKB.out, List.length_append, hkl]; rfl
    have hcv2 : (convert 27 9 (.slice (some ⟨w5.heap.size, 0, none⟩) (key.size + 1) cp)).run Try.prog W7 = .ok (.string ⟨(kb.set j k).toArray⟩) W7 := by
      have hl2 : (kb.set j k).length = key.size + 1 := by rw [List.length_set, hkbl]
      rw [← hl2]
      refine run_convert_bytes_back W7 27 9 5 ⟨w5.heap.size, 0, none⟩ cp (kb.set j k) Try.underlying27 Try.underlying5 Try.underlying9 (fun x hx => ?_)
      rw [Addr.add_lit, Nat.zero_add, hW7]
      by_cases hxj : x = j
      · subst hxj
        rw [List.getElem_set_self]
        exact World.cell?_setCell_same _ _ _ C6
      · rw [List.getElem_set_ne (Ne.symm hxj)]
        rw [World.cell?_setCell_other _ _ _ _ (fun h => hxj (congrArg Addr.off h).symm)]
        exact CA.out x _ (List.getElem?_eq_getElem (by rw [List.length_set] at hx; exact hx))
    rw [← hW7]
    clear hW7
    obtain ⟨X2, hX2⟩ : ∃ X, X = Asm.sum kb (l ++ [3]) := ⟨_, rfl⟩
    obtain ⟨Y2, hY2⟩ : ∃ Y, Y = Asm.sum (kb.set j k) (l ++ [3]) := ⟨_, rfl⟩
    have E3 : ((X2 : Int) == (Y2 : Int)) = ((bj.toNat : Int) == (k.toNat : Int)) := by
      have h := sum_key kb (l ++ [3]) j k (by omega) (by rw [hkbl]; unfold top; omega) L1.out (by rw [e]; unfold top; omega)
      have h2 := HBJ.out
      rw [List.getElem?_eq_getElem (by omega), Option.some.injEq] at h2
      rw [h2, ← hX2, ← hY2] at h
      rw [Bool.eq_iff_iff]
      simp only [beq_iff_eq]
      have h3 : bj = k ↔ bj.toNat = k.toNat := UInt8.toNat_inj.symm
      rw [h3] at h
      omega
    have HX2 : Hid (X2 = Asm.sum (key ++ ⟨#[122]⟩ : ByteArray).data.toList (l ++ [3])) := by rw [HSD.out]; exact hX2
    have HY2 : Hid (Y2 = Asm.sum (⟨(kb.set j k).toArray⟩ : ByteArray).data.toList (l ++ [3])) := hY2
    clear hX2 hY2
    refine (sum_any W7 _ _ (l ++ [3]) X2 (by rw [HSS.out]; omega) (by rw [e]; omega) L1 N7 HX2).mono ?_
    rintro e8 w8 ⟨rfl, rfl⟩
    go_wp2_with fail
    refine (sum_any w8 _ _ (l ++ [3]) Y2 (by show (kb.set j k).length ≤ _; rw [List.length_set, hkbl]; omega) (by rw [e]; omega) L1 N7 HY2).mono ?_
    rintro e9 w9 ⟨rfl, rfl⟩
    have hit : u64 (i : Int) = i := by unfold u64; omega
    have hat0 : u64 (a0 : Int) = a0 := by unfold u64; omega
    obtain ⟨A1, hA1⟩ : ∃ A1, A1 = IntKind.wrap .i64 ((a0 : Int) + 1) := ⟨_, rfl⟩
    have hA2 : u64 A1 = a0 + 1 := by
      by_cases hh : a0 = 9223372036854775807
      · rw [hA1, hh]; rfl
      · rw [hA1, IntWalk.i64_in _ (by omega)]; unfold u64; omega
    have hA3 : IntKind.wrap .i64 ((a0 : Int) + 1) = A1 := hA1.symm
    obtain ⟨n1, hn1⟩ : ∃ n1, n1 = u64 ((n : Int) + 1) := ⟨_, rfl⟩
    have hn2 : IntKind.wrap .u64 ((n : Int) + 1) = (n1 : Int) := by rw [hn1]; exact wrap_of _
    have hn3 : n1 < top := by rw [hn1]; exact u64_lt _
    have hn4 : n1 ≠ n := by rw [hn1]; unfold u64; unfold top at hn; omega
    have hi1 : IntKind.wrap .i64 ((i : Int) + 1) = (i : Int) + 1 := IntWalk.i64_in _ (by omega)
    have hi2 : u64 ((i : Int) + 1) = i + 1 := by unfold u64; omega
    have ht0 : a0 + 1 < top := by unfold top; omega
    have ht1 : i + 1 < top := by unfold top; omega
    obtain ⟨P, hP⟩ : ∃ P, P = Asm.sum [] [n, u64 (a0 : Int), u64 (i : Int)] := ⟨_, rfl⟩
    obtain ⟨Q, hQ⟩ : ∃ P, P = Asm.sum [] [n, u64 (a0 : Int), u64 ((i : Int) + 1)] := ⟨_, rfl⟩
    obtain ⟨S, hS⟩ : ∃ P, P = Asm.sum [] [n, u64 A1, u64 (i : Int)] := ⟨_, rfl⟩
    obtain ⟨T, hT⟩ : ∃ P, P = Asm.sum [] [n1, u64 (a0 : Int), u64 (i : Int)] := ⟨_, rfl⟩
    have q1 : P ≠ Q := by
      rw [hP, hQ, hi2]
      exact sum_three n _ _ hn (u64_lt _) (u64_lt _) 2 (i + 1) (by decide) ht1 (by simp [hit])
    have q2 : P ≠ S := by
      rw [hP, hS, hA2]
      exact sum_three n _ _ hn (u64_lt _) (u64_lt _) 1 (a0 + 1) (by decide) ht0 (by simp [hat0])
    have q3 : P ≠ T := by
      rw [hP, hT]
      exact sum_three n _ _ hn (u64_lt _) (u64_lt _) 0 n1 (by decide) hn3 (by simp; exact fun h => hn4 h.symm)
    have p1 : ¬ ((P : Int) = (Q : Int)) := by omega
    have p2 : ¬ ((P : Int) = (S : Int)) := by omega
    have p3 : ¬ ((P : Int) = (T : Int)) := by omega
    have HP := Lib.hid hP
    have HQ := Lib.hid hQ
    have HS := Lib.hid hS
    have HT := Lib.hid hT
    clear hP hQ hS hT q1 q2 q3 hn1 hA1 hA2 hit hat0 hi2 ht0 ht1
    have KW : Hid (Kept [] w w9) := K5.out.trans K7.out (fun i hi => by cases hi)
    go_wp2_with fail
    refine (ours_any w9 n a0 i hn P HP).mono ?_
    rintro e10 w10 ⟨rfl, k10⟩
    go_wp2_with fail
    refine (ours_any w10 n a0 ((i : Int) + 1) hn Q HQ).mono ?_
    rintro e11 w11 ⟨rfl, k11⟩
    go_wp2_with fail
    refine (ours_any w11 n A1 i hn S HS).mono ?_
    rintro e12 w12 ⟨rfl, k12⟩
    go_wp2_with fail
    refine (ours_any w12 n1 a0 i hn3 T HT).mono ?_
    rintro e13 w13 ⟨rfl, k13⟩
    go_wp2_with fail
    have rr : ((P : Int) != (Q : Int) && (P : Int) != (S : Int) && (P : Int) != (T : Int)) = true := by simp only [bne_iff_ne, Bool.and_eq_true, ne_eq]; exact ⟨⟨p1, p2⟩, p3⟩
    have rr2 : ((P : Int) != (Q : Int) && ((P : Int) != (S : Int) && (P : Int) != (T : Int))) = true := by rw [← Bool.and_assoc]; exact rr
    go_ret
    have kk := (((KW.out.trans k10 (fun i hi => by cases hi)).trans k11 (fun i hi => by cases hi)).trans k12 (fun i hi => by cases hi)).trans k13 (fun i hi => by cases hi)
    refine ⟨?_, kk.below (fun i hi => by cases hi) (Nat.le_refl _)⟩
    first | exact congrArg (fun b => Ending.returned (.bool b)) rr | exact congrArg (fun b => Ending.returned (.bool b)) rr2
end Go.Proofs.Ytadnagjffdiklaa.Asl
