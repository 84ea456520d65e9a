/- What doBytes of nodes does. -/
import Derived.Test.YtihkldcdikbinaaAtn
import Derived.Test.YtihkldcdikbinaaLok
import Derived.Deep.WholeRow
import Derived.Deep.MidRow
import Derived.RegionTactic
import Derived.BigRegion
namespace Go.Proofs.Ytihkldcdikbinaa
set_option linter.unusedVariables false
open Go.RowKit
namespace Nd
open Go.Proofs.Ytihkldcdikbinaa.Utf Go.Proofs.Ytihkldcdikbinaa.Txt Go.PlainAid Go.Proofs.Ytihkldcdikbinaa.Mpf

/-- Bytes as they lie. -/
def b8 (l : List UInt8) : Array Value := (l.map fun b => Value.int .u8 (b.toNat : Int)).toArray
theorem blkV_eq (l : List UInt8) : blkV l = .agg (b8 l) := rfl
theorem b8_size (l : List UInt8) : (b8 l).size = l.length := by simp [b8]
theorem b8_one (l : List UInt8) : (b8 l).all (·.oneCell') = true := by
  unfold b8
  rw [Array.all_eq_true]
  intro i hi
  simp [Value.oneCell']
def z256 : List UInt8 := List.replicate 256 0
theorem info_bk : (Try.prog.info? 133).map (fun i => (i.zero, i.size)) = some (some (.agg (b8 z256)), 256) := by kernel_rfl
theorem zero_bk (w : World) : (zeroValue 133).run Try.prog w = .ok (.agg (b8 z256)) w := (zero_of_info info_bk).1 w
theorem size_bk : (Try.prog.info? 133).map (·.size) = some 256 := (zero_of_info info_bk).2

/-- copy as a step of a region. -/
theorem step_copy_kept {P : Program} (w : World) {ops : Array Oper} {o : Oper} {a : Act} {K : Act → World → Prop} {Q : Exit → Act → World → Prop} {E : Prop} (hgd : o.guard = none) (d s : Operand) (dT sT : TypeId)
    (ho : o.op = .call { callee := .builtin .copy, args := #[d, s], argTypes := #[dT, sT] }) (elem : TypeId) (hu : P.underlying dT = some (.slice elem)) (hsz : (P.info? elem).map (·.size) = some 1)
    (dp sp : Option Addr) (dLen dCap sLen sCap : Nat) (hd : a.eval d = .slice dp dLen dCap) (hs : a.eval s = .slice sp sLen sCap)
    (g off : Nat) (cur : List Value) (t : TypeId) (hg : w.heap[g]? = some (.cells cur.toArray t (0, 0))) (cs : List Value) (hn : cs.length = Nat.min sLen dLen)
    (hpos : 0 < cs.length → dp = some ⟨g, off, none⟩ ∧ ∃ ad, sp = some ad ∧ ∀ j v, cs[j]? = some v → w.cell? (ad.add j) = some v)
    (hfit : off + cs.length ≤ cur.length) (h1 : ∀ v ∈ cs, v.oneCell' = true)
    (h : ∀ w', Hid (w'.heap[g]? = some (.cells (splice cur off cs).toArray t (0, 0))) → Kept [g] w w' → K (a.put o.dst (goInt cs.length)) w') :
    if Region.wanted o (yielded ops a.tmps) = true then Oper.wp P o a w K Q else E := by
  have hw : Region.wanted o (yielded ops a.tmps) = true := by simp [Region.wanted, hgd]
  rw [if_pos hw]
  exact wp_copy_kept w d s dT sT ho elem hu hsz dp sp dLen dCap sLen sCap hd hs g off cur t hg cs hn hpos hfit h1 h
/-- Bytes with others written over them. -/
def over8 (L : List UInt8) (fr : Nat) (D : List UInt8) : List UInt8 := L.take fr ++ D ++ L.drop (fr + D.length)
theorem over8_eq (L : List UInt8) (fr : Nat) (D : List UInt8) : (splice (b8 L).toList fr (b8 D).toList).toArray = b8 (over8 L fr D) := by
  unfold splice b8 over8
  simp [List.map_take, List.map_drop]
theorem over8_length (L : List UInt8) (fr : Nat) (D : List UInt8) (h : fr + D.length ≤ L.length) : (over8 L fr D).length = L.length := by
  unfold over8
  simp
  omega
theorem u64_add (a n : Nat) (h : a + n < 18446744073709551616) : IntKind.u64.wrap ((a : Int) + n) = ((a + n : Nat) : Int) := by rw [IntKind.wrap_u64, Int.emod_eq_of_lt (by omega) (by omega)]; omega
theorem info_u8 : (Try.prog.info? 5).map (·.size) = some 1 := by kernel_rfl
theorem u64_div (n : Nat) : IntKind.u64.wrap ((n : Int) / 256) = ((n / 256 : Nat) : Int) ∨ 18446744073709551616 * 256 ≤ n := by
  by_cases h : n < 18446744073709551616 * 256
  · left
    rw [IntKind.wrap_u64, Int.emod_eq_of_lt (by omega) (by omega)]
    omega
  · right; omega
theorem u64_id (n : Nat) (h : n < 18446744073709551616) : IntKind.u64.wrap (n : Int) = n := by rw [IntKind.wrap_u64, Int.emod_eq_of_lt (by omega) (by omega)]
theorem u64_sub (a n : Nat) (h : n ≤ a) (ha : a < 18446744073709551616) : IntKind.u64.wrap ((a : Int) - n) = ((a - n : Nat) : Int) := by rw [IntKind.wrap_u64, Int.emod_eq_of_lt (by omega) (by omega)]; omega
theorem tmod_nat (n : Nat) : (n : Int).tmod 256 = ((n % 256 : Nat) : Int) := by rw [Int.tmod_eq_emod_of_nonneg (by omega)]; omega

set_option maxRecDepth 100000 in
set_option maxHeartbeats 8000000 in
theorem bytes_ok (w : World) (b : Nat) (d : Is) (lk : Int) (ks : Value) (m nn : Nat) (g : Nat → Option (List UInt8)) (V : Array Value) (off : Nat) (da : Addr) (D : List UInt8) (dc : Nat) (hs : V.size = 20) (v17 : V[17]? = some (.int .u64 off)) (v18 : V[18]? = some (.slice (some da) D.length dc))
    (hn : NdAt w b d lk ks m) (hm : Mp nK w m nn (fun i => (g i).map blkV)) (hg : ∀ i l, g i = some l → l.length = 256) (hsrc : ∀ j u, (b8 D).toList[j]? = some u → w.cell? (da.add j) = some u) (hda : da.block < w.heap.size)
    (hdir : isDirM d.mode = false) (hD : 0 < D.length) (hfit : D.length ≤ 256 - off % 256) (hbig : off ≤ 65536 - D.length) (hD2 : D.length ≤ 256) (nn' : Nat) (hnn : nn' = if (g (off / 256)).isSome then nn else nn + 1) :
    Calls Try.prog 49 #[.pointer (some ⟨b, 0, none⟩), .agg V] w fun e w' => e = .returned (.int .i64 0) ∧ NdAt w' b { d with length := max d.length (off + D.length) } lk ks m ∧
      Mp nK w' m nn' (upd (fun i => (g i).map blkV) (off / 256) (some (blkV (over8 ((g (off / 256)).getD z256) (off % 256) D)))) ∧ Kept [b, m] w w' := by
  have HNN := Lib.hid hnn
  clear hnn
  obtain ⟨w1, hw1⟩ : ∃ w1, w1 = w.alloc (.cells V 55) := ⟨_, rfl⟩
  have B0 : Hid (Bx w1 w.heap.size 55 V) := by rw [hw1]; exact Bx.made _ _ _
  have N1 : Hid (NdAt w1 b d lk ks m) := by rw [hw1]; exact Bx.alloc hn _
  have M1 : Hid (Mp nK w1 m nn (fun i => (g i).map blkV)) := by rw [hw1]; exact hm.alloc _
  have K1 : Hid (Kept [] w w1) := by rw [hw1]; exact (Kept.refl _ w).alloc _
  have S1 : Hid (w1.heap.size = w.heap.size + 1) := by rw [hw1]; exact World.size_alloc _ _
  have hbl := hn.lt
  have c17 := B0.out.cell 17 v17
  have c18 := B0.out.cell 18 v18
  obtain ⟨at_, hat⟩ : ∃ a, a = off / 256 := ⟨_, rfl⟩
  obtain ⟨fr, hfr⟩ : ∃ a, a = off % 256 := ⟨_, rfl⟩
  obtain ⟨dn, hdn⟩ : ∃ a, a = D.length := ⟨_, rfl⟩
  have q1 : IntKind.u64.wrap ((off : Int) / 256) = (at_ : Int) := by rcases u64_div off with h | h; rw [hat]; exact h; omega
  have q2 : (off : Int).tmod 256 = (fr : Int) := by rw [hfr]; exact tmod_nat off
  have q3 : IntKind.u64.wrap (dn : Int) = (dn : Int) := u64_id dn (by omega)
  have q4 : IntKind.u64.wrap ((256 : Int) - fr) = ((256 - fr : Nat) : Int) := u64_sub 256 fr (by omega) (by decide)
  have q5 : IntKind.u64.wrap ((65536 : Int) - dn) = ((65536 - dn : Nat) : Int) := u64_sub 65536 dn (by omega) (by decide)
  have t1 : ((dn : Int) == 0) = false := by rw [beq_eq_false_iff_ne]; omega
  have t2 : ¬ 256 - fr < dn := by omega
  have t3 : ¬ 65536 - dn < off := by omega
  have t4 : ¬ dn = 0 := by omega
  have ISD := Lib.hid (isDir_any w1.drew b d lk ks m N1.out)
  have c16 := N1.out.cell 16 (v := .map (some m)) rfl
  have ZB := zero_bk
  obtain ⟨L, hL⟩ : ∃ L, L = (g at_).getD z256 := ⟨_, rfl⟩
  have HL : Hid (L.length = 256) := by
    show _ = _
    rw [hL]
    cases hga : g at_ with
    | none => exact List.length_replicate
    | some l => exact hg at_ l hga
  have hlk : ((g at_).map blkV).getD (.agg (b8 z256)) = .agg (b8 L) := by rw [hL]; cases g at_ <;> rfl
  have HLg := Lib.hid hL
  clear hL
  have hatl : nK.ok at_ := show at_ < 18446744073709551616 by omega
  rw [hdir] at ISD
  rw [← hdn] at c18
  have HF : Hid (fr = off % 256 ∧ at_ = off / 256 ∧ dn = D.length ∧ fr + dn ≤ 256) := ⟨hfr, hat, hdn, by omega⟩
  have HS := Lib.hid hsrc
  rw [← hdn] at v18
  have V17 := Lib.hid v17
  have V18 := Lib.hid v18
  clear v17 v18 hdir hfr hat hdn hfit hbig hsrc hs
  go_enter Try.func49, Try.ntmps49
  go_wp2_with fail
  rw [← hw1]
  clear hw1
  go_region_held3 (fun w' => w'.cell? ⟨w.heap.size, 17, none⟩ = some (Value.int .u64 off) ∧ w'.cell? ⟨w.heap.size, 18, none⟩ = some (Value.slice (some da) dn dc)) (first | exact ⟨c17, c18⟩) (first | fail)
  rename_i hh
  clear hh
  go_wp2_with (first | (go_at_call 66; refine ISD.out.mono ?_; rintro e w3 ⟨rfl, rfl⟩) | (at_lookup; refine wpList_look _ nK rfl _ _ 103 rfl 133 Try.underlying103 (zero_bk _) M1.out.drew rfl at_ hatl rfl ?_; rw [hlk]) | (refine wpList_store_row rfl 133 _ _ rfl w1.heap.size rfl 133 (b8 z256) (b8 L) rfl (Bx.made w1.drew 133 (b8 z256)) (by rw [b8_size, HL.out]; exact size_bk) (by rw [b8_size, b8_size, HL.out]; rfl) (b8_one L) ?_; intro w4 hA4 k4))
  have S1' := S1.out
  have k4' : Kept [w1.heap.size] (w1.alloc (.cells (b8 z256) 133)) w4 := ⟨k4.os, k4.tape, k4.output, k4.size, k4.block⟩
  have K4 : Hid (Kept [] w w4) := (K1.out.alloc _).trans k4' (fun i hi => by rw [List.mem_singleton] at hi; exact Or.inr (by omega))
  have A4 : Hid (Bx w4 w1.heap.size 133 (b8 L)) := hA4
  have N4 : Hid (NdAt w4 b d lk ks m) := hn.kept K4.out (by simp)
  have M4 : Hid (Mp nK w4 m nn (fun i => (g i).map blkV)) := hm.kept K4.out (by simp)
  have kk : Kept [w1.heap.size] w1 w4 := ((Kept.refl [w1.heap.size] w1).alloc _).trans k4' (fun i hi => Or.inl hi)
  have B4 : Hid (Bx w4 w.heap.size 55 V) := B0.out.kept kk (fun h => by rw [List.mem_singleton] at h; omega)
  have src4 : Hid (∀ j u, (b8 D).toList[j]? = some u → w4.cell? (da.add j) = some u) := fun j u hj => (World.cell?_of_block (K4.out.block _ (by have e : (da.add j).block = da.block := (by unfold Addr.add; split <;> rfl); rw [e]; exact hda) (by simp))).trans (HS.out j u hj)
  clear hA4 k4 k4' kk c16 c17 c18
  have c18 := B4.out.cell 18 V18.out
  have f1 : (0 : Int) ≤ (fr : Int) := by omega
  have f2 : (fr : Int) ≤ 256 := by have := HF.out; omega
  have f3 : ¬ 256 = fr := by have := HF.out; omega
  have SA : Hid (w.heap.size < w1.heap.size) := by show _ < _; omega
  clear S1'
  have CPY : Hid ((b8 D).toList.length = Nat.min dn (256 - fr) ∧ fr + (b8 D).toList.length ≤ (b8 L).toList.length ∧ (∀ v ∈ (b8 D).toList, v.oneCell' = true)) := by
    have h1 := HF.out
    have h2 := HL.out
    have h3 : (b8 D).toList.length = D.length := by simp [b8]
    have h4 : (b8 L).toList.length = L.length := by simp [b8]
    exact ⟨by rw [h3, show Nat.min dn (256 - fr) = dn from Nat.min_eq_left (by omega)]; omega, by omega, fun v hv => (Array.all_eq_true_iff_forall_mem.1 (b8_one D)) v (by simpa using hv)⟩
  go_region_law (first | (refine step_copy_kept _ rfl _ _ 53 53 rfl 5 Try.underlying53 info_u8 (some ⟨w1.heap.size, fr, none⟩) (some da) (256 - fr) (256 - fr) dn dc rfl rfl w1.heap.size fr (b8 L).toList 133 A4.out (b8 D).toList CPY.out.1 (fun _ => ⟨rfl, da, rfl, src4.out⟩) CPY.out.2.1 CPY.out.2.2 ?_; intro w5 hA5 k5))
  obtain ⟨L5, hL5⟩ : ∃ L5, L5 = over8 L fr D := ⟨_, rfl⟩
  have l5 : Hid (L5.length = 256) := by show _ = _; rw [hL5, over8_length]; exact HL.out; have := HF.out; have := HL.out; omega
  have A5 : Hid (Bx w5 w1.heap.size 133 (b8 L5)) := by have h := hA5.out; rw [over8_eq, ← hL5] at h; exact h
  have HL5 := Lib.hid hL5
  clear hL5 hA5
  have N5 : Hid (NdAt w5 b d lk ks m) := (Bx.drew N4.out).kept k5 (fun h => by rw [List.mem_singleton] at h; have := SA.out; omega)
  have M5 : Hid (Mp nK w5 m nn (fun i => (g i).map blkV)) := M4.out.drew.kept k5 (fun h => by rw [List.mem_singleton] at h; have := hm.lt; have := SA.out; omega)
  have B5 : Hid (Bx w5 w.heap.size 55 V) := (Bx.drew B4.out).kept k5 (fun h => by rw [List.mem_singleton] at h; have := SA.out; omega)
  have K5 : Hid (Kept [] w w5) := K4.out.drew.trans k5 (fun i hi => by rw [List.mem_singleton] at hi; have := SA.out; exact Or.inr (by omega))
  obtain ⟨w6, hU, M6', k6, s6⟩ := M5.out.drew.update Try.underlying103 (x := at_) hatl (.agg (b8 L5))
  have hU2 : (Instr.mapUpdate 103 (.map (some m)) (.int .u64 at_) (.agg (b8 L5))).run Try.prog w5.drew = .ok () w6 := hU
  have M6 := Lib.hid M6'
  have hmb : Hid (m ≠ b) := fun e => hm.ne hn e
  have hmA : Hid (m ≠ w1.heap.size) := fun e => by have := hm.lt; have := SA.out; omega
  have N6 : Hid (NdAt w6 b d lk ks m) := (Bx.drew N5.out).kept k6 (fun h => by rw [List.mem_singleton] at h; exact hmb.out h.symm)
  have A6 : Hid (Bx w6 w1.heap.size 133 (b8 L5)) := (Bx.drew A5.out).kept k6 (fun h => by rw [List.mem_singleton] at h; exact hmA.out h.symm)
  have B6 : Hid (Bx w6 w.heap.size 55 V) := (Bx.drew B5.out).kept k6 (fun h => by rw [List.mem_singleton] at h; have := hm.lt; omega)
  have K6 : Hid (Kept [m] w w6) := (K5.out.drew.mono (fun i hi => by cases hi)).trans k6 (fun i hi => Or.inl hi)
  have SLb : Hid (∀ w', NdAt w' b d lk ks m → Bx w' w1.heap.size 133 (b8 L5) → w'.cell? ⟨b, 16, none⟩ = some (Value.map (some m)) ∧ w'.rangeAt w1.heap.size 0 (b8 L5).toList) := fun w' h1 h2 => ⟨h1.cell 16 rfl, fun j v hj => by rw [Nat.zero_add]; exact h2.cell j (by simpa using hj)⟩
  have i1 : Try.prog.underlying 133 = some (.array 256 5) := Try.underlying133
  have i2 : (Try.prog.info? 133).map (·.size) = some (b8 L5).toList.length := by rw [Array.length_toList, b8_size, l5.out]; exact size_bk
  have i3 : (b8 L5).toList.length = 256 := by rw [Array.length_toList, b8_size, l5.out]
  have i4 : ∀ v ∈ (b8 L5).toList, v.oneCell' = true := fun v hv => (Array.all_eq_true_iff_forall_mem.1 (b8_one L5)) v (by simpa using hv)
  have q6 : IntKind.u64.wrap ((off : Int) + dn) = ((off + dn : Nat) : Int) := u64_add off dn (by omega)
  clear hU M6' k5 k6 c18 src4 CPY f1 f2 f3
  go_wp2_with fail
  go_region_held3 (fun w' => w'.cell? ⟨b, 16, none⟩ = some (Value.map (some m)) ∧ w'.rangeAt w1.heap.size 0 (b8 L5).toList) (first | exact SLb.out _ (Bx.drew N5.out) (Bx.drew A5.out) | exact SLb.out _ N6.out A6.out) (first | fail)
  rename_i hh
  clear hh hU2 i1 i2 i3 i4
  have n12 := N6.out.cell 12 (v := .int .u64 d.length) rfl
  have b17 := B6.out.cell 17 V17.out
  have fz6 := N6.out.frozen
  go_wp2_with fail
  go_region
  all_goals
    go_wp2_with fail
    go_ret
    have e12 : ((max d.length (off + dn) : Nat) : Int) = max (d.length : Int) ((off : Int) + dn) := by omega
    have N7 : NdAt (w6.setCell ⟨b, 12, none⟩ (.int .u64 (max (d.length : Int) ((off : Int) + dn)))).drew b { d with length := max d.length (off + D.length) } lk ks m := by
      have h := Bx.set N6.out 12 (.int .u64 (max (d.length : Int) ((off : Int) + dn)))
      rw [← e12] at h ⊢
      rw [← HF.out.2.2.1]
      exact h
    refine ⟨rfl, N7, ?_, ?_⟩
    · have h := M6.out.setCell (a := ⟨b, 12, none⟩) (fun e => hmb.out e.symm) (.int .u64 (max (d.length : Int) ((off : Int) + dn)))
      have e5 : L5 = over8 ((g (off / 256)).getD z256) (off % 256) D := by rw [HL5.out, HLg.out, HF.out.1, HF.out.2.1]
      rw [HF.out.2.1] at h
      rw [e5] at h
      have e6 : ((g (off / 256)).map blkV).isSome = (g (off / 256)).isSome := by cases g (off / 256) <;> rfl
      rw [e6, ← HNN.out] at h
      exact h
    · exact ((K6.out.mono (fun i hi => Or.inl (by rw [List.mem_singleton] at hi; simp [hi]))).setCell (p := ⟨b, 12, none⟩) (Or.inl (by simp)) _).drew
set_option maxRecDepth 100000 in
set_option maxHeartbeats 8000000 in
theorem bytes_84 (w : World) (b : Nat) (d : Is) (lk : Int) (ks : Value) (m nn : Nat) (g : Nat → Option (List UInt8)) (V : Array Value) (off : Nat) (da : Addr) (D : List UInt8) (dc : Nat) (hs : V.size = 20) (v17 : V[17]? = some (.int .u64 off)) (v18 : V[18]? = some (.slice (some da) D.length dc))
    (hn : NdAt w b d lk ks m) (hm : Mp nK w m nn (fun i => (g i).map blkV)) (hg : ∀ i l, g i = some l → l.length = 256) (hsrc : ∀ j u, (b8 D).toList[j]? = some u → w.cell? (da.add j) = some u) (hda : da.block < w.heap.size)
    (hdir : isDirM d.mode = false) (hD : 0 < D.length) (hfit : 256 - off % 256 < D.length) (hD2 : D.length < 1000000000) (hoff : off < 1000000000) :
    Calls Try.prog 49 #[.pointer (some ⟨b, 0, none⟩), .agg V] w fun e w' => e = .returned (.int .i64 84) ∧ Kept [] w w' := by
  obtain ⟨w1, hw1⟩ : ∃ w1, w1 = w.alloc (.cells V 55) := ⟨_, rfl⟩
  have B0 : Hid (Bx w1 w.heap.size 55 V) := by rw [hw1]; exact Bx.made _ _ _
  have N1 : Hid (NdAt w1 b d lk ks m) := by rw [hw1]; exact Bx.alloc hn _
  have M1 : Hid (Mp nK w1 m nn (fun i => (g i).map blkV)) := by rw [hw1]; exact hm.alloc _
  have K1 : Hid (Kept [] w w1) := by rw [hw1]; exact (Kept.refl _ w).alloc _
  have S1 : Hid (w1.heap.size = w.heap.size + 1) := by rw [hw1]; exact World.size_alloc _ _
  have hbl := hn.lt
  have c17 := B0.out.cell 17 v17
  have c18 := B0.out.cell 18 v18
  obtain ⟨at_, hat⟩ : ∃ a, a = off / 256 := ⟨_, rfl⟩
  obtain ⟨fr, hfr⟩ : ∃ a, a = off % 256 := ⟨_, rfl⟩
  obtain ⟨dn, hdn⟩ : ∃ a, a = D.length := ⟨_, rfl⟩
  have q1 : IntKind.u64.wrap ((off : Int) / 256) = (at_ : Int) := by rcases u64_div off with h | h; rw [hat]; exact h; omega
  have q2 : (off : Int).tmod 256 = (fr : Int) := by rw [hfr]; exact tmod_nat off
  have q3 : IntKind.u64.wrap (dn : Int) = (dn : Int) := u64_id dn (by omega)
  have q4 : IntKind.u64.wrap ((256 : Int) - fr) = ((256 - fr : Nat) : Int) := u64_sub 256 fr (by omega) (by decide)
  have t1 : ((dn : Int) == 0) = false := by rw [beq_eq_false_iff_ne]; omega
  have t2 : 256 - fr < dn := by omega
  have t4 : ¬ dn = 0 := by omega
  have ISD := Lib.hid (isDir_any w1.drew b d lk ks m N1.out)
  rw [hdir] at ISD
  rw [← hdn] at c18
  have HS := Lib.hid hsrc
  rw [← hdn] at v18
  have V17 := Lib.hid v17
  have V18 := Lib.hid v18
  clear v17 v18 hdir hfr hat hdn hfit hsrc hs
  go_enter Try.func49, Try.ntmps49
  go_wp2_with fail
  rw [← hw1]
  clear hw1
  go_region_held3 (fun w' => w'.cell? ⟨w.heap.size, 17, none⟩ = some (Value.int .u64 off) ∧ w'.cell? ⟨w.heap.size, 18, none⟩ = some (Value.slice (some da) dn dc)) (first | exact ⟨c17, c18⟩) (first | fail)
  rename_i hh
  clear hh
  go_wp2_with (first | (go_at_call 66; refine ISD.out.mono ?_; rintro e w3 ⟨rfl, rfl⟩))
  go_ret
  exact ⟨rfl, K1.out.drew⟩
end Nd
end Go.Proofs.Ytihkldcdikbinaa
