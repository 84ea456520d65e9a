/- What the law's made does: a frame of its own. -/
import Derived.Test.YtamienlndingnaaFrm
namespace Go.Proofs.Ytamienlndingnaa
set_option linter.unusedVariables false
open Go.RowKit

def lenOf : Value → Nat
  | .slice _ n _ => n
  | _ => 0

theorem RowSrc.take {w : World} {base : Nat} {e : TypeId} {a : Option Addr} {m n c : Nat} {xs : List Value} (h : w.ownsRow base e 1 (.slice a m c) m xs) (h0 : 0 < m) : RowSrc w (.slice a n c) n (xs.take n) := by
  have hc := fun g => h.cells (g := g)
  rcases h.2 with ⟨hv, h1⟩ | ⟨g, cap, cur, hv, _⟩
  · omega
  · cases hv
    exact Or.inr ⟨_, _, rfl, fun j u hu => by
      rw [List.getElem?_take] at hu
      split at hu
      · exact hc g rfl j u hu
      · cases hu⟩
theorem own_four (w : World) (base : Nat) (e : TypeId) (x0 x1 x2 x3 : Value) (hb : base ≤ w.heap.size) : (w.alloc (.cells #[x0, x1, x2, x3] e)).ownsRow base e 1 (.slice (some ⟨w.heap.size, 0, none⟩) 4 4) 4 [x0, x1, x2, x3] :=
  ⟨rfl, .inr ⟨w.heap.size, 4, #[x0, x1, x2, x3], rfl, hb, heap_alloc_new w _, Nat.le_refl _, by decide, rfl, rfl⟩⟩
theorem made_own {w3 : World} {B n M : Nat} {v' : Value} {l bd : List UInt8} (hbd : body l (M + 4) = bd) (hn : bd.length = n) (hM : n ≤ 65532)
    (h : w3.ownsRow B 5 1 v' (4 + n) ([.int .u8 (((n : Int) + 4) % 256), .int .u8 (((n : Int) + 4) / 256 % 256), .int .u8 (((n : Int) + 4) / 65536), .int .u8 0] ++ bd.map bv)) : Own w3 B v' (frameOf l (M + 4)) := by
  subst hn
  have e1 : (frameOf l (M + 4)).length = 4 + bd.length := by unfold frameOf; rw [hbd]; simp; omega
  have e2 : (frameOf l (M + 4)).map bv = [.int .u8 (((bd.length : Int) + 4) % 256), .int .u8 (((bd.length : Int) + 4) / 256 % 256), .int .u8 (((bd.length : Int) + 4) / 65536), .int .u8 0] ++ bd.map bv := by
    unfold frameOf
    rw [hbd, List.map_append]
    congr 1
    show [bv (UInt8.ofNat _), bv (UInt8.ofNat _), bv (UInt8.ofNat _), bv 0] = _
    unfold bv
    rw [u8_nat, u8_nat, u8_nat]
    have a1 : (((bd.length + 4) % 256 : Nat) : Int) = ((bd.length : Int) + 4) % 256 := by omega
    have a2 : (((bd.length + 4) / 256 % 256 : Nat) : Int) = ((bd.length : Int) + 4) / 256 % 256 := by omega
    have a3 : (((bd.length + 4) / 65536 % 256 : Nat) : Int) = ((bd.length : Int) + 4) / 65536 := by omega
    rw [a1, a2, a3]
    rfl
  unfold Own
  rw [e1, e2]
  exact h

namespace Law
open Cut

set_option maxHeartbeats 1000000 in
set_option maxRecDepth 100000 in
theorem made_any (w : World) (v : Value) (l : List UInt8) (T : List Nat) (x : Int) (M : Nat) (hx : x = (M : Int) + 4) (h7 : 3 ≤ M) (hL : M ≤ 65532) (hl : l.length ≤ 1152921504) (hb : Hid (Src w v l T)) :
    Calls Try.prog 19 #[v, .int .i64 x] w (Fresh w (frameOf l (M + 4))) := by
  subst hx
  obtain ⟨i0, hi, hz0, hz1, hz2⟩ := info_parts info_u8
  obtain ⟨a, c, rfl⟩ := src_slice hb.out
  have hrow := hb.out.rowsrc
  have hrowh := Lib.hid hrow
  clear hrow
  go_enter Try.func19, Try.ntmps19
  go_wp2_with (at_builtin; refine wpList_append_src w rfl (.tmp 8) (.tmp 9) 22 rfl w.heap.size 5 i0 (.int .u8 0) 1 1 Try.underlying22 hi hz0 hz1 hz2 rfl (by decide) (.slice none 0 0) 0 [] rfl (World.ownsRow_nil _ _ _ _) (.slice a l.length c) l.length (l.map bv) rfl hrowh.out (by simp) (by intro u hu; obtain ⟨x, _, rfl⟩ := List.mem_map.1 hu; rfl) (by unfold maxLen; omega) (by omega) (Nat.le_refl _) ?_; intro v1 w1 hown hgrow hat; have R1 : Hid (w1.ownsRow w.heap.size 5 1 v1 l.length (l.map bv)) := (by simpa [Hid] using hown); have R2 : Hid (Kept [] w w1) := (Kept.refl [] w).grown hgrow (by intro k hk; cases hk); clear hown hgrow hat)
  obtain ⟨pd, hpd⟩ : ∃ pd, pd = pad l := ⟨_, rfl⟩
  have HPD := Lib.hid hpd
  have hpl := pad_length l
  rw [← hpd] at hpl
  clear hpd
  go_loopw [5] (fun b0 wr => ∃ (bs : List UInt8) (b : Value), b = b0 ∧ Hid (pad bs = pd) ∧ bs.length ≤ l.length + 3 ∧ Hid (wr.ownsRow w.heap.size 5 1 b bs.length (bs.map bv)) ∧ Hid (Kept [] w wr)) (fun b0 _ => 3 - lenOf b0)
  case atStart => exact ⟨l, _, rfl, HPD.out.symm, by omega, R1, R2⟩
  case round =>
    obtain ⟨bs, b, rfl, hp, hbl, hown, hK⟩ := hrel
    obtain ⟨ba, bc, rfl⟩ := own_slice hown.out
    have hKs := hK.out.size
    by_cases hlt : bs.length < 3
    · have j1 : (bs.length : Int) < 3 := by omega
      have hp2 : Hid (pad (bs ++ [9]) = pd) := (pad_snoc hlt).trans hp.out
      go_wp2_with (at_builtin; refine wpList_append_src (wr.alloc (.cells #[.int .u8 9] 5)) rfl (.tmp 14) (.tmp 15) 22 rfl w.heap.size 5 i0 (.int .u8 0) 1 1 Try.underlying22 hi hz0 hz1 hz2 rfl (by decide) (.slice ba bs.length bc) bs.length (bs.map bv) rfl (hown.out.alloc _) (.slice (some ⟨wr.heap.size, 0, none⟩) 1 1) 1 [.int .u8 9] rfl (Or.inr ⟨_, _, rfl, World.news_of_block (cs := #[.int .u8 9]) (by exact heap_alloc_new wr _)⟩) rfl (by intro u hu; simp at hu; subst hu; rfl) (by unfold maxLen; omega) (by omega) (by simp; omega) ?_; intro v2 w2 hown2 hgrow2 hat2; have R3 : Hid (w2.ownsRow w.heap.size 5 1 v2 (bs ++ [9]).length ((bs ++ [9]).map bv)) := (by simpa [Hid, bv] using hown2); have R4 : Hid (Kept [] w w2) := ((hK.out.alloc _).grown hgrow2 (fun i hi => Or.inr (hown.out.lt i hi).1)); obtain ⟨xa, xc, rfl⟩ := own_slice hown2; clear hown2 hgrow2 hat2)
      go_roundw
      case rel => exact ⟨bs ++ [9], _, rfl, hp2, by simp; omega, R3, R4⟩
      case measure => simp [lenOf]; omega
    · have j1 : ¬ (bs.length : Int) < 3 := by omega
      have hbs : bs = pd := by rw [← hp.out, pad_long (by omega)]
      have HBS := Lib.hid hbs
      have hcap : bs.length ≤ bc := by
        rcases hown.out.2 with ⟨h, h2⟩ | ⟨_, _, _, h, _, _, hc, _⟩
        · omega
        · cases h; exact hc
      clear hbs hp
      by_cases hc : M < bs.length
      · have j2 : (M : Int) < (bs.length : Int) := by omega
        have hsrc : Hid (RowSrc (wr.alloc (.cells #[.int .u8 (((M : Int) + 4) % 256), .int .u8 (((M : Int) + 4) / 256 % 256), .int .u8 (((M : Int) + 4) / 65536), .int .u8 0] 5)) (.slice ba M bc) M ((bs.map bv).take M)) := RowSrc.take (hown.out.alloc _) (by omega)
        have hone : Hid (∀ u ∈ (bs.map bv).take M, u.oneCell' = true) := fun u hu => by obtain ⟨x, _, rfl⟩ := List.mem_map.1 (List.mem_of_mem_take hu); rfl
        have hbd : Hid (body l (M + 4) = bs.take M) := by
          show (pad l).take (M + 4 - 4) = _
          rw [← HPD.out, ← HBS.out]
          rfl
        have hbl2 : (bs.take M).length = M := by rw [List.length_take]; omega
        have hbl3 := Lib.hid hbl2
        clear hbl2
        go_wp2_with (at_builtin; refine wpList_append_src (wr.alloc (.cells #[.int .u8 (((M : Int) + 4) % 256), .int .u8 (((M : Int) + 4) / 256 % 256), .int .u8 (((M : Int) + 4) / 65536), .int .u8 0] 5)) rfl (.tmp 38) (.tmp 39) 22 rfl w.heap.size 5 i0 (.int .u8 0) 1 1 Try.underlying22 hi hz0 hz1 hz2 rfl (by decide) (.slice (some ⟨wr.heap.size, 0, none⟩) 4 4) 4 _ rfl (own_four wr w.heap.size _ _ _ _ _ hKs) (.slice ba M bc) M ((bs.map bv).take M) rfl hsrc.out (by simp <;> omega) hone.out (by unfold maxLen; omega) (by omega) (by simp; omega) ?_; intro v3 w3 hown3 hgrow3 hat3; have Q1 : Hid (Own w3 w.heap.size v3 (frameOf l (M + 4))) := made_own (n := M) hbd.out hbl3.out (by omega) (by rw [List.map_take]; exact hown3); have Q2 : Hid (Kept [] w w3) := ((hK.out.alloc _).grown hgrow3 (fun i hi => Or.inr (by simp [Value.ownBlock] at hi; omega))); clear hown3 hgrow3 hat3)
        go_ret
        exact ⟨_, rfl, Q1, Q2.out⟩
      · have j2 : ¬ (M : Int) < (bs.length : Int) := by omega
        have hsrc : Hid (RowSrc (wr.alloc (.cells #[.int .u8 (((bs.length : Int) + 4) % 256), .int .u8 (((bs.length : Int) + 4) / 256 % 256), .int .u8 (((bs.length : Int) + 4) / 65536), .int .u8 0] 5)) (.slice ba bs.length bc) bs.length ((bs.map bv).take bs.length)) := RowSrc.take (hown.out.alloc _) (by omega)
        have hone : Hid (∀ u ∈ (bs.map bv).take bs.length, u.oneCell' = true) := fun u hu => by obtain ⟨x, _, rfl⟩ := List.mem_map.1 (List.mem_of_mem_take hu); rfl
        have hbd : Hid (body l (M + 4) = bs.take bs.length) := by
          show (pad l).take (M + 4 - 4) = _
          rw [← HPD.out, ← HBS.out]
          rw [List.take_of_length_le (by omega), List.take_of_length_le (Nat.le_refl _)]
        have hbl2 : (bs.take bs.length).length = bs.length := by rw [List.length_take]; omega
        have hbl3 := Lib.hid hbl2
        clear hbl2
        go_wp2_with (at_builtin; refine wpList_append_src (wr.alloc (.cells #[.int .u8 (((bs.length : Int) + 4) % 256), .int .u8 (((bs.length : Int) + 4) / 256 % 256), .int .u8 (((bs.length : Int) + 4) / 65536), .int .u8 0] 5)) rfl (.tmp 38) (.tmp 39) 22 rfl w.heap.size 5 i0 (.int .u8 0) 1 1 Try.underlying22 hi hz0 hz1 hz2 rfl (by decide) (.slice (some ⟨wr.heap.size, 0, none⟩) 4 4) 4 _ rfl (own_four wr w.heap.size _ _ _ _ _ hKs) (.slice ba bs.length bc) bs.length ((bs.map bv).take bs.length) rfl hsrc.out (by simp <;> omega) hone.out (by unfold maxLen; omega) (by omega) (by simp; omega) ?_; intro v3 w3 hown3 hgrow3 hat3; have Q1 : Hid (Own w3 w.heap.size v3 (frameOf l (M + 4))) := made_own (n := bs.length) hbd.out hbl3.out (by omega) (by rw [List.map_take]; exact hown3); have Q2 : Hid (Kept [] w w3) := ((hK.out.alloc _).grown hgrow3 (fun i hi => Or.inr (by simp [Value.ownBlock] at hi; omega))); clear hown3 hgrow3 hat3)
        go_ret
        exact ⟨_, rfl, Q1, Q2.out⟩
end Law
end Go.Proofs.Ytamienlndingnaa
