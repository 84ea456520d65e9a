/- The reference's writer: Shut and Done. -/
import Derived.Test.YtfdbpbhihccgbaaVop
namespace Go.Proofs.Ytfdbpbhihccgbaa
set_option linter.unusedVariables false
open Go.RowKit
namespace Vrt
open Go.Proofs.Ytfdbpbhihccgbaa.Txt

set_option maxRecDepth 100000 in
theorem shut_wrong (w : World) (p : Nat) (S : List Nat) (st : WS) (x : Int) (he : st.err ≠ 0) (h : Hid (Wr 79 w p S st)) :
    Calls Try.prog 42 #[.pointer (some ⟨p, 0, none⟩), .int .i64 x] w fun e w' => e = .returned (.tuple #[]) ∧ Out 79 w p S st w' := by
  have hE : ((st.err : Int) != 0) = true := by rw [bne_iff_ne]; omega
  have hE2 : ((st.err : Int) == 0) = false := by simp; omega
  obtain ⟨v, u, c0, c1, c2, c3, fz, -⟩ := h.out.parts
  go_enter Try.func42, Try.ntmps42
  go_wp2_with fail
  go_returns
  exact ⟨rfl, S, h, Kept.refl _ _, fun k hk => Or.inl hk⟩

set_option maxRecDepth 100000 in
theorem shut_none (w : World) (p : Nat) (S : List Nat) (st : WS) (x : Int) (hE : ((st.err : Int) != 0) = false) (hE2 : ((st.err : Int) == 0) = true) (h0 : Hid (st.os = [])) (h : Hid (Wr 79 w p S st)) :
    Calls Try.prog 42 #[.pointer (some ⟨p, 0, none⟩), .int .i64 x] w fun e w' => e = .returned (.tuple #[]) ∧ Out 79 w p S { st with err := 1 } w' := by
  have hst := Lib.hid (h.out.fail_store (by decide) (by decide) 1)
  obtain ⟨v, u, c0, c1, c2, c3, fz, hv, hu, hp, hS⟩ := h.out.parts
  obtain ⟨a, c, hsl⟩ := own_slice hu.out
  rw [h0.out] at hsl
  have hsl' : u = .slice a 0 c := hsl
  subst hsl'
  have f3 := fz 3
  clear hsl hv hu hp hS
  go_enter Try.func42, Try.ntmps42
  go_wp2_with fail
  go_returns
  exact ⟨rfl, S, hst.out.1, hst.out.2, fun k hk => Or.inl hk⟩

set_option maxRecDepth 100000 in
theorem shut_other (w : World) (p : Nat) (S : List Nat) (st : WS) (x : Int) (os : List Nat) (q : Nat) (hE : ((st.err : Int) != 0) = false) (hE2 : ((st.err : Int) == 0) = true) (h0 : Hid (st.os = os ++ [q])) (hne : ((q : Int) != x) = true) (hlen : os.length ≤ 16777216) (h : Hid (Wr 79 w p S st)) :
    Calls Try.prog 42 #[.pointer (some ⟨p, 0, none⟩), .int .i64 x] w fun e w' => e = .returned (.tuple #[]) ∧ Out 79 w p S { st with err := 1 } w' := by
  have hst := Lib.hid (h.out.fail_store (by decide) (by decide) 1)
  obtain ⟨v, u, c0, c1, c2, c3, fz, hv, hu, hp, hS⟩ := h.out.parts
  obtain ⟨g, c, rfl, hu2, hcell, hcap⟩ := Wrt.last_place (os := os) (q := q) (by rw [h0.out]) (by rw [h0.out]) hu.out
  have f3 := fz 3
  clear hv hu hp hS hu2
  go_enter Try.func42, Try.ntmps42
  go_wp2_with fail
  go_returns
  exact ⟨rfl, S, hst.out.1, hst.out.2, fun k hk => Or.inl hk⟩

set_option maxRecDepth 100000 in
theorem shut_long (w : World) (p : Nat) (S : List Nat) (st : WS) (os : List Nat) (q : Nat) (hE : ((st.err : Int) != 0) = false) (hE2 : ((st.err : Int) == 0) = true) (h0 : Hid (st.os = os ++ [q])) (hlen : os.length ≤ 16777216) (hbs : st.bs.length ≤ 16777216) (hq : q + 2 ≤ st.bs.length)
    (hl : (65535 : Int) < (st.bs.length : Int) - q - 2) (h : Hid (Wr 79 w p S st)) :
    Calls Try.prog 42 #[.pointer (some ⟨p, 0, none⟩), .int .i64 q] w fun e w' => e = .returned (.tuple #[]) ∧ Out 79 w p S { st with err := 13 } w' := by
  have hst := Lib.hid (h.out.fail_store (by decide) (by decide) 13)
  obtain ⟨v, u, c0, c1, c2, c3, fz, hv, hu, hp, hS⟩ := h.out.parts
  obtain ⟨g, c, rfl, hu2, hcell, hcap⟩ := Wrt.last_place (os := os) (q := q) (by rw [h0.out]) (by rw [h0.out]) hu.out
  obtain ⟨a, cv, rfl⟩ := own_slice hv.out
  have f3 := fz 3
  clear hv hu hp hS hu2
  go_enter Try.func42, Try.ntmps42
  go_wp2_with fail
  go_returns
  exact ⟨rfl, S, hst.out.1, hst.out.2, fun k hk => Or.inl hk⟩

set_option maxHeartbeats 1000000 in
set_option maxRecDepth 100000 in
theorem shut_good (w : World) (p : Nat) (S : List Nat) (st : WS) (os : List Nat) (q n : Nat) (hE : ((st.err : Int) != 0) = false) (hE2 : ((st.err : Int) == 0) = true) (h0 : Hid (st.os = os ++ [q])) (hlen : os.length ≤ 16777216) (hbs : st.bs.length ≤ 16777216)
    (hn : q + 2 + n ≤ st.bs.length) (hn2 : st.bs.length ≤ q + 2 + n) (hl : n ≤ 65535) (h : Hid (Wr 79 w p S st)) :
    Calls Try.prog 42 #[.pointer (some ⟨p, 0, none⟩), .int .i64 q] w fun e w' => e = .returned (.tuple #[]) ∧
      Out 79 w p S { st with bs := (st.bs.set q (UInt8.ofNat n)).set (q + 1) (UInt8.ofNat (n / 256)), os := os } w' := by
  obtain ⟨v, u, c0, c1, c2, c3, fz, hv, hu, hp, hS⟩ := h.out.parts
  obtain ⟨g, c, rfl, hu2, hcell, hcap⟩ := Wrt.last_place (os := os) (q := q) (by rw [h0.out]) (by rw [h0.out]) hu.out
  obtain ⟨gv, cv, rfl, -, -⟩ := hv.out.form (by omega)
  have hu2 := Lib.hid hu2
  have d1 : w.cell? ⟨gv, q, none⟩ = (st.bs.map bv)[q]? := hv.out.cellAt q (by omega)
  have d2 : w.cell? ⟨gv, q + 1, none⟩ = (st.bs.map bv)[q + 1]? := hv.out.cellAt (q + 1) (by omega)
  obtain ⟨x1, e1⟩ : ∃ x, (st.bs.map bv)[q]? = some x := ⟨_, List.getElem?_eq_getElem (by simp; omega)⟩
  obtain ⟨x2, e2⟩ : ∃ x, (st.bs.map bv)[q + 1]? = some x := ⟨_, List.getElem?_eq_getElem (by simp; omega)⟩
  rw [e1] at d1
  rw [e2] at d2
  have fv := fun i => hv.out.frozenAt i
  have hgp : gv ≠ p := own_ne hv.out hp.out (by decide) gv rfl
  have hgg : gv ≠ g := fun e => own_apart hv.out hu.out (by decide) gv rfl (by rw [e]; rfl)
  have n1 : ∀ x y i, ((w.setCell ⟨gv, q, none⟩ x).setCell ⟨gv, q + 1, none⟩ y).cell? ⟨p, i, none⟩ = w.cell? ⟨p, i, none⟩ := fun x y i =>
    (World.cell?_of_block (w := w.setCell ⟨gv, q, none⟩ x) (Below.heap_setCell _ _ _ _ (Ne.symm hgp))).trans (World.cell?_of_block (w := w) (Below.heap_setCell _ _ _ _ (Ne.symm hgp)))
  have A1 : ∀ x, (w.setCell ⟨gv, q, none⟩ x).cell? ⟨p, 1, none⟩ = some (.slice (some ⟨gv, 0, none⟩) st.bs.length cv) := fun x => (World.cell?_of_block (w := w) (Below.heap_setCell _ _ _ _ (Ne.symm hgp))).trans c1
  have A2 : ∀ x y, ((w.setCell ⟨gv, q, none⟩ x).setCell ⟨gv, q + 1, none⟩ y).cell? ⟨p, 2, none⟩ = some (.slice (some ⟨g, 0, none⟩) (os.length + 1) c) := fun x y => (n1 x y 2).trans c2
  have hl' : (st.bs.length : Int) - q - 2 ≤ 65535 := by omega
  have j1 : ((q : Int) + 1).toNat = q + 1 := by omega
  have hgg' := hgg
  clear e1 e2 n1 hgg
  go_enter Try.func42, Try.ntmps42
  go_wp2_with fail
  go_end0
  refine ⟨rfl, S, ?_, ?_, fun k hk => Or.inl hk⟩
  · have v1 : Value.int IntKind.u8 (((st.bs.length : Int) - q - 2) % 256) = bv (UInt8.ofNat n) := by unfold bv; congr 1; simp; omega
    have v2 : Value.int IntKind.u8 (((st.bs.length : Int) - q - 2) / 256) = bv (UInt8.ofNat (n / 256)) := by unfold bv; congr 1; simp; omega
    rw [v1, v2]
    have r1 := (hv.out.stored q (bv (UInt8.ofNat n))).1
    have r2 := (r1.stored (q + 1) (bv (UInt8.ofNat (n / 256)))).1
    have hk2 : Kept [gv] w ((w.setCell ⟨gv, q, none⟩ (bv (UInt8.ofNat n))).setCell ⟨gv, q + 1, none⟩ (bv (UInt8.ofNat (n / 256)))) := ((Kept.refl _ _).setCell (Or.inl (by simp)) _).setCell (Or.inl (by simp)) _
    have hp2 : ((w.setCell ⟨gv, q, none⟩ (bv (UInt8.ofNat n))).setCell ⟨gv, q + 1, none⟩ (bv (UInt8.ofNat (n / 256)))).heap[p]? = some (.cells #[.int .i64 st.lim, .slice (some ⟨gv, 0, none⟩) st.bs.length cv, .slice (some ⟨g, 0, none⟩) (os.length + 1) c, .int .i64 st.err] 79 (0, 0)) := by
      rw [hk2.block p (block_lt hp.out) (by simpa using Ne.symm hgp)]; exact hp.out
    have hu3 := ownsRow_pop (by simp) (own_kept hu2.out hk2 (fun k hk hm => by simp [Value.ownBlock] at hk hm; exact hgg' (by omega)))
    refine ⟨_, _, by rw [heap_set _ hp2]; rfl, ?_, ?_, by rw [hS.out]; rfl⟩
    · have e : ((st.bs.set q (UInt8.ofNat n)).set (q + 1) (UInt8.ofNat (n / 256))).map bv = (((st.bs.map bv).set q (bv (UInt8.ofNat n))).set (q + 1) (bv (UInt8.ofNat (n / 256)))) := by rw [List.map_set, List.map_set]
      have e2 : ((st.bs.set q (UInt8.ofNat n)).set (q + 1) (UInt8.ofNat (n / 256))).length = st.bs.length := by simp
      show World.ownsRow _ 0 5 1 _ ((st.bs.set q (UInt8.ofNat n)).set (q + 1) (UInt8.ofNat (n / 256))).length _
      rw [e2]
      exact e ▸ own_set r2 hp2 (by decide)
    · exact own_set hu3 hp2 (by decide)
  · exact (((Kept.refl _ _).setCell (Or.inl (by rw [hS.out]; simp [Value.ownBlock])) _).setCell (Or.inl (by rw [hS.out]; simp [Value.ownBlock])) _).setCell (Or.inl (by rw [hS.out]; simp)) _

/-- Shut. -/
theorem shut_any (w : World) (p : Nat) (S : List Nat) (st : WS) (x : Int) (ok : Hid st.Ok) (fit : Hid st.Fit) (h : Hid (Wr 79 w p S st)) :
    Calls Try.prog 42 #[.pointer (some ⟨p, 0, none⟩), .int .i64 x] w fun e w' => e = .returned (.tuple #[]) ∧ Out 79 w p S (st.shut x) w' := by
  have k1 := ok.out.lim
  have k2 := ok.out.bs
  have k3 := ok.out.os
  by_cases he : st.err = 0
  · have hE : ((st.err : Int) != 0) = false := by rw [he]; rfl
    have hE2 : ((st.err : Int) == 0) = true := by rw [he]; rfl
    have hf : ∀ n, st.fail n = { st with err := n } := fun n => by unfold WS.fail; rw [if_pos he]
    rcases List.eq_nil_or_concat st.os with h0 | ⟨os, q, h0⟩
    · have e : st.shut x = { st with err := 1 } := by rw [← hf]; unfold WS.shut; rw [if_neg (by omega), h0]; rfl
      rw [e]
      exact shut_none w p S st x hE hE2 h0 h
    · rw [List.concat_eq_append] at h0
      have hq := fit.out q (by rw [h0]; simp)
      have hos : os.length ≤ 16777216 := by
        have : st.os.length = os.length + 1 := by rw [h0]; simp
        omega
      by_cases hx : (q : Int) = x
      · subst hx
        by_cases hl : 65535 < st.bs.length - q - 2
        · have e : st.shut q = { st with err := 13 } := by
            rw [← hf]
            unfold WS.shut
            rw [if_neg (by omega), h0]
            simp [hl]
          rw [e]
          exact shut_long w p S st os q hE hE2 h0 hos (by omega) hq (by omega) h
        · have e : st.shut q = { st with bs := (st.bs.set q (UInt8.ofNat (st.bs.length - q - 2))).set (q + 1) (UInt8.ofNat ((st.bs.length - q - 2) / 256)), os := os } := by
            unfold WS.shut
            rw [if_neg (by omega), h0]
            simp [hl]
          rw [e]
          exact shut_good w p S st os q (st.bs.length - q - 2) hE hE2 h0 hos (by omega) (by omega) (by omega) (by omega) h
      · have e : st.shut x = { st with err := 1 } := by
          rw [← hf]
          unfold WS.shut
          rw [if_neg (by omega), h0]
          simp [hx]
        rw [e]
        exact shut_other w p S st x os q hE hE2 h0 (by rw [bne_iff_ne]; exact hx) hos h
  · have e : st.shut x = st := by unfold WS.shut; rw [if_pos he]
    rw [e]
    exact shut_wrong w p S st x he h

theorem done_wrong (w : World) (p : Nat) (S : List Nat) (st : WS) (he : st.err ≠ 0) (h : Hid (Wr 79 w p S st)) :
    Calls Try.prog 43 #[.pointer (some ⟨p, 0, none⟩)] w fun e w' => e = .returned (.tuple #[.slice none 0 0, .int .i64 st.err]) ∧ Kept [] w w' := by
  have hE : ((st.err : Int) != 0) = true := by rw [bne_iff_ne]; omega
  have hE2 : ((st.err : Int) == 0) = false := by simp; omega
  obtain ⟨v, u, c0, c1, c2, c3, fz, -⟩ := h.out.parts
  go_enter Try.func43, Try.ntmps43
  go_wp2_with fail
  go_quiet (fail)
  go_wp2_with fail
  go_ret2
  exact ⟨rfl, (Kept.refl _ _).drewN _⟩

theorem done_open (w : World) (p : Nat) (S : List Nat) (st : WS) (he : st.err = 0) (ho : 0 < st.os.length) (h : Hid (Wr 79 w p S st)) :
    Calls Try.prog 43 #[.pointer (some ⟨p, 0, none⟩)] w fun e w' => e = .returned (.tuple #[.slice none 0 0, .int .i64 1]) ∧ Kept [] w w' := by
  have hE : ((st.err : Int) != 0) = false := by rw [he]; rfl
  have hE2 : ((st.err : Int) == 0) = true := by rw [he]; rfl
  obtain ⟨v, u, c0, c1, c2, c3, fz, hv, hu, -⟩ := h.out.parts
  obtain ⟨a, c, rfl⟩ := own_slice hu.out
  have ho' : (0 : Int) < (st.os.length : Int) := by omega
  clear he ho
  go_enter Try.func43, Try.ntmps43
  go_wp2_with fail
  go_ret2
  exact ⟨rfl, Kept.refl _ _⟩

set_option maxRecDepth 100000 in
theorem done_good (w : World) (p : Nat) (S : List Nat) (st : WS) (he : st.err = 0) (ho : st.os = []) (hl : st.bs.length ≤ 16777216) (h : Hid (Wr 79 w p S st)) :
    Calls Try.prog 43 #[.pointer (some ⟨p, 0, none⟩)] w (Wrt.FreshOk w st.bs) := by
  have hE : ((st.err : Int) != 0) = false := by rw [he]; rfl
  have hE2 : ((st.err : Int) == 0) = true := by rw [he]; rfl
  obtain ⟨i0, hi, hz0, hz1, hz2⟩ := info_parts Wrt.info5
  obtain ⟨v, u, c0, c1, c2, c3, fz, hv, hu, -⟩ := h.out.parts
  obtain ⟨a, c, hsl⟩ := own_slice hu.out
  rw [ho] at hsl
  have hsl' : u = .slice a 0 c := hsl
  subst hsl'
  obtain ⟨ba, bc, rfl, hno, hcl⟩ := Src.of_own hv.out
  have Hcl := Lib.hid hcl
  clear he ho hsl hu hcl hv
  cases ba with
  | none =>
    obtain ⟨h0, rfl⟩ := hno rfl
    have hz : st.bs.length = 0 := by rw [h0]; rfl
    rw [hz] at c1
    have H0 := Lib.hid h0
    clear hno h0 hz hl
    go_enter Try.func43, Try.ntmps43
    go_wp2_with (at_builtin; refine wpList_append_own_none rfl (.tmp 20) (.tmp 24) 37 rfl w.heap.size 5 i0 1 Try.underlying37 hi _ _ _ rfl (World.ownsRow_nil _ _ _ _) rfl ?_)
    go_ret2
    exact ⟨_, rfl, by rw [H0.out]; exact World.ownsRow_nil _ _ _ _, Kept.refl _ _⟩
  | some ad =>
    have hcl2 : Hid (∀ j u, (st.bs.map bv)[j]? = some u → w.cell? (ad.add j) = some u) := (Hcl.out ad rfl).2
    clear hno
    go_enter Try.func43, Try.ntmps43
    go_wp2_with (at_builtin; refine wpList_append_own_at _ rfl (.tmp 20) (.tmp 24) 37 rfl w.heap.size 5 i0 (.int .u8 0) 1 1 Try.underlying37 hi hz0 hz1 hz2 rfl (by decide) (.slice none 0 0) 0 [] rfl (World.ownsRow_nil _ _ _ _) ad _ _ (st.bs.map bv) rfl (by simp) hcl2.out (by intro u hu; obtain ⟨x, _, rfl⟩ := List.mem_map.1 hu; rfl) (by unfold maxLen; omega) (by omega) (Nat.le_refl _) ?_; intro v' w2 hown hgrow _ hat; have R1 : Hid (Wrt.Own w2 w.heap.size v' st.bs) := (by simpa [Wrt.Own, Hid] using hown); have R2 : Hid (Kept [] w w2) := (Kept.refl [] w).grown hgrow (by intro k hk; cases hk); clear hown hgrow hat)
    go_ret2
    exact ⟨_, rfl, R1, R2⟩
end Vrt
end Go.Proofs.Ytfdbpbhihccgbaa
