/- What Shut of a writer does. -/
import Derived.Test.YtfdbpbhihccgbaaWop
namespace Go.Proofs.Ytfdbpbhihccgbaa
set_option linter.unusedVariables false
open Go.RowKit
namespace Wrt
open Go.Proofs.Ytfdbpbhihccgbaa.Txt

/-- Shut: a writer that is wrong. -/
theorem shut_wrong (w : World) (p : Nat) (S : List Nat) (st : WS) (x : Int) (he : st.err ≠ 0) (h : Hid (Wr 77 w p S st)) :
    Calls Try.prog 27 #[.pointer (some ⟨p, 0, none⟩), .int .i64 x] w fun e w' => e = .returned (.tuple #[]) ∧ Out 77 w p S st w' := by
  have hE : ((st.err : Int) == 0) = false := by simp; omega
  go_enter Try.func27, Try.ntmps27
  go_wp2_with fail
  refine (right_any _ p S st h).mono ?_
  rintro e w1 ⟨rfl, rfl⟩
  go_wp2_with fail
  go_returns
  exact ⟨rfl, S, h, Kept.refl _ _, fun k hk => Or.inl hk⟩

/-- Shut: no part is open. -/
theorem shut_none (w : World) (p : Nat) (S : List Nat) (st : WS) (x : Int) (he : ((st.err : Int) == 0) = true) (h0 : Hid (st.os = [])) (h : Hid (Wr 77 w p S st)) :
    Calls Try.prog 27 #[.pointer (some ⟨p, 0, none⟩), .int .i64 x] w fun e w' => e = .returned (.tuple #[]) ∧ Out 77 w p S (st.fail 1) w' := by
  obtain ⟨v, u, c0, c1, c2, c3, fz, hv, hu, hp, hS⟩ := h.out.parts
  obtain ⟨a, c, hsl⟩ := own_slice hu.out
  rw [h0.out] at hsl
  have hsl' : u = .slice a 0 c := hsl
  subst hsl'
  clear hsl hv hu hp hS
  go_enter Try.func27, Try.ntmps27
  go_wp2_with fail
  refine (right_any _ p S st h).mono ?_
  rintro e w1 ⟨rfl, rfl⟩
  go_wp2_with fail
  refine (fail_any _ p S st _ 1 rfl h).mono ?_
  rintro e w2 ⟨rfl, hw2, hk2⟩
  go_wp2_with fail
  go_returns
  exact ⟨rfl, S, hw2, hk2, fun k hk => Or.inl hk⟩

/-- The open places' row, its last one apart. -/
theorem last_place {w : World} {u : Value} {os : List Nat} {q n : Nat} {l : List Value} (hl : l = (os ++ [q]).map iv) (hn : n = (os ++ [q]).length) (h : w.ownsRow 0 3 1 u n l) :
    ∃ g c, u = .slice (some ⟨g, 0, none⟩) (os.length + 1) c ∧ w.ownsRow 0 3 1 (.slice (some ⟨g, 0, none⟩) (os.length + 1) c) (os.length + 1) (os.map iv ++ [iv q]) ∧ w.cell? ⟨g, os.length, none⟩ = some (.int .i64 q) ∧ os.length + 1 ≤ c := by
  have e1 : (os ++ [q]).map iv = os.map iv ++ [iv q] := by simp
  have e2 : (os ++ [q]).length = os.length + 1 := by simp
  rw [hl, hn, e1, e2] at h
  rcases h.2 with ⟨_, h0⟩ | ⟨g, cap, cur, hv, _, _, hnc, _⟩
  · omega
  · subst hv
    refine ⟨g, cap, rfl, h, ?_, hnc⟩
    rw [h.cellAt os.length (by omega)]
    simp [iv]

/-- Shut: not the part that was opened last. -/
theorem shut_other (w : World) (p : Nat) (S : List Nat) (st : WS) (x : Int) (os : List Nat) (q : Nat) (he : ((st.err : Int) == 0) = true) (h0 : Hid (st.os = os ++ [q])) (hne : ((q : Int) != x) = true) (hlen : os.length ≤ 16777216) (h : Hid (Wr 77 w p S st)) :
    Calls Try.prog 27 #[.pointer (some ⟨p, 0, none⟩), .int .i64 x] w fun e w' => e = .returned (.tuple #[]) ∧ Out 77 w p S (st.fail 1) w' := by
  obtain ⟨v, u, c0, c1, c2, c3, fz, hv, hu, hp, hS⟩ := h.out.parts
  obtain ⟨g, c, rfl, hu2, hcell, hcap⟩ := last_place (os := os) (q := q) (by rw [h0.out]) (by rw [h0.out]) hu.out
  clear hv hu hp hS hu2
  go_enter Try.func27, Try.ntmps27
  go_wp2_with fail
  refine (right_any _ p S st h).mono ?_
  rintro e w1 ⟨rfl, rfl⟩
  go_wp2_with fail
  refine (fail_any _ p S st _ 1 rfl h).mono ?_
  rintro e w2 ⟨rfl, hw2, hk2⟩
  go_wp2_with fail
  go_returns
  exact ⟨rfl, S, hw2, hk2, fun k hk => Or.inl hk⟩

/-- Shut: too long. -/
theorem shut_long (w : World) (p : Nat) (S : List Nat) (st : WS) (os : List Nat) (q : Nat) (he : ((st.err : Int) == 0) = true) (h0 : Hid (st.os = os ++ [q])) (hlen : os.length ≤ 16777216) (hbs : st.bs.length ≤ 16777216) (hq : q + 2 ≤ st.bs.length)
    (hl : (65535 : Int) < (st.bs.length : Int) - q - 2) (h : Hid (Wr 77 w p S st)) :
    Calls Try.prog 27 #[.pointer (some ⟨p, 0, none⟩), .int .i64 q] w fun e w' => e = .returned (.tuple #[]) ∧ Out 77 w p S (st.fail 13) w' := by
  obtain ⟨v, u, c0, c1, c2, c3, fz, hv, hu, hp, hS⟩ := h.out.parts
  obtain ⟨g, c, rfl, hu2, hcell, hcap⟩ := last_place (os := os) (q := q) (by rw [h0.out]) (by rw [h0.out]) hu.out
  obtain ⟨a, cv, rfl⟩ := own_slice hv.out
  clear hv hu hp hS hu2
  go_enter Try.func27, Try.ntmps27
  go_wp2_with fail
  refine (right_any _ p S st h).mono ?_
  rintro e w1 ⟨rfl, rfl⟩
  go_wp2_with fail
  refine (fail_any _ p S st _ 13 rfl h).mono ?_
  rintro e w2 ⟨rfl, hw2, hk2⟩
  go_wp2_with fail
  go_returns
  exact ⟨rfl, S, hw2, hk2, fun k hk => Or.inl hk⟩

set_option maxHeartbeats 1000000 in
/-- Shut: as it should be. -/
theorem shut_good (w : World) (p : Nat) (S : List Nat) (st : WS) (os : List Nat) (q n : Nat) (he : ((st.err : Int) == 0) = true) (h0 : Hid (st.os = os ++ [q])) (hlen : os.length ≤ 16777216) (hbs : st.bs.length ≤ 16777216)
    (hn : q + 2 + n ≤ st.bs.length) (hn2 : st.bs.length ≤ q + 2 + n) (hl : n ≤ 65535) (h : Hid (Wr 77 w p S st)) :
    Calls Try.prog 27 #[.pointer (some ⟨p, 0, none⟩), .int .i64 q] w fun e w' => e = .returned (.tuple #[]) ∧
      Out 77 w p S { st with bs := (st.bs.set q (UInt8.ofNat n)).set (q + 1) (UInt8.ofNat (n / 256)), os := os } w' := by
  obtain ⟨v, u, c0, c1, c2, c3, fz, hv, hu, hp, hS⟩ := h.out.parts
  obtain ⟨g, c, rfl, hu2, hcell, hcap⟩ := last_place (os := os) (q := q) (by rw [h0.out]) (by rw [h0.out]) hu.out
  obtain ⟨gv, cv, rfl, -, -⟩ := hv.out.form (by omega)
  have hu2 := Lib.hid hu2
  have d1 : w.cell? ⟨gv, q, none⟩ = (st.bs.map bv)[q]? := hv.out.cellAt q (by omega)
  have d2 : w.cell? ⟨gv, q + 1, none⟩ = (st.bs.map bv)[q + 1]? := hv.out.cellAt (q + 1) (by omega)
  obtain ⟨x1, e1⟩ : ∃ x, (st.bs.map bv)[q]? = some x := ⟨_, List.getElem?_eq_getElem (by simp; omega)⟩
  obtain ⟨x2, e2⟩ : ∃ x, (st.bs.map bv)[q + 1]? = some x := ⟨_, List.getElem?_eq_getElem (by simp; omega)⟩
  rw [e1] at d1
  rw [e2] at d2
  have fv := fun i => hv.out.frozenAt i
  have hgp : gv ≠ p := own_ne hv.out hp.out (by decide) gv rfl
  have hgg : gv ≠ g := fun e => own_apart hv.out hu.out (by decide) gv rfl (by rw [e]; rfl)
  have n1 : ∀ x y i, ((w.setCell ⟨gv, q, none⟩ x).setCell ⟨gv, q + 1, none⟩ y).cell? ⟨p, i, none⟩ = w.cell? ⟨p, i, none⟩ := fun x y i =>
    (World.cell?_of_block (w := w.setCell ⟨gv, q, none⟩ x) (Below.heap_setCell _ _ _ _ (Ne.symm hgp))).trans (World.cell?_of_block (w := w) (Below.heap_setCell _ _ _ _ (Ne.symm hgp)))
  have A1 : ∀ x, (w.setCell ⟨gv, q, none⟩ x).cell? ⟨p, 1, none⟩ = some (.slice (some ⟨gv, 0, none⟩) st.bs.length cv) := fun x => (World.cell?_of_block (w := w) (Below.heap_setCell _ _ _ _ (Ne.symm hgp))).trans c1
  have A2 : ∀ x y, ((w.setCell ⟨gv, q, none⟩ x).setCell ⟨gv, q + 1, none⟩ y).cell? ⟨p, 2, none⟩ = some (.slice (some ⟨g, 0, none⟩) (os.length + 1) c) := fun x y => (n1 x y 2).trans c2
  have hl' : (st.bs.length : Int) - q - 2 ≤ 65535 := by omega
  have j1 : ((q : Int) + 1).toNat = q + 1 := by omega
  have hgg' := hgg
  clear e1 e2 n1 hgg
  go_enter Try.func27, Try.ntmps27
  go_wp2_with fail
  refine (right_any _ p S st h).mono ?_
  rintro e w1 ⟨rfl, rfl⟩
  go_wp2_with fail
  go_end0
  refine ⟨rfl, S, ?_, ?_, fun k hk => Or.inl hk⟩
  · have v1 : Value.int IntKind.u8 (((st.bs.length : Int) - q - 2) % 256) = bv (UInt8.ofNat n) := by unfold bv; congr 1; simp; omega
    have v2 : Value.int IntKind.u8 (((st.bs.length : Int) - q - 2) / 256) = bv (UInt8.ofNat (n / 256)) := by unfold bv; congr 1; simp; omega
    rw [v1, v2]
    have r1 := (hv.out.stored q (bv (UInt8.ofNat n))).1
    have r2 := (r1.stored (q + 1) (bv (UInt8.ofNat (n / 256)))).1
    have hk2 : Kept [gv] w ((w.setCell ⟨gv, q, none⟩ (bv (UInt8.ofNat n))).setCell ⟨gv, q + 1, none⟩ (bv (UInt8.ofNat (n / 256)))) := ((Kept.refl _ _).setCell (Or.inl (by simp)) _).setCell (Or.inl (by simp)) _
    have hp2 : ((w.setCell ⟨gv, q, none⟩ (bv (UInt8.ofNat n))).setCell ⟨gv, q + 1, none⟩ (bv (UInt8.ofNat (n / 256)))).heap[p]? = some (.cells #[.int .i64 st.lim, .slice (some ⟨gv, 0, none⟩) st.bs.length cv, .slice (some ⟨g, 0, none⟩) (os.length + 1) c, .int .i64 st.err] 77 (0, 0)) := by
      rw [hk2.block p (block_lt hp.out) (by simpa using Ne.symm hgp)]; exact hp.out
    have hu3 := ownsRow_pop (by simp) (own_kept hu2.out hk2 (fun k hk hm => by simp [Value.ownBlock] at hk hm; exact hgg' (by omega)))
    refine ⟨_, _, by rw [heap_set _ hp2]; rfl, ?_, ?_, by rw [hS.out]; rfl⟩
    · have e : ((st.bs.set q (UInt8.ofNat n)).set (q + 1) (UInt8.ofNat (n / 256))).map bv = (((st.bs.map bv).set q (bv (UInt8.ofNat n))).set (q + 1) (bv (UInt8.ofNat (n / 256)))) := by rw [List.map_set, List.map_set]
      have e2 : ((st.bs.set q (UInt8.ofNat n)).set (q + 1) (UInt8.ofNat (n / 256))).length = st.bs.length := by simp
      show World.ownsRow _ 0 5 1 _ ((st.bs.set q (UInt8.ofNat n)).set (q + 1) (UInt8.ofNat (n / 256))).length _
      rw [e2]
      exact e ▸ own_set r2 hp2 (by decide)
    · exact own_set hu3 hp2 (by decide)
  · exact (((Kept.refl _ _).setCell (Or.inl (by rw [hS.out]; simp [Value.ownBlock])) _).setCell (Or.inl (by rw [hS.out]; simp [Value.ownBlock])) _).setCell (Or.inl (by rw [hS.out]; simp)) _

/-- Shut. -/
theorem shut_any (w : World) (p : Nat) (S : List Nat) (st : WS) (x : Int) (ok : Hid st.Ok) (fit : Hid st.Fit) (h : Hid (Wr 77 w p S st)) :
    Calls Try.prog 27 #[.pointer (some ⟨p, 0, none⟩), .int .i64 x] w fun e w' => e = .returned (.tuple #[]) ∧ Out 77 w p S (st.shut x) w' := by
  have k1 := ok.out.lim
  have k2 := ok.out.bs
  have k3 := ok.out.os
  by_cases he : st.err = 0
  · have hE : ((st.err : Int) == 0) = true := by rw [he]; rfl
    rcases List.eq_nil_or_concat st.os with h0 | ⟨os, q, h0⟩
    · have e : st.shut x = st.fail 1 := by unfold WS.shut; rw [if_neg (by omega), h0]; rfl
      rw [e]
      exact shut_none w p S st x hE h0 h
    · rw [List.concat_eq_append] at h0
      have hq := fit.out q (by rw [h0]; simp)
      have hos : os.length ≤ 16777216 := by
        have : st.os.length = os.length + 1 := by rw [h0]; simp
        omega
      by_cases hx : (q : Int) = x
      · subst hx
        by_cases hl : 65535 < st.bs.length - q - 2
        · have e : st.shut q = st.fail 13 := by
            unfold WS.shut
            rw [if_neg (by omega), h0]
            simp [hl]
          rw [e]
          exact shut_long w p S st os q hE h0 hos (by omega) hq (by omega) h
        · have e : st.shut q = { st with bs := (st.bs.set q (UInt8.ofNat (st.bs.length - q - 2))).set (q + 1) (UInt8.ofNat ((st.bs.length - q - 2) / 256)), os := os } := by
            unfold WS.shut
            rw [if_neg (by omega), h0]
            simp [hl]
          rw [e]
          exact shut_good w p S st os q (st.bs.length - q - 2) hE h0 hos (by omega) (by omega) (by omega) (by omega) h
      · have e : st.shut x = st.fail 1 := by
          unfold WS.shut
          rw [if_neg (by omega), h0]
          simp [hx]
        rw [e]
        exact shut_other w p S st x os q hE h0 (by rw [bne_iff_ne]; exact hx) hos h
  · have e : st.shut x = st := by unfold WS.shut; rw [if_pos he]
    rw [e]
    exact shut_wrong w p S st x he h
end Wrt
end Go.Proofs.Ytfdbpbhihccgbaa
