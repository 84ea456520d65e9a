/- tags: the law's pick, taken, ahead. -/
import Derived.Test.YtjogpafbiackbaaTla
namespace Go.Proofs.Ytjogpafbiackbaa
set_option linter.unusedVariables false
open Go.RowKit Go.Shelf
namespace Tg
open Go.Proofs.Ytjogpafbiackbaa.Mpf Go.PlainAid
section
variable {D : Nat} {w : World} {R p : Nat} {L : LS} {T : TS}
set_option maxRecDepth 100000 in
theorem pick_any (w : World) (c : Int) (hc : -9223372036854775808 ≤ c ∧ c ≤ 9223372036854775807) (n : Nat) (hn : 0 < n) (hn2 : n < 4294967296) :
    Calls Try.prog 19 #[.int .i64 c, .int .i64 n] w fun e w' => ∃ z : Nat, e = .returned (.int .i64 z) ∧ z < n ∧ w = w' := by
  have key : ∀ d : Int, 0 ≤ d → ∃ z : Nat, d.tmod (n : Int) = (z : Int) ∧ z < n := fun d hd => by
    rw [Int.tmod_eq_emod_of_nonneg hd]
    have h1 := Int.emod_nonneg d (show (n : Int) ≠ 0 by omega)
    have h2 := Int.emod_lt_of_pos d (show (0 : Int) < (n : Int) by omega)
    exact ⟨(d % (n : Int)).toNat, by omega, by omega⟩
  have dn : ¬ (n : Int) = 0 := by omega
  have dn' : ((n : Int) == 0) = false := by simp; omega
  obtain ⟨h1, h2⟩ := hc
  by_cases q : c < 0
  · obtain ⟨z, e1, e2⟩ := key (-(c + 1)) (by omega)
    have w1 : IntKind.i64.wrap (c + 1) = c + 1 := IntWalk.i64_in _ (by omega)
    have w2 : IntKind.i64.wrap (-(c + 1)) = -(c + 1) := IntWalk.i64_in _ (by omega)
    have w3 : IntKind.i64.wrap (z : Int) = (z : Int) := IntWalk.i64_in _ (by omega)
    clear key
    go_enter Try.func19, Try.ntmps19
    go_wp2_with fail
    go_ret
    exact ⟨z, rfl, e2, rfl⟩
  · obtain ⟨z, e1, e2⟩ := key c (by omega)
    have w3 : IntKind.i64.wrap (z : Int) = (z : Int) := IntWalk.i64_in _ (by omega)
    clear key
    go_enter Try.func19, Try.ntmps19
    go_wp2_with fail
    go_ret
    exact ⟨z, rfl, e2, rfl⟩
def cntG (T : TS) (i : Nat) : Nat := (List.range i).countP (fun t => (T.G t).isSome)
theorem cntG_succ (T : TS) (i : Nat) : cntG T (i + 1) = cntG T i + (if (T.G i).isSome = true then 1 else 0) := by
  unfold cntG
  rw [List.range_succ, List.countP_append]
  simp [List.countP_cons]
theorem cntG_le (T : TS) (i : Nat) : cntG T i ≤ i := by
  unfold cntG
  have := List.countP_le_length (p := fun t => (T.G t).isSome) (l := List.range i)
  simpa using this
set_option maxHeartbeats 4000000 in
set_option maxRecDepth 100000 in
theorem taken_any (hlw : LW D w R p L) (I : Inv none T L.l.length (fun k => L.l[k]?) (fun t => L.hs[t]?) L.said) :
    Calls Try.prog 37 #[.pointer (some ⟨R, 0, none⟩)] w fun e w' => e = .returned (.int .i64 T.nG) ∧ w = w' := by
  have hm := I.hm
  have hcnt := I.cnt
  obtain ⟨gl, cl, gh, ch, hl⟩ := hlw
  have c2 := hl.box.cell 2 (v := .slice (some ⟨gh, 0, none⟩) 16 ch) rfl
  have HC : Hid (∀ i, i < 16 → ∃ z : Int, w.cell? ⟨gh, i, none⟩ = some (.int .i64 z) ∧ (0 ≤ z ↔ (T.G i).isSome = true)) := fun i hi => by
    refine ⟨_, (hl.hold (hm i hi)).1, ?_⟩
    cases q : T.G i with
    | none => simp
    | some id =>
      obtain ⟨r, h1, -⟩ := I.gm i id q
      have := I.rn h1
      simp
      omega
  have HN : Hid (T.nG = cntG T 16) := hcnt.symm
  clear hm hcnt hl I
  go_enter Try.func37, Try.ntmps37
  go_wp2_with fail
  go_loopw [3, 4] (fun nv iv wr => ∃ i n : Nat, nv = .int .i64 (n : Nat) ∧ iv = .int .i64 (i : Nat) ∧ i ≤ 16 ∧ Hid (n = cntG T i) ∧ w = wr) (fun _ iv _ => 16 - (intOf iv).toNat)
  case atStart => exact ⟨0, 0, rfl, rfl, by omega, rfl, rfl⟩
  case round =>
    obtain ⟨i, n, rfl, rfl, hi, hn, rfl⟩ := hrel
    by_cases hlt : i < 16
    · obtain ⟨z, cz, hz⟩ := HC.out i hlt
      have hle := cntG_le T i
      have hn2 : n ≤ 16 := by rw [hn.out]; omega
      have HS : Hid (cntG T (i + 1) = cntG T i + (if (T.G i).isSome = true then 1 else 0)) := cntG_succ T i
      have j1 : (i : Int) < 16 := by omega
      have j0 : (0 : Int) ≤ (i : Int) := by omega
      by_cases q : (0 : Int) ≤ z
      · have q2 : z ≥ 0 := q
        have F : Hid (n + 1 = cntG T (i + 1)) := by
          have := HS.out
          rw [if_pos (hz.1 q)] at this
          show _ = _
          rw [this, ← hn.out]
        clear hz HC hle
        go_wp2_with fail
        go_roundw
        case rel => exact ⟨i + 1, n + 1, by go_num, by go_num, by omega, F, trivial⟩
        case measure => simp [intOf]; omega
      · have q2 : ¬ z ≥ 0 := q
        have F : Hid (n = cntG T (i + 1)) := by
          have := HS.out
          rw [if_neg (fun e => q (hz.2 e))] at this
          show _ = _
          rw [this, ← hn.out]
          rfl
        clear hz HC hle
        go_wp2_with fail
        go_roundw
        case rel => exact ⟨i + 1, n, by go_num, by go_num, by omega, F, trivial⟩
        case measure => simp [intOf]; omega
    · have ei : i = 16 := by omega
      subst ei
      have HF : Hid (n = T.nG) := by show _ = _; rw [hn.out, HN.out]
      clear HC hn
      go_wp2_with fail
      go_ret
      exact ⟨by rw [HF.out]; rfl, rfl⟩
set_option maxHeartbeats 8000000 in
set_option maxRecDepth 100000 in
theorem ahead_any (h : Run D w R p L T) {k : Nat} {x : Th} (hx : L.l[k]? = some x) (ha : ∀ i z, i < k → L.l[i]? = some z → z.fl = true → z.nm = x.nm → z.wr = true) :
    Calls Try.prog 22 #[.pointer (some ⟨R, 0, none⟩), .int .i64 k] w fun e w' => e = .returned (.bool true) ∧ Kept [] w w' := by
  have hk := (List.getElem?_eq_some_iff.1 hx).1
  have hfew := h.few
  obtain ⟨gl, cl, gh, ch, hl⟩ := h.lw
  have HL := Lib.hid hl
  have HX := Lib.hid hx
  have HA := Lib.hid ha
  have HF : Hid (L.l.length ≤ 305) := hfew
  have HK := Lib.hid hk
  clear hx hl h ha hk hfew
  go_enter Try.func22, Try.ntmps22
  go_wp2_with fail
  go_loopw [5] (fun iv wr => ∃ i : Nat, iv = .int .i64 (i : Nat) ∧ i ≤ k ∧ Hid (Kept [] w wr)) (fun iv _ => k - (intOf iv).toNat)
  case atStart => exact ⟨0, rfl, by omega, Kept.refl _ _⟩
  case round =>
    obtain ⟨i, rfl, hi, KK⟩ := hrel
    by_cases hlt : i < k
    · have j1 : (i : Int) < (k : Int) := by omega
      have j2 : (i : Int) < (L.l.length : Int) := by have := HK.out; omega
      have j3 : (k : Int) < (L.l.length : Int) := by have := HK.out; omega
      have j4 : (i : Int) < 9223372036854775807 := by have := HK.out; have := HF.out; omega
      have hw := (HL.out.kept KK.out (by simp) (by simp) (by simp)).drew
      obtain ⟨z, hz⟩ : ∃ z, L.l[i]? = some z := ⟨_, List.getElem?_eq_getElem (by have := HK.out; omega)⟩
      have hzz := HA.out i z hlt hz
      obtain ⟨z0, z1, z2, z3, z4, z5, z6⟩ := hw.thing hz
      have x2 := (hw.thing HX.out).2.2.1
      have c1 := hw.box.cell 1 (v := .slice (some ⟨gl, 0, none⟩) L.l.length cl) rfl
      have K2 : Hid (Kept [] w wr.drew) := KK.out.drew
      obtain ⟨zt, zf, zn, zc, zd, za, zw⟩ := z
      simp only at hzz z0 z1 z2 z3 z4 z5 z6
      obtain ⟨xn, hxn⟩ : ∃ xn, xn = x.nm := ⟨_, rfl⟩
      rw [← hxn] at hzz x2
      clear hw hz z0 z3 z4 z5 hxn KK
      cases zf with
      | false =>
        clear hzz
        go_wp2_with fail
        go_region
        go_wp2_with fail
        go_roundw
        case rel => exact ⟨i + 1, by go_num, by omega, K2⟩
        case measure => simp [intOf]; omega
      | true =>
        by_cases q : zn = xn
        · have hw1 : zw = true := hzz rfl q
          subst hw1 q
          clear hzz
          go_wp2_with fail
          go_region
          go_wp2_with fail
          go_roundw
          case rel => exact ⟨i + 1, by go_num, by omega, K2⟩
          case measure => simp [intOf]; omega
        · have q2 : (zn == xn) = false := by simpa using q
          clear hzz
          go_wp2_with fail
          go_region
          go_wp2_with fail
          go_roundw
          case rel => exact ⟨i + 1, by go_num, by omega, K2⟩
          case measure => simp [intOf]; omega
    · have j1 : ¬ (i : Int) < (k : Int) := by omega
      go_wp2_with fail
      go_ret
      exact ⟨rfl, KK.out⟩
end
end Tg
end Go.Proofs.Ytjogpafbiackbaa
