/- names' inQuotes walked. -/
import Derived.Test.YtjdhgeikbkjnoaaDoorQut
namespace Go.Proofs.YtjdhgeikbkjnoaaDoor
set_option linter.unusedVariables false
open Go.RowKit Go.Shelf
attribute [local go_sem] Oper.semAt_some
namespace Nm
open Go.Proofs.YtjdhgeikbkjnoaaDoor.Utf Go.Proofs.YtjdhgeikbkjnoaaDoor.Txt Go.PlainAid

/-- A byte as it stands within quotes. -/
def inq (c : UInt8) : List UInt8 := if c.toNat < 32 ∨ 126 < c.toNat then [92, 120, hexd (c.toNat / 16), hexd (c.toNat % 16)] else if c = 39 ∨ c = 92 then [92, c] else [c]
set_option maxHeartbeats 8000000 in
set_option maxRecDepth 100000 in
theorem inQuotes_any (w : World) (c : UInt8) : Calls Tryd.prog 40 #[.int .u8 c.toNat] w fun e w' => e = .returned (.string (toB (inq c))) ∧ Kept [] w w' := by
  obtain ⟨n, hn⟩ : ∃ n, n = c.toNat := ⟨_, rfl⟩
  have hn256 : n < 256 := by rw [hn]; exact c.toNat_lt
  obtain ⟨z, hz⟩ : ∃ z, z = toB (inq c) := ⟨_, rfl⟩
  have HZ := Lib.hid hz
  have HN := Lib.hid hn
  rw [← hz, ← hn]
  clear hz hn
  have ENC : ∀ m : Nat, m < 128 → Utf8.encode (m : Int) = ⟨#[UInt8.ofNat m]⟩ := by decide +kernel
  have Dg : ∀ m : Fin 16, Utf8.encode ((((⟨#[48, 49, 50, 51, 52, 53, 54, 55, 56, 57, 97, 98, 99, 100, 101, 102]⟩ : ByteArray)[m.val]'(m.2)).toNat : Nat) : Int) = ⟨#[hexd m.val]⟩ := by decide +kernel
  by_cases h1 : n < 32
  · have i1 : (n : Int) < 32 := by omega
    obtain ⟨h, hh⟩ : ∃ h, h = n / 16 := ⟨_, rfl⟩
    obtain ⟨d, hd⟩ : ∃ d, d = n % 16 := ⟨_, rfl⟩
    have q1 : (n : Int) / 16 = (h : Int) := by rw [hh]; rfl
    have q2 : (n : Int) % 16 = (d : Int) := by rw [hd]; rfl
    have h16 : h < 16 := by omega
    have d16 : d < 16 := by omega
    have h16i : (h : Int) < 16 := by omega
    have d16i : (d : Int) < 16 := by omega
    obtain ⟨x, hx⟩ : ∃ x : ByteArray, x = ⟨#[hexd h]⟩ := ⟨_, rfl⟩
    obtain ⟨y, hy⟩ : ∃ y : ByteArray, y = ⟨#[hexd d]⟩ := ⟨_, rfl⟩
    have Ex := (Dg ⟨h, h16⟩).trans hx.symm
    have Ey := (Dg ⟨d, d16⟩).trans hy.symm
    simp only at Ex Ey
    have xs : x.size = 1 := by rw [hx]; rfl
    have ys : y.size = 1 := by rw [hy]; rfl
    have hz : z = ⟨#[92, 120]⟩ ++ x ++ y := by
      rw [HZ.out, hx, hy, hh, hd, HN.out]; unfold inq; rw [if_pos (by rw [← HN.out]; omega)]; rfl
    have HZ2 := Lib.hid hz
    clear ENC Dg HZ HN hh hd hx hy hz
    go_enter Tryd.func40, Tryd.ntmps40
    go_wp2_with fail
    go_wp2_with fail
    go_region
    go_wp2_with fail
    go_ret
    exact ⟨by rw [HZ2.out]; rfl, (Kept.refl [] w).drew⟩
  · by_cases h2 : 126 < n
    · have i1 : ¬ (n : Int) < 32 := by omega
      have i2 : (126 : Int) < (n : Int) := by omega
      obtain ⟨h, hh⟩ : ∃ h, h = n / 16 := ⟨_, rfl⟩
      obtain ⟨d, hd⟩ : ∃ d, d = n % 16 := ⟨_, rfl⟩
      have q1 : (n : Int) / 16 = (h : Int) := by rw [hh]; rfl
      have q2 : (n : Int) % 16 = (d : Int) := by rw [hd]; rfl
      have h16 : h < 16 := by omega
      have d16 : d < 16 := by omega
      have h16i : (h : Int) < 16 := by omega
      have d16i : (d : Int) < 16 := by omega
      obtain ⟨x, hx⟩ : ∃ x : ByteArray, x = ⟨#[hexd h]⟩ := ⟨_, rfl⟩
      obtain ⟨y, hy⟩ : ∃ y : ByteArray, y = ⟨#[hexd d]⟩ := ⟨_, rfl⟩
      have Ex := (Dg ⟨h, h16⟩).trans hx.symm
      have Ey := (Dg ⟨d, d16⟩).trans hy.symm
      simp only at Ex Ey
      have xs : x.size = 1 := by rw [hx]; rfl
      have ys : y.size = 1 := by rw [hy]; rfl
      have hz : z = ⟨#[92, 120]⟩ ++ x ++ y := by
        rw [HZ.out, hx, hy, hh, hd, HN.out]; unfold inq; rw [if_pos (by rw [← HN.out]; omega)]; rfl
      have HZ2 := Lib.hid hz
      clear ENC Dg HZ HN hh hd hx hy hz
      go_enter Tryd.func40, Tryd.ntmps40
      go_wp2_with fail
      go_wp2_with fail
      go_region
      go_wp2_with fail
      go_ret
      exact ⟨by rw [HZ2.out]; rfl, (Kept.refl [] w).drew⟩
    · have i1 : ¬ (n : Int) < 32 := by omega
      have i2 : ¬ (126 : Int) < (n : Int) := by omega
      have hc : UInt8.ofNat n = c := by rw [HN.out]; exact UInt8.ofNat_toNat
      have E0 := ENC n (by omega)
      rw [hc] at E0
      have ni : ¬ (c.toNat < 32 ∨ 126 < c.toNat) := by rw [← HN.out]; omega
      obtain ⟨s, hs⟩ : ∃ s : ByteArray, s = ⟨#[c]⟩ := ⟨_, rfl⟩
      have E : Utf8.encode (n : Int) = s := by rw [E0, hs]
      have s1 : s.size = 1 := by rw [hs]; rfl
      have e1 : (s.toList == [39]) = (c == 39) := by rw [hs, toList_dl]; show ([c] == [39]) = _; simp
      have e2 : (s.toList == [92]) = (c == 92) := by rw [hs, toList_dl]; show ([c] == [92]) = _; simp
      clear ENC Dg hc E0
      by_cases h39 : c = 39
      · have e39 : (c == 39) = true := by rw [h39]; rfl
        have hz : z = ⟨#[92]⟩ ++ s := by
          rw [HZ.out, hs]; unfold inq; rw [if_neg ni, if_pos (Or.inl h39)]; rfl
        have HZ2 := Lib.hid hz
        rw [e39] at e1
        clear h39 ni hz e39 hs e2 HZ HN
        go_enter Tryd.func40, Tryd.ntmps40
        go_upto_if 7 with fail
        go_upto_if 24 with fail
        go_wp2_with fail
        go_ret
        exact ⟨by rw [HZ2.out]; rfl, Kept.refl [] w⟩
      · have n39 : (c == 39) = false := by simpa using h39
        rw [n39] at e1
        by_cases h92 : c = 92
        · have e92 : (c == 92) = true := by rw [h92]; rfl
          have hz : z = ⟨#[92]⟩ ++ s := by
            rw [HZ.out, hs]; unfold inq; rw [if_neg ni, if_pos (Or.inr h92)]; rfl
          have HZ2 := Lib.hid hz
          rw [e92] at e2
          clear h39 ni hz e92 hs HZ HN n39 h92
          go_enter Tryd.func40, Tryd.ntmps40
          go_upto_if 7 with fail
          go_upto_if 24 with fail
          go_wp2_with fail
          go_ret
          exact ⟨by rw [HZ2.out]; rfl, Kept.refl [] w⟩
        · have n92 : (c == 92) = false := by simpa using h92
          have hz : z = s := by
            rw [HZ.out, hs]; unfold inq; rw [if_neg ni, if_neg (by simp [h39, h92])]; rfl
          have HZ2 := Lib.hid hz
          rw [n92] at e2
          clear h39 ni hz h92 hs HZ HN n39 n92
          go_enter Tryd.func40, Tryd.ntmps40
          go_upto_if 7 with fail
          go_upto_if 24 with fail
          go_wp2_with fail
          go_ret
          exact ⟨by rw [HZ2.out]; rfl, Kept.refl [] w⟩
end Nm
end Go.Proofs.YtjdhgeikbkjnoaaDoor
