/- StatModes, walked. -/
import Derived.Test.YtkilomaangdmdaaDoorPmo
namespace Go.Proofs.YtkilomaangdmdaaDoor
set_option linter.unusedVariables false
open Go.RowKit

theorem bytes_mode (n m : Nat) : ((⟨(mode n).toArray⟩ : ByteArray).toList == (⟨(mode m).toArray⟩ : ByteArray).toList) = true ↔ mode n = mode m := by
  rw [Lib.bytes_beq_iff]
  exact ⟨fun h => by have := congrArg (fun x : ByteArray => x.data.toList) h; simpa using this, fun h => by rw [h]⟩
theorem mode_size (n : Nat) : (⟨(mode n).toArray⟩ : ByteArray).size ≤ 1152921504 := by
  rw [size_list]
  show (mode n).length ≤ _
  unfold mode
  split
  · simp [lets_len]
  · have := (hx_len 8 (rest n 13)).2
    simp [lets_len]; omega
theorem pm_mode (n : Nat) (hn : n < 4294967296) : pm ⟨(mode n).toArray⟩ = .returned (.tuple #[.int .u32 (n : Nat), .int .i64 0]) := by
  unfold pm
  rw [zz_mode n hn, if_pos rfl]

set_option maxHeartbeats 8000000 in
set_option maxRecDepth 100000 in
theorem walk (n m : Nat) (hn : n < 4294967296) (hm : m < 4294967296) (t : ByteArray) (w : World) (E : Hid (Env w)) :
    Calls Tryd.prog 3 #[.int .u32 n, .int .u32 m, .string t] w fun e w' => e = .returned (.bool true) ∧ Kept [] w w' := by
  by_cases hbig : 268435456 < t.size
  · have hb : (268435456 : Int) < (t.size : Int) := by omega
    have hd : decide ((268435456 : Int) < (t.size : Int)) = true := decide_eq_true hb
    go_enter Tryd.func3, Tryd.ntmps3
    go_wp2_with fail
    go_ret
    exact ⟨rfl, Kept.refl _ _⟩
  have hsz : ¬ (268435456 : Int) < (t.size : Int) := by omega
  have hsd : decide ((268435456 : Int) < (t.size : Int)) = false := decide_eq_false hsz
  have MO : Hid (∀ (k : Nat) (wx : World), k < 4294967296 → Env wx → Calls Tryd.prog 4 #[.int .u32 k] wx fun e w' => e = .returned (.string ⟨(mode k).toArray⟩) ∧ Kept [] wx w') := fun k wx hk Ex => mode_any k hk wx (fmt_of Ex)
  have PA : Hid (∀ (s : ByteArray) (wx : World), s.size ≤ 1152921504 → Env wx → Calls Tryd.prog 5 #[.string s] wx fun e w' => e = pm s ∧ Kept [] wx w') := fun s wx hs Ex => parse_any s hs wx Ex
  have PN : Hid (∀ (wx : World), Env wx → Calls Tryd.prog 5 #[.string ⟨(mode n).toArray⟩] wx fun e w' => e = .returned (.tuple #[.int .u32 (n : Nat), .int .i64 0]) ∧ Kept [] wx w') := fun wx Ex => (parse_any _ (mode_size n) wx Ex).mono fun e w' ⟨h1, h2⟩ => ⟨by rw [h1, pm_mode n hn], h2⟩
  have PM : Hid (∀ (wx : World), Env wx → Calls Tryd.prog 5 #[.string ⟨(mode m).toArray⟩] wx fun e w' => e = .returned (.tuple #[.int .u32 (m : Nat), .int .i64 0]) ∧ Kept [] wx w') := fun wx Ex => (parse_any _ (mode_size m) wx Ex).mono fun e w' ⟨h1, h2⟩ => ⟨by rw [h1, pm_mode m hm], h2⟩
  obtain ⟨a, ha⟩ : ∃ a : ByteArray, a = ⟨(mode n).toArray⟩ := ⟨_, rfl⟩
  obtain ⟨b, hb⟩ : ∃ b : ByteArray, b = ⟨(mode m).toArray⟩ := ⟨_, rfl⟩
  have heq : (a.toList == b.toList) = ((n : Int) == (m : Int)) := by
    rw [ha, hb, Bool.eq_iff_iff, bytes_mode]
    refine ⟨fun h => by rw [mode_inj n m hn hm h]; simp, fun h => ?_⟩
    have h2 : (n : Int) = (m : Int) := by simpa using h
    rw [show n = m by omega]
  have MN : Hid (∀ (wx : World), Env wx → Calls Tryd.prog 4 #[.int .u32 n] wx fun e w' => e = .returned (.string a) ∧ Kept [] wx w') := fun wx Ex => by rw [ha]; exact MO.out n wx hn Ex
  have MM : Hid (∀ (wx : World), Env wx → Calls Tryd.prog 4 #[.int .u32 m] wx fun e w' => e = .returned (.string b) ∧ Kept [] wx w') := fun wx Ex => by rw [hb]; exact MO.out m wx hm Ex
  rw [← ha] at PN
  rw [← hb] at PM
  clear ha hb
  obtain ⟨z, hz⟩ : ∃ z, z = zz t := ⟨_, rfl⟩
  have hz32 : z < 4294967296 := by rw [hz]; exact zz_lt t
  obtain ⟨c, hc⟩ : ∃ c : ByteArray, c = ⟨(mode z).toArray⟩ := ⟨_, rfl⟩
  have MZ : Hid (∀ (wx : World), Env wx → Calls Tryd.prog 4 #[.int .u32 z] wx fun e w' => e = .returned (.string c) ∧ Kept [] wx w') := fun wx Ex => by rw [hc]; exact MO.out z wx hz32 Ex
  have PT : Hid (∀ (wx : World), Env wx → Calls Tryd.prog 5 #[.string t] wx fun e w' => e = (if c = t then .returned (.tuple #[.int .u32 (z : Nat), .int .i64 0]) else .returned (.tuple #[.int .u32 0, .int .i64 21])) ∧ Kept [] wx w') := fun wx Ex => (PA.out t wx (by omega) Ex).mono fun e w' ⟨h1, h2⟩ => ⟨by rw [h1, hc, hz]; rfl, h2⟩
  clear hz hc MO PA
  have nn1 : ((n : Int) == (n : Int)) = true := by simp
  have mm1 : ((m : Int) == (m : Int)) = true := by simp
  have nn2 : ((n : Int) != (n : Int)) = false := by simp
  have mm2 : ((m : Int) != (m : Int)) = false := by simp
  have KK : Hid (∀ x y : World, Kept [] w x → Kept [] x y → Kept [] w y) := fun x y h k => h.trans k (fun _ hm => by cases hm)
  by_cases hct : c = t
  · have TT : Hid (∀ (wx : World), Env wx → Calls Tryd.prog 5 #[.string t] wx fun e w' => e = .returned (.tuple #[.int .u32 (z : Nat), .int .i64 0]) ∧ Kept [] wx w') := fun wx Ex => (PT.out wx Ex).mono fun e w' ⟨h1, h2⟩ => ⟨by rw [h1, if_pos hct], h2⟩
    have hcc : (c.toList == t.toList) = true := (Lib.bytes_beq_iff c t).2 hct
    clear PT hct
    go_enter Tryd.func3, Tryd.ntmps3
    go_wp2_with fail
    refine (MN.out _ E.out).mono ?_
    rintro e w1 ⟨rfl, k1⟩
    have K1 := Lib.hid k1
    clear k1 MN
    go_wp2_with fail
    refine (MM.out _ (E.out.kept K1.out)).mono ?_
    rintro e w2 ⟨rfl, k2⟩
    have K2 := Lib.hid (KK.out _ _ K1.out k2)
    clear k2 MM K1
    go_wp2_with fail
    refine (PN.out _ (E.out.kept K2.out)).mono ?_
    rintro e w3 ⟨rfl, k3⟩
    have K3 := Lib.hid (KK.out _ _ K2.out k3)
    clear k3 PN K2
    go_wp2_with fail
    refine (PM.out _ (E.out.kept K3.out)).mono ?_
    rintro e w4 ⟨rfl, k4⟩
    have K4 := Lib.hid (KK.out _ _ K3.out k4)
    clear k4 PM K3
    go_wp2_with fail
    refine (TT.out _ (E.out.kept K4.out)).mono ?_
    rintro e w5 ⟨rfl, k5⟩
    have K5 := Lib.hid (KK.out _ _ K4.out k5)
    clear k5 TT K4
    go_wp2_with fail
    refine (MZ.out _ (E.out.kept K5.out)).mono ?_
    rintro e w6 ⟨rfl, k6⟩
    have K6 := Lib.hid (KK.out _ _ K5.out k6)
    clear k6 MZ K5
    go_wp2_with fail
    go_ret
    exact ⟨rfl, K6.out⟩
  · have TT : Hid (∀ (wx : World), Env wx → Calls Tryd.prog 5 #[.string t] wx fun e w' => e = .returned (.tuple #[.int .u32 0, .int .i64 21]) ∧ Kept [] wx w') := fun wx Ex => (PT.out wx Ex).mono fun e w' ⟨h1, h2⟩ => ⟨by rw [h1, if_neg hct], h2⟩
    clear PT hct MZ
    go_enter Tryd.func3, Tryd.ntmps3
    go_wp2_with fail
    refine (MN.out _ E.out).mono ?_
    rintro e w1 ⟨rfl, k1⟩
    have K1 := Lib.hid k1
    clear k1 MN
    go_wp2_with fail
    refine (MM.out _ (E.out.kept K1.out)).mono ?_
    rintro e w2 ⟨rfl, k2⟩
    have K2 := Lib.hid (KK.out _ _ K1.out k2)
    clear k2 MM K1
    go_wp2_with fail
    refine (PN.out _ (E.out.kept K2.out)).mono ?_
    rintro e w3 ⟨rfl, k3⟩
    have K3 := Lib.hid (KK.out _ _ K2.out k3)
    clear k3 PN K2
    go_wp2_with fail
    refine (PM.out _ (E.out.kept K3.out)).mono ?_
    rintro e w4 ⟨rfl, k4⟩
    have K4 := Lib.hid (KK.out _ _ K3.out k4)
    clear k4 PM K3
    go_wp2_with fail
    refine (TT.out _ (E.out.kept K4.out)).mono ?_
    rintro e w5 ⟨rfl, k5⟩
    have K5 := Lib.hid (KK.out _ _ K4.out k5)
    clear k5 TT K4
    go_wp2_with fail
    go_ret
    exact ⟨rfl, K5.out⟩
end Go.Proofs.YtkilomaangdmdaaDoor
