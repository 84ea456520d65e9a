/- stat.ParseMode; modes there and back. -/
import Derived.Test.YtkilomaangdmdaaDoorPuw
import Derived.Lib.SlicesS
namespace Go.Proofs.YtkilomaangdmdaaDoor
set_option linter.unusedVariables false
open Go.RowKit

theorem fmt_of {w : World} (E : Env w) : Fmt w := fun n w' hn k => ufmt16 n hn w' (fun w2 k2 => tz16 w2 (E.kept (k.trans k2 (fun _ hm => by cases hm))).t)

/-- The two parts of a text. -/
def fore (t : ByteArray) : ByteArray := ⟨(Lib.cut t.data.toList [43]).1.toArray⟩
def aft (t : ByteArray) : ByteArray := ⟨(Lib.cut t.data.toList [43]).2.1.toArray⟩
theorem parts (t : ByteArray) : (fore t).size ≤ t.size ∧ (aft t).size ≤ t.size := by
  rw [size_list t, size_list (fore t), size_list (aft t)]
  unfold fore aft Lib.cut
  split
  · simp only [List.length_take, List.length_drop]
    omega
  · simp
/-- What is read of a text, right or not. -/
def zz (t : ByteArray) : Nat := litK (fore t).data.toList 13 ||| numb (aft t)
theorem zz_lt (t : ByteArray) : zz t < 4294967296 := Nat.or_lt_two_pow (n := 32) (litK_lt _ _) (numb_lt _)

theorem idx_none (c : UInt8) : ∀ l : List UInt8, (∀ x ∈ l, x ≠ c) → Lib.indexByte l c = -1
  | [], _ => rfl
  | b :: l, h => by
    have hb : (b == c) = false := by simpa using h b (by simp)
    rw [Lib.indexByte, hb, idx_none c l (fun x hx => h x (by simp [hx]))]
    rfl
theorem idx_at (c : UInt8) (m : List UInt8) : ∀ l : List UInt8, (∀ x ∈ l, x ≠ c) → Lib.indexByte (l ++ c :: m) c = l.length
  | [], _ => by rw [List.nil_append, Lib.indexByte]; simp
  | b :: l, h => by
    have hb : (b == c) = false := by simpa using h b (by simp)
    rw [List.cons_append, Lib.indexByte, hb, idx_at c m l (fun x hx => h x (by simp [hx]))]
    have : ((l.length : Int) == -1) = false := by simp <;> omega
    rw [this]
    simp
theorem lets_ne (n : Nat) : ∀ x ∈ lets n 13, x ≠ 43 := by
  intro x hx
  unfold lets at hx
  obtain ⟨i, hi, rfl⟩ := List.mem_map.1 hx
  have h13 : i < 13 := by simpa using hi
  unfold let'
  split
  · decide
  · exact (sg_ne i h13).2
theorem zz_mode (n : Nat) (hn : n < 4294967296) : zz ⟨(mode n).toArray⟩ = n := by
  have hl := lits_rest n [] 13 (Nat.le_refl _)
  rw [List.append_nil] at hl
  by_cases h0 : rest n 13 = 0
  · have e : mode n = lets n 13 := by unfold mode; rw [if_pos h0, List.append_nil]
    have c : Lib.cut (lets n 13) [43] = (lets n 13, [], false) := by
      unfold Lib.cut
      rw [Lib.index_one, idx_none 43 _ (lets_ne n)]
      rfl
    have f : fore ⟨(mode n).toArray⟩ = ⟨(lets n 13).toArray⟩ := by unfold fore; rw [e, c]
    have a : aft ⟨(mode n).toArray⟩ = ⟨#[]⟩ := by unfold aft; rw [e, c]
    unfold zz
    rw [f, a]
    have z : numb ⟨#[]⟩ = 0 := by decide
    rw [z]
    rw [h0] at hl
    exact hl
  · have e : mode n = lets n 13 ++ 43 :: hx 8 (rest n 13) := by unfold mode; rw [if_neg h0]
    have hi : Lib.index (lets n 13 ++ 43 :: hx 8 (rest n 13)) [43] = 13 := by
      rw [Lib.index_one, idx_at 43 _ _ (lets_ne n), lets_len]; rfl
    have c : Lib.cut (lets n 13 ++ 43 :: hx 8 (rest n 13)) [43] = (lets n 13, hx 8 (rest n 13), true) := by
      unfold Lib.cut
      rw [hi, if_pos (by decide)]
      have t1 : (lets n 13 ++ 43 :: hx 8 (rest n 13)).take (13 : Int).toNat = lets n 13 := by
        rw [show (13 : Int).toNat = (lets n 13).length by rw [lets_len]; rfl, List.take_left]
      have t2 : (lets n 13 ++ 43 :: hx 8 (rest n 13)).drop ((13 : Int).toNat + ([43] : List UInt8).length) = hx 8 (rest n 13) := by
        rw [show (13 : Int).toNat + ([43] : List UInt8).length = (lets n 13 ++ [43]).length by rw [List.length_append, lets_len]; rfl,
          show lets n 13 ++ 43 :: hx 8 (rest n 13) = (lets n 13 ++ [43]) ++ hx 8 (rest n 13) by simp, List.drop_left]
      rw [t1, t2]
    have f : fore ⟨(mode n).toArray⟩ = ⟨(lets n 13).toArray⟩ := by unfold fore; rw [e, c]
    have a : aft ⟨(mode n).toArray⟩ = ⟨(hx 8 (rest n 13)).toArray⟩ := by unfold aft; rw [e, c]
    have hr := rest_lt n hn 13
    have z : numb ⟨(hx 8 (rest n 13)).toArray⟩ = rest n 13 := by
      unfold numb
      rw [if_neg (by rw [size_list]; have := (hx_len 8 (rest n 13)).1; simpa using (by omega : (hx 8 (rest n 13)).length ≠ 0)), show (⟨(hx 8 (rest n 13)).toArray⟩ : ByteArray).data.toList = hx 8 (rest n 13) from rfl, pu_hx 8 _ (by omega) hr]
      rfl
    unfold zz
    rw [f, a, z]
    exact hl
theorem mode_inj (n m : Nat) (hn : n < 4294967296) (hm : m < 4294967296) (h : mode n = mode m) : n = m := by
  rw [← zz_mode n hn, ← zz_mode m hm, h]

/-- What ParseMode tells. -/
def pm (t : ByteArray) : Ending := if (⟨(mode (zz t)).toArray⟩ : ByteArray) = t then .returned (.tuple #[.int .u32 (zz t : Nat), .int .i64 0]) else .returned (.tuple #[.int .u32 0, .int .i64 21])
set_option maxHeartbeats 4000000 in
set_option maxRecDepth 100000 in
theorem parse_any (t : ByteArray) (ht : t.size ≤ 1152921504) (w : World) (E : Hid (Env w)) :
    Calls Tryd.prog 5 #[.string t] w fun e w' => e = pm t ∧ Kept [] w w' := by
  obtain ⟨m, hm⟩ := E.out.m
  have CU : Hid (Calls Tryd.prog 11 #[.string t, .string ⟨#[43]⟩] w fun e w' => ∃ b : Bool, e = .returned (.tuple #[.string (fore t), .string (aft t), .bool b]) ∧ Kept [] w w') :=
    (Tryd.strings_Cut t ⟨#[43]⟩ m w (by omega) hm).mono fun e w' ⟨h1, n, h2⟩ => ⟨_, h1, by rw [h2]; exact (Kept.refl [] w).drewN n⟩
  obtain ⟨f, hf⟩ : ∃ f, f = fore t := ⟨_, rfl⟩
  obtain ⟨a, ha⟩ : ∃ a, a = aft t := ⟨_, rfl⟩
  obtain ⟨p1, p2⟩ := parts t
  rw [← hf, ← ha] at CU
  rw [← hf] at p1
  rw [← ha] at p2
  have LT : Hid (∀ wx, Calls Tryd.prog 12 #[.string f] wx fun e w' => e = .returned (.int .u32 (litK f.data.toList 13 : Nat)) ∧ Kept [] wx w') := fun wx => lettered_any f (by omega) wx
  have NU : Hid (∀ wx, Env wx → Calls Tryd.prog 13 #[.string a] wx fun e w' => e = .returned (.int .u32 (numb a : Nat)) ∧ Kept [] wx w') := fun wx Ex => numbered_any a (by omega) wx Ex
  obtain ⟨lv, hlv⟩ : ∃ x, x = litK f.data.toList 13 := ⟨_, rfl⟩
  obtain ⟨nv, hnv⟩ : ∃ x, x = numb a := ⟨_, rfl⟩
  obtain ⟨z, hz⟩ : ∃ x, x = zz t := ⟨_, rfl⟩
  have hor := (orb32 lv nv (by rw [hlv]; exact litK_lt _ _) (by rw [hnv]; exact numb_lt _)).1
  have hzz : lv ||| nv = z := by rw [hz, hlv, hnv, hf, ha]; rfl
  rw [hzz] at hor
  have hz32 : z < 4294967296 := by rw [hz]; exact zz_lt t
  rw [← hlv] at LT
  rw [← hnv] at NU
  have PM : Hid (pm t = if (⟨(mode z).toArray⟩ : ByteArray) = t then .returned (.tuple #[.int .u32 (z : Nat), .int .i64 0]) else .returned (.tuple #[.int .u32 0, .int .i64 21])) := by show _ = _; rw [hz]; rfl
  have MO : Hid (∀ wx, Env wx → Calls Tryd.prog 4 #[.int .u32 z] wx fun e w' => e = .returned (.string ⟨(mode z).toArray⟩) ∧ Kept [] wx w') := fun wx Ex => mode_any z hz32 wx (fmt_of Ex)
  obtain ⟨tx, htx⟩ : ∃ tx : ByteArray, tx = ⟨(mode z).toArray⟩ := ⟨_, rfl⟩
  rw [← htx] at PM MO
  clear hf ha hlv hnv hz hzz htx p1 p2 hm
  go_enter Tryd.func5, Tryd.ntmps5
  go_wp2_with fail
  refine CU.out.mono ?_
  rintro e w1 ⟨bb, rfl, k1⟩
  have K1 := Lib.hid k1
  clear k1 CU
  go_wp2_with fail
  refine (LT.out _).mono ?_
  rintro e w2 ⟨rfl, k2⟩
  have K2 : Hid (Kept [] w w2) := K1.out.trans k2 (fun _ hm => by cases hm)
  clear k2 LT K1
  go_wp2_with fail
  refine (NU.out _ ?_).mono ?_
  · exact E.out.kept K2.out
  rintro e w3 ⟨rfl, k3⟩
  have K3 : Hid (Kept [] w w3) := K2.out.trans k3 (fun _ hm => by cases hm)
  clear k3 NU K2
  go_wp2_with fail
  refine (MO.out _ ?_).mono ?_
  · exact E.out.kept K3.out
  rintro e w4 ⟨rfl, k4⟩
  have K4 : Hid (Kept [] w w4) := K3.out.trans k4 (fun _ hm => by cases hm)
  clear k4 MO K3
  by_cases hc : tx = t
  · have PE : Hid (pm t = .returned (.tuple #[.int .u32 (z : Nat), .int .i64 0])) := by show _ = _; rw [PM.out, if_pos hc]
    clear PM
    subst hc
    go_wp2_with fail
    go_ret2
    exact ⟨PE.out.symm, K4.out⟩
  · have PE : Hid (pm t = .returned (.tuple #[.int .u32 0, .int .i64 21])) := by show _ = _; rw [PM.out, if_neg hc]
    clear PM
    have hb : (tx.toList == t.toList) = false := (Lib.bytes_beq_false_iff tx t).2 hc
    go_wp2_with fail
    go_ret2
    exact ⟨PE.out.symm, K4.out⟩
end Go.Proofs.YtkilomaangdmdaaDoor
