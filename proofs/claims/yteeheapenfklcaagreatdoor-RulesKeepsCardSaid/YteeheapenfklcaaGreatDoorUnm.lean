/- users: who may be called so; what may be a key. -/
import Derived.Test.YteeheapenfklcaaGreatDoorUnr
import Derived.Lib.OthersKept
namespace Go.Proofs.YteeheapenfklcaaGreatDoor
set_option linter.unusedVariables false
open Go.RowKit Go.Shelf Go.Lib
attribute [local go_sem] Oper.semAt_some
theorem Kept.iterAt {S : List Nat} {a w : World} (h : Kept S a w) {k : Nat} (hk : a.heap.size ≤ k) (s : ByteArray) (pos : Nat) : Kept S a (w.iterAt k s pos) :=
  ⟨h.os, h.tape, h.output, by rw [iterAt_size]; exact h.size, fun i hi hn => (iterAt_other w k i s pos (by omega)).trans (h.block i hi hn)⟩
namespace Us
open Go.Proofs.YteeheapenfklcaaGreatDoor.Utf Go.Proofs.YteeheapenfklcaaGreatDoor.Txt Go.PlainAid
/-- Where an iterator stands. -/
def posOf (w : World) (k : Nat) : Nat := match w.heap[k]? with | some (.stringIter _ p) => p | _ => 0
theorem posOf_eq {w : World} {k : Nat} {s : ByteArray} {a : Nat} (h : w.heap[k]? = some (.stringIter s a)) : posOf w k = a := by unfold posOf; rw [h]

theorem ret_bool {a b : Bool} (h : a = b) : Ending.returned (.bool a) = .returned (.bool b) := by rw [h]
set_option maxHeartbeats 4000000 in
set_option maxRecDepth 100000 in
theorem containsRune_any (w : World) (r : Int) (h0 : 0 ≤ r) :
    Calls Tryz.prog 96 #[.string ⟨#[58, 44, 35, 47]⟩, .int .i32 r] w fun e w' => e = .returned (.bool (if r < 128 then decide (0 ≤ Lib.indexByte sepb.data.toList r.toNat.toUInt8) else false)) ∧ Kept [] w w' := by
  by_cases h : r < 128
  · rw [if_pos h]
    refine (Tryz.strings_ContainsRune_ascii sepb r w h0 h).mono ?_
    rintro e w' ⟨rfl, rfl⟩
    exact ⟨rfl, Kept.refl _ _⟩
  · rw [if_neg h]
    have IR := Lib.hid (indexRune_high w r (by omega))
    clear h
    go_enter Tryz.func96, Tryz.ntmps96
    go_wp2_with (go_at_call 138; refine IR.out.mono ?_; rintro e w1 ⟨rfl, k1⟩)
    go_ret
    exact ⟨rfl, k1⟩

/-- The test of one character. -/
def runeOk (r : Int) : Bool := decide (32 < r) && !(r == 127) && !(if r < 128 then decide (0 ≤ Lib.indexByte sepb.data.toList r.toNat.toUInt8) else false)

theorem char_step {s : ByteArray} {a : Nat} {p : UInt8 → Bool} {ok : Int → Bool} (h : a < s.size)
    (low : ∀ n : Nat, n < 128 → ok (n : Int) = p (UInt8.ofNat n)) (high : (∀ n : Nat, 128 ≤ n → n < 256 → p (UInt8.ofNat n) = ok 128) ∧ ∀ r : Nat, 128 ≤ r → ok (r : Int) = ok 128) (hA : ((dl s).take a).all p = true) :
    1 ≤ (Utf8.decode s a).2 ∧ (ok ((Utf8.decode s a).1 : Int) = false → (dl s).all p = false) ∧ (ok ((Utf8.decode s a).1 : Int) = true → a + (Utf8.decode s a).2 ≤ s.size ∧ ((dl s).take (a + (Utf8.decode s a).2)).all p = true) := by
  have hd := dl_length s
  rcases char_facts s a h with ⟨g, e1, e2⟩ | ⟨g, g1, g2, e2, hk⟩
  · rw [e1, e2]
    refine ⟨Nat.le_refl 1, fun hf => ?_, fun hf => ⟨by omega, ?_⟩⟩
    · refine all_no (k := a) (by omega) ?_
      rw [gb_dl s a h, ← low _ g]
      exact hf
    · refine all_step hA fun k h1 h2 => ⟨by omega, ?_⟩
      obtain rfl : k = a := by omega
      rw [gb_dl s k h, ← low _ g]
      exact hf
  · rw [high.2 _ g1]
    refine ⟨e2, fun hf => ?_, fun hf => ⟨?_, ?_⟩⟩
    · refine all_no (k := a) (by omega) ?_
      rw [gb_dl s a h, high.1 _ g (gb_lt s a)]
      exact hf
    · have := hk (a + (Utf8.decode s a).2 - 1) (by omega) (by omega)
      omega
    · refine all_step hA fun k h1 h2 => ?_
      obtain ⟨h3, h4⟩ := hk k h1 h2
      refine ⟨by omega, ?_⟩
      rw [gb_dl s k h3, high.1 _ h4 (gb_lt s k)]
      exact hf
theorem name_low (n : Nat) (h : n < 128) : runeOk (n : Int) = nameByte (UInt8.ofNat n) := by
  rw [nameByte_low h]
  unfold runeOk
  rw [if_pos (by omega)]
  have e1 : (n : Int).toNat.toUInt8 = UInt8.ofNat n := by simp
  have e2 : decide ((32 : Int) < (n : Int)) = decide (32 < n) := by rw [decide_eq_decide]; omega
  have e3 : ((n : Int) == 127) = (n == 127) := by rw [Bool.eq_iff_iff, beq_iff_eq, beq_iff_eq]; omega
  rw [e1, e2, e3]
theorem name_high : (∀ n : Nat, 128 ≤ n → n < 256 → nameByte (UInt8.ofNat n) = runeOk 128) ∧ ∀ r : Nat, 128 ≤ r → runeOk (r : Int) = runeOk 128 := by
  have h128 : runeOk 128 = true := by decide
  rw [h128]
  refine ⟨fun n h h2 => nameByte_high h h2, fun r h => ?_⟩
  unfold runeOk
  rw [if_neg (by omega), decide_eq_true (by omega : (32 : Int) < r)]
  have e3 : ((r : Int) == 127) = false := by rw [beq_eq_false_iff_ne]; omega
  rw [e3]
  rfl

set_option maxHeartbeats 8000000 in
set_option maxRecDepth 100000 in
/-- May somebody be called so? -/
theorem isName_any (w : World) (s : ByteArray) (hs : s.size ≤ 140737488355328) : Calls Tryz.prog 61 #[.string s] w fun e w' => e = .returned (.bool (isName s)) ∧ Kept [] w w' := by
  obtain ⟨z, hz⟩ : ∃ z, z = isName s := ⟨_, rfl⟩
  have HZ := Lib.hid hz
  rw [← hz]
  have GOOD := Lib.hid (fun w => good_any s w hs)
  by_cases h1 : s.toList = []
  · have hv : z = false := by
      rw [hz]; unfold isName
      have : s.size = 0 := by rw [← dl_length]; unfold dl; rw [← ByteArray.toList_eq, h1]; rfl
      simp [this]
    subst hv
    clear hz HZ
    go_enter Tryz.func61, Tryz.ntmps61
    go_wp2_with fail
    go_ret
    exact ⟨rfl, Kept.refl _ _⟩
  have b1 : s.toList.isEmpty = false := by rw [List.isEmpty_eq_false_iff]; exact h1
  have b0 : (s.toList == []) = false := by rw [beq_eq_false_iff_ne]; exact h1
  have hp : 1 ≤ s.size := by
    rw [← dl_length]; unfold dl; rw [← ByteArray.toList_eq]
    exact List.length_pos_iff.2 h1
  by_cases h2 : s.size ≤ 32
  · have i2 : ¬ (32 : Int) < (s.size : Int) := by omega
    obtain ⟨g, hg⟩ : ∃ g, g = good s := ⟨_, rfl⟩
    rw [← hg] at GOOD
    cases g with
    | false =>
      have hv : z = false := by rw [hz]; unfold isName; rw [← hg]; simp
      subst hv
      clear hz HZ hg h1
      go_enter Tryz.func61, Tryz.ntmps61
      go_wp2_with (go_at_call 95; refine (GOOD.out _).mono ?_; rintro e w1 ⟨rfl, kb⟩)
      go_ret
      exact ⟨rfl, Kept.of_below kb []⟩
    | true =>
      have HZ2 : Hid (z = (dl s).all nameByte) := by
        show _ = _
        rw [hz]; unfold isName; rw [← hg, decide_eq_true hp, decide_eq_true h2]; simp
      clear hz HZ hg h1
      go_enter Tryz.func61, Tryz.ntmps61
      go_wp2_with (go_at_call 95; refine (GOOD.out _).mono ?_; rintro e w1 ⟨rfl, kb⟩)
      have K1 : Hid (Kept [] w w1) := Kept.of_below kb []
      clear kb GOOD
      obtain ⟨p, hp⟩ : ∃ p, p = w1.heap.size := ⟨_, rfl⟩
      obtain ⟨w2, hw2⟩ : ∃ w2, w2 = w1.iter s 0 := ⟨_, rfl⟩
      have I2 : Hid (w2.heap[p]? = some (.stringIter s 0)) := by show _ = _; rw [hw2, hp]; exact World.iter_heap w1 s 0
      have K2 : Hid (Kept [] w w2) := by
        have : Kept [] w1 w2 := by rw [hw2]; exact (Kept.refl _ _).alloc _
        exact K1.out.trans this (fun i hi => by simp at hi)
      have PW : Hid (w.heap.size ≤ p) := by have := K1.out.size; show _ ≤ _; omega
      rw [← hw2, ← hp]
      clear hw2 hp K1
      go_loopw [] (fun wr => ∃ a : Nat, a ≤ s.size ∧ Hid (((dl s).take a).all nameByte = true) ∧ Hid (wr.heap[p]? = some (.stringIter s a)) ∧ Hid (Kept [] w wr)) (fun wr => s.size - posOf wr p)
      case atStart => exact ⟨0, by omega, rfl, I2, K2⟩
      case round =>
        obtain ⟨a, ha, hA, hI, hK⟩ := hrel
        clear I2 K2
        by_cases hlt : a < s.size
        · have hnx := fun ty => run_next_any_at (P := Tryz.prog) wr p s a ty hI.out hlt
          obtain ⟨wn, hwn⟩ : ∃ wn, wn = wr.iterAt p s (a + (Utf8.decode s a).2) := ⟨_, rfl⟩
          have hIn : Hid (wn.heap[p]? = some (.stringIter s (a + (Utf8.decode s a).2))) := by rw [hwn]; exact iterAt_heap wr p s a _ hI.out
          have hKn : Hid (Kept [] w wn) := by rw [hwn]; exact hK.out.iterAt PW.out s _
          have hpw : Hid (p < wr.heap.size) := block_lt hI.out
          have MS : Hid (posOf wr p = a) := posOf_eq hI.out
          rw [← hwn] at hnx
          have STEP := Lib.hid (char_step (p := nameByte) (ok := runeOk) hlt name_low name_high hA.out)
          obtain ⟨r, hr⟩ : ∃ r, r = (Utf8.decode s a).1 := ⟨_, rfl⟩
          obtain ⟨n, hn⟩ : ∃ n, n = (Utf8.decode s a).2 := ⟨_, rfl⟩
          rw [← hr, ← hn] at STEP
          rw [← hr] at hnx
          rw [← hn] at hIn
          have S0 := Lib.hid STEP.out.1
          clear hr hn hwn hI hK
          have CR := Lib.hid (fun w => containsRune_any w (r : Int) (by omega))
          by_cases c1 : (r : Int) ≤ 32
          · have hz : z = false := by
              rw [HZ2.out]
              refine STEP.out.2.1 ?_
              unfold runeOk
              rw [decide_eq_false (by omega)]
              rfl
            subst hz
            clear STEP
            go_wp2_with fail
            go_ret
            exact ⟨rfl, hKn.out⟩
          by_cases c2 : ((r : Int) == 127) = true
          · have hz : z = false := by
              rw [HZ2.out]
              refine STEP.out.2.1 ?_
              unfold runeOk
              rw [c2]
              simp
            subst hz
            clear STEP
            go_wp2_with fail
            go_ret
            exact ⟨rfl, hKn.out⟩
          have c2' : ((r : Int) == 127) = false := by simpa using c2
          have RK : Hid (runeOk (r : Int) = !(if (r : Int) < 128 then decide (0 ≤ Lib.indexByte sepb.data.toList (r : Int).toNat.toUInt8) else false)) := by
            show _ = _
            conv => lhs; unfold runeOk
            rw [decide_eq_true (by omega : (32 : Int) < r), c2']
            rfl
          obtain ⟨q, hq⟩ : ∃ q, q = (if (r : Int) < 128 then decide (0 ≤ Lib.indexByte sepb.data.toList (r : Int).toNat.toUInt8) else false) := ⟨_, rfl⟩
          rw [← hq] at CR RK
          clear hq c2
          cases q with
          | true =>
            have hz : z = false := by rw [HZ2.out]; exact STEP.out.2.1 (by rw [RK.out]; rfl)
            subst hz
            clear STEP
            go_wp2_with (go_at_call 96; refine (CR.out _).mono ?_; rintro e w3 ⟨rfl, k3⟩)
            go_ret
            exact ⟨rfl, hKn.out.trans k3 (fun i hi => by simp at hi)⟩
          | false =>
            have ST2 := Lib.hid (STEP.out.2.2 (by rw [RK.out]; rfl))
            clear STEP
            go_wp2_with (go_at_call 96; refine (CR.out _).mono ?_; rintro e w3 ⟨rfl, k3⟩)
            have I3 := (k3.block _ (block_lt hIn.out) (by simp)).trans hIn.out
            go_roundw
            case rel => exact ⟨a + n, ST2.out.1, ST2.out.2, I3, hKn.out.trans k3 (fun i hi => by simp at hi)⟩
            case measure => rw [posOf_eq I3, MS.out]; have := S0.out; omega
        · have hnx := fun ty => run_next_end_at (P := Tryz.prog) wr p s a ty hI.out hlt
          have hAA : (dl s).all nameByte = true := by
            have := hA.out
            rwa [List.take_of_length_le (by rw [dl_length]; omega)] at this
          have hz : z = true := by rw [HZ2.out]; exact hAA
          subst hz
          clear hAA
          go_wp2_with fail
          go_ret
          exact ⟨rfl, hK.out⟩
  · have hv : z = false := by rw [hz]; unfold isName; rw [decide_eq_false h2]; simp
    subst hv
    have i2 : (32 : Int) < (s.size : Int) := by omega
    clear hz HZ h1
    go_enter Tryz.func61, Tryz.ntmps61
    go_wp2_with fail
    go_ret
    exact ⟨rfl, Kept.refl _ _⟩
/-- The test of one character of a key. -/
def keyR (r : Int) : Bool := decide (32 < r) && decide (r ≤ 126) && !(r == 58)
theorem key_low (n : Nat) (h : n < 128) : keyR (n : Int) = keyByte (UInt8.ofNat n) := by
  rw [keyByte_low h]
  unfold keyR
  have e1 : decide ((n : Int) ≤ 126) = decide (n ≤ 126) := by rw [decide_eq_decide]; omega
  have e2 : decide ((32 : Int) < (n : Int)) = decide (32 < n) := by rw [decide_eq_decide]; omega
  have e3 : ((n : Int) == 58) = (n == 58) := by rw [Bool.eq_iff_iff, beq_iff_eq, beq_iff_eq]; omega
  rw [e1, e2, e3]
theorem key_high : (∀ n : Nat, 128 ≤ n → n < 256 → keyByte (UInt8.ofNat n) = keyR 128) ∧ ∀ r : Nat, 128 ≤ r → keyR (r : Int) = keyR 128 := by
  have h128 : keyR 128 = false := by decide
  rw [h128]
  refine ⟨fun n h h2 => keyByte_high h h2, fun r h => ?_⟩
  unfold keyR
  rw [decide_eq_false (by omega : ¬ (r : Int) ≤ 126)]
  simp
set_option maxHeartbeats 8000000 in
set_option maxRecDepth 100000 in
/-- May a key be so? -/
theorem isKey_any (w : World) (s : ByteArray) (hs : s.size ≤ 140737488355328) : Calls Tryz.prog 92 #[.string s] w fun e w' => e = .returned (.bool (isKey s)) ∧ Kept [] w w' := by
  obtain ⟨z, hz⟩ : ∃ z, z = isKey s := ⟨_, rfl⟩
  have HZ2 : Hid (z = ((dl s).all keyByte && decide (s.size ≤ 32))) := hz
  rw [← hz]
  clear hz
  go_enter Tryz.func92, Tryz.ntmps92
  go_wp2_with fail
  obtain ⟨p, hp⟩ : ∃ p, p = w.heap.size := ⟨_, rfl⟩
  obtain ⟨w2, hw2⟩ : ∃ w2, w2 = w.iter s 0 := ⟨_, rfl⟩
  have I2 : Hid (w2.heap[p]? = some (.stringIter s 0)) := by show _ = _; rw [hw2, hp]; exact World.iter_heap w s 0
  have K2 : Hid (Kept [] w w2) := by
    rw [hw2]; exact (Kept.refl _ _).alloc _
  have PW : Hid (w.heap.size ≤ p) := by show _ ≤ _; omega
  rw [← hw2, ← hp]
  clear hw2 hp
  go_loopw [] (fun wr => ∃ a : Nat, a ≤ s.size ∧ Hid (((dl s).take a).all keyByte = true) ∧ Hid (wr.heap[p]? = some (.stringIter s a)) ∧ Hid (Kept [] w wr)) (fun wr => s.size - posOf wr p)
  case atStart => exact ⟨0, by omega, rfl, I2, K2⟩
  case round =>
    obtain ⟨a, ha, hA, hI, hK⟩ := hrel
    clear I2 K2
    by_cases hlt : a < s.size
    · have hnx := fun ty => run_next_any_at (P := Tryz.prog) wr p s a ty hI.out hlt
      obtain ⟨wn, hwn⟩ : ∃ wn, wn = wr.iterAt p s (a + (Utf8.decode s a).2) := ⟨_, rfl⟩
      have hIn : Hid (wn.heap[p]? = some (.stringIter s (a + (Utf8.decode s a).2))) := by rw [hwn]; exact iterAt_heap wr p s a _ hI.out
      have hKn : Hid (Kept [] w wn) := by rw [hwn]; exact hK.out.iterAt PW.out s _
      have hpw : Hid (p < wr.heap.size) := block_lt hI.out
      have MS : Hid (posOf wr p = a) := posOf_eq hI.out
      rw [← hwn] at hnx
      have STEP := Lib.hid (char_step (p := keyByte) (ok := keyR) hlt key_low key_high hA.out)
      obtain ⟨r, hr⟩ : ∃ r, r = (Utf8.decode s a).1 := ⟨_, rfl⟩
      obtain ⟨n, hn⟩ : ∃ n, n = (Utf8.decode s a).2 := ⟨_, rfl⟩
      rw [← hr, ← hn] at STEP
      rw [← hr] at hnx
      rw [← hn] at hIn
      have S0 := Lib.hid STEP.out.1
      clear hr hn hwn hI hK
      by_cases c1 : (r : Int) ≤ 32
      · have hz : z = false := by
          rw [HZ2.out, STEP.out.2.1 (by unfold keyR; rw [decide_eq_false (by omega)]; rfl)]
          rfl
        subst hz
        clear STEP
        go_wp2_with fail
        go_ret
        exact ⟨rfl, hKn.out⟩
      by_cases c2 : (126 : Int) < (r : Int)
      · have hz : z = false := by
          rw [HZ2.out, STEP.out.2.1 (by unfold keyR; rw [decide_eq_false (by omega : ¬ (r : Int) ≤ 126)]; simp)]
          rfl
        subst hz
        clear STEP
        go_wp2_with fail
        go_ret
        exact ⟨rfl, hKn.out⟩
      have RK : Hid (keyR (r : Int) = !((r : Int) == 58)) := by
        show _ = _
        conv => lhs; unfold keyR
        rw [decide_eq_true (by omega : (32 : Int) < r), decide_eq_true (by omega : (r : Int) ≤ 126)]
        rfl
      obtain ⟨q, hq⟩ : ∃ q, ((r : Int) == 58) = q := ⟨_, rfl⟩
      rw [hq] at RK
      cases q with
      | true =>
        have hz : z = false := by
          rw [HZ2.out, STEP.out.2.1 (by rw [RK.out]; rfl)]
          rfl
        subst hz
        clear STEP
        go_wp2_with fail
        go_ret
        exact ⟨rfl, hKn.out⟩
      | false =>
        have ST2 := Lib.hid (STEP.out.2.2 (by rw [RK.out]; rfl))
        clear STEP
        go_wp2_with fail
        go_roundw
        case rel => exact ⟨a + n, ST2.out.1, ST2.out.2, hIn, hKn⟩
        case measure => rw [posOf_eq hIn.out, MS.out]; have := S0.out; omega
    · have hnx := fun ty => run_next_end_at (P := Tryz.prog) wr p s a ty hI.out hlt
      have hAA : (dl s).all keyByte = true := by
        have := hA.out
        rwa [List.take_of_length_le (by rw [dl_length]; omega)] at this
      by_cases h32 : s.size ≤ 32
      · have i32 : (s.size : Int) ≤ 32 := by omega
        have hz : z = true := by rw [HZ2.out, hAA, decide_eq_true h32]; rfl
        subst hz
        clear hAA
        go_wp2_with fail
        go_ret
        exact ⟨rfl, hK.out⟩
      · have i32 : ¬ (s.size : Int) ≤ 32 := by omega
        have hz : z = false := by rw [HZ2.out, hAA, decide_eq_false h32]; rfl
        subst hz
        clear hAA
        go_wp2_with fail
        go_ret
        exact ⟨rfl, hK.out⟩

end Us
end Go.Proofs.YteeheapenfklcaaGreatDoor
