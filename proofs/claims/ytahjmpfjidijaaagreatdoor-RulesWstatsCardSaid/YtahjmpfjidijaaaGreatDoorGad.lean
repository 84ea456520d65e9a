/- Of no character beyond ASCII there is one among the signs ':,#/' (strings.IndexRune, ContainsRune). users: who may be called so; what may be a key. users: the form of an account (giveUp, mustBeName, mustHaveForm). -/
import Derived.WalkKit
import Derived.Deep.RegionWith
import Derived.Lib.Hide
import Derived.Outline
import Derived.WalkMore
import Derived.ScopeJumps
import Derived.Lib.OthersKept
import Derived.Laws.OwnMore
import Derived.Test.YtahjmpfjidijaaaGreatDoorGaa
import Derived.Test.YtahjmpfjidijaaaGreatDoorGac
import Derived.Test.YtahjmpfjidijaaaGreatDoorHShf
section
namespace Go.Proofs.YtahjmpfjidijaaaGreatDoor
set_option linter.unusedVariables false
open Go.RowKit Go.Shelf
attribute [local go_sem] Oper.semAt_some
namespace Us
open Go.Proofs.YtahjmpfjidijaaaGreatDoor.Utf Go.Proofs.YtahjmpfjidijaaaGreatDoor.Txt Go.PlainAid

theorem enc_cases {r : Int} (h0 : 128 ≤ r) (hv : Utf8.valid r = true) :
    (∃ x y : UInt8, Utf8.encode r = ⟨#[x, y]⟩ ∧ 128 ≤ y.toNat) ∨ (∃ x y z : UInt8, Utf8.encode r = ⟨#[x, y, z]⟩ ∧ 128 ≤ z.toNat) ∨ (∃ x y z u : UInt8, Utf8.encode r = ⟨#[x, y, z, u]⟩ ∧ 128 ≤ u.toNat) := by
  have hb : ∀ n : Nat, 128 ≤ (UInt8.ofNat (0x80 + n % 64)).toNat := fun n => by
    rw [UInt8.toNat_ofNat']; omega
  unfold Utf8.encode
  simp only [hv, if_true]
  rw [if_neg (by omega)]
  split
  · exact Or.inl ⟨_, _, rfl, hb _⟩
  · split
    · exact Or.inr (Or.inl ⟨_, _, _, rfl, hb _⟩)
    · exact Or.inr (Or.inr ⟨_, _, _, _, rfl, hb _⟩)
theorem valid_eq (r : Int) (h0 : 0 ≤ r) : Lib.validRune r = Utf8.valid r := by
  unfold Lib.validRune Utf8.valid
  rw [Bool.eq_iff_iff]
  simp only [Bool.and_eq_true, Bool.or_eq_true, decide_eq_true_eq]
  omega
theorem dec_sepb : Utf8.decode sepb 0 = (58, 1) ∧ Utf8.decode sepb 1 = (44, 1) ∧ Utf8.decode sepb 2 = (35, 1) ∧ Utf8.decode sepb 3 = (47, 1) := by decide +kernel

set_option maxHeartbeats 8000000 in
set_option maxRecDepth 100000 in
/-- Of no character beyond ASCII there is one among the signs. -/
theorem indexRune_high (w : World) (r : Int) (h0 : 128 ≤ r) :
    Calls Tryz.prog 211 #[.string ⟨#[58, 44, 35, 47]⟩, .int .i32 r] w fun e w' => e = .returned (.int .i64 (-1)) ∧ Kept [] w w' := by
  have IX : Hid (∀ (l : List UInt8) (s : ByteArray) (y : UInt8) (w : World), s.data.toList = l → (∀ x ∈ l, x.toNat < 128) → 128 ≤ y.toNat → Calls Tryz.prog 216 #[.string s, .int .u8 y.toNat] w fun e w' => e = .returned (.int .i64 (-1)) ∧ w' = w) := fun l s y w hs hl hy => by
    refine (Tryz.strings_IndexByte s y.toNat w).mono ?_
    rintro e w' ⟨rfl, rfl⟩
    refine ⟨?_, rfl⟩
    have e1 : ((y.toNat : Int)).toNat.toUInt8 = y := by simp
    rw [e1, hs]
    have : Lib.indexByte l y = -1 := by
      rcases Int.lt_or_le (Lib.indexByte l y) 0 with h | h
      · have := Lib.indexByte_ge l y; omega
      · obtain ⟨k, hk⟩ : ∃ k : Nat, Lib.indexByte l y = k := ⟨(Lib.indexByte l y).toNat, by omega⟩
        have := hl y (List.mem_of_getElem? (Lib.indexByte_some hk).1)
        omega
    rw [this]
  have n1 : ¬ (r < 128) := by omega
  have p0 : 0 ≤ r := by omega
  by_cases h1 : r = 65533
  · subst h1
    have S4 : (⟨#[58, 44, 35, 47]⟩ : ByteArray) = sepb := rfl
    have D := dec_sepb
    rw [S4]
    have Z4 : sepb.size = 4 := rfl
    have ZZ := Lib.hid Z4
    have SB : Hid (∃ s, s = sepb) := ⟨_, rfl⟩
    obtain ⟨s, hs⟩ := SB
    rw [← hs] at D ZZ ⊢
    clear Z4 S4 hs
    go_enter Tryz.func211, Tryz.ntmps211
    go_wp2_with fail
    go_loopw [] (fun wr => ∃ a : Nat, a ≤ 4 ∧ wr = w.iter s a) (fun wr => 4 - wr.iterPos w.heap.size)
    case atStart => exact ⟨0, by omega, rfl⟩
    case round =>
      obtain ⟨a, ha, rfl⟩ := hrel
      by_cases hlt : a < s.size
      · have hnx : ∀ ty, (Instr.next (.pointer (some ⟨w.heap.size, 0, none⟩)) true ty).run Tryz.prog (w.iter s a) = _ := fun ty => run_next_any w s a ty hlt
        have hd : ((Utf8.decode s a).1 : Int) ≠ 65533 ∧ (Utf8.decode s a).2 = 1 := by
          have h4 := ZZ.out
          have : a = 0 ∨ a = 1 ∨ a = 2 ∨ a = 3 := by omega
          rcases this with rfl | rfl | rfl | rfl
          · rw [D.1]; exact ⟨by decide, rfl⟩
          · rw [D.2.1]; exact ⟨by decide, rfl⟩
          · rw [D.2.2.1]; exact ⟨by decide, rfl⟩
          · rw [D.2.2.2]; exact ⟨by decide, rfl⟩
        obtain ⟨q1, q2⟩ := hd
        have D1 : (((Utf8.decode s a).1 : Int) == 65533) = false := by rw [beq_eq_false_iff_ne]; exact q1
        have Q2 := Lib.hid q2
        clear D q1 q2
        go_wp2_with fail
        go_roundw
        case rel => rw [Q2.out]; have := ZZ.out; exact ⟨a + 1, by omega, rfl⟩
        case measure => simp; have := Q2.out; have := ZZ.out; omega
      · have hnx : ∀ ty, (Instr.next (.pointer (some ⟨w.heap.size, 0, none⟩)) true ty).run Tryz.prog (w.iter s a) = _ := fun ty => run_next_end w s a ty hlt
        clear D
        go_wp2_with fail
        go_ret
        exact ⟨rfl, (Kept.of_below (below_iter w s a) [])⟩
  · have VR : Hid (Calls Tryz.prog 217 #[.int .i32 r] w fun e w' => e = .returned (.bool (Utf8.valid r)) ∧ w' = w) := by
      rw [← valid_eq r (by omega)]
      exact Tryz.utf8_ValidRune r w
    have n2 : (r == 65533) = false := by rw [beq_eq_false_iff_ne]; exact h1
    obtain ⟨v, hv⟩ : ∃ v, v = Utf8.valid r := ⟨_, rfl⟩
    rw [← hv] at VR
    cases v with
    | false =>
      clear hv
      go_enter Tryz.func211, Tryz.ntmps211
      go_wp2_with (go_at_call 217; refine VR.out.mono ?_; rintro e w1 ⟨rfl, rfl⟩)
      go_ret
      exact ⟨rfl, Kept.refl _ _⟩
    | true =>
      rcases enc_cases h0 hv.symm with ⟨x, y, E, hy⟩ | ⟨x, y, z, E, hy⟩ | ⟨x, y, z, u, E, hy⟩
      · have IXk : Hid (∀ w, Calls Tryz.prog 216 #[.string ⟨#[35, 47]⟩, .int .u8 y.toNat] w fun e w' => e = .returned (.int .i64 (-1)) ∧ w' = w) := fun w => IX.out [35, 47] ⟨#[35, 47]⟩ y w rfl (by decide) hy
        have hne : ∀ m : Nat, m < 128 → ((m : Int) == (y.toNat : Int)) = false := fun m hm => by rw [beq_eq_false_iff_ne]; omega
        have hw2 : IntKind.i64.wrap 2 = 2 := by decide
        have hq : (((⟨#[58, 44, 35, 47]⟩ : ByteArray)[1].toNat : Int) != (((⟨#[x, y]⟩ : ByteArray)[1]'(by decide : (1 : Nat) < 2)).toNat : Int)) = true := by
          have := hne 44 (by decide)
          show (!((44 : Int) == (y.toNat : Int))) = true
          rw [show ((44 : Int) == (y.toNat : Int)) = false from this]
          rfl
        clear hv hne hy IX
        go_enter Tryz.func211, Tryz.ntmps211
        go_wp2_with (go_at_call 217; refine VR.out.mono ?_; rintro e w1 ⟨rfl, rfl⟩)
        go_step3
        go_wp2_with (go_at_call 216; refine (IXk.out _).mono ?_; rintro e w2 ⟨rfl, rfl⟩)
        go_loopw [9] (fun iv wr => iv = .int .i64 1 ∧ wr = w1) (fun _ _ => 0)
        case atStart => exact ⟨rfl, rfl⟩
        case round =>
          obtain ⟨rfl, rfl⟩ := hrel
          go_wp2_with fail
          go_step3
          go_wp2_with fail
          go_region
          go_wp2_with fail
          go_region_with (go_at_call 216; refine (IXk.out _).mono ?_; rintro e w2 ⟨rfl, rfl⟩)
          go_wp2_with fail
          simp (config := { zetaDelta := true }) only [Exit.inBlock, Exit.then, Exit.noGoto]
          go_ret
          exact ⟨rfl, ((Kept.refl [] wr).drew).drew⟩
      · have IXk : Hid (∀ w, Calls Tryz.prog 216 #[.string ⟨#[47]⟩, .int .u8 z.toNat] w fun e w' => e = .returned (.int .i64 (-1)) ∧ w' = w) := fun w => IX.out [47] ⟨#[47]⟩ z w rfl (by decide) hy
        have hne : ∀ m : Nat, m < 128 → ((m : Int) == (z.toNat : Int)) = false := fun m hm => by rw [beq_eq_false_iff_ne]; omega
        have hw2 : IntKind.i64.wrap 3 = 3 := by decide
        have hq : (((⟨#[58, 44, 35, 47]⟩ : ByteArray)[2].toNat : Int) != (((⟨#[x, y, z]⟩ : ByteArray)[2]'(by decide : (2 : Nat) < 3)).toNat : Int)) = true := by
          have := hne 35 (by decide)
          show (!((35 : Int) == (z.toNat : Int))) = true
          rw [show ((35 : Int) == (z.toNat : Int)) = false from this]
          rfl
        clear hv hne hy IX
        go_enter Tryz.func211, Tryz.ntmps211
        go_wp2_with (go_at_call 217; refine VR.out.mono ?_; rintro e w1 ⟨rfl, rfl⟩)
        go_step3
        go_wp2_with (go_at_call 216; refine (IXk.out _).mono ?_; rintro e w2 ⟨rfl, rfl⟩)
        go_loopw [9] (fun iv wr => iv = .int .i64 2 ∧ wr = w1) (fun _ _ => 0)
        case atStart => exact ⟨rfl, rfl⟩
        case round =>
          obtain ⟨rfl, rfl⟩ := hrel
          go_wp2_with fail
          go_step3
          go_wp2_with fail
          go_region
          go_wp2_with fail
          go_region_with (go_at_call 216; refine (IXk.out _).mono ?_; rintro e w2 ⟨rfl, rfl⟩)
          go_wp2_with fail
          simp (config := { zetaDelta := true }) only [Exit.inBlock, Exit.then, Exit.noGoto]
          go_ret
          exact ⟨rfl, ((Kept.refl [] wr).drew).drew⟩
      · have IXk : Hid (∀ w, Calls Tryz.prog 216 #[.string ⟨#[]⟩, .int .u8 u.toNat] w fun e w' => e = .returned (.int .i64 (-1)) ∧ w' = w) := fun w => IX.out [] ⟨#[]⟩ u w rfl (by decide) hy
        have hne : ∀ m : Nat, m < 128 → ((m : Int) == (u.toNat : Int)) = false := fun m hm => by rw [beq_eq_false_iff_ne]; omega
        have hw2 : IntKind.i64.wrap 4 = 4 := by decide
        have hq : (((⟨#[58, 44, 35, 47]⟩ : ByteArray)[3].toNat : Int) != (((⟨#[x, y, z, u]⟩ : ByteArray)[3]'(by decide : (3 : Nat) < 4)).toNat : Int)) = true := by
          have := hne 47 (by decide)
          show (!((47 : Int) == (u.toNat : Int))) = true
          rw [show ((47 : Int) == (u.toNat : Int)) = false from this]
          rfl
        clear hv hne hy IX
        go_enter Tryz.func211, Tryz.ntmps211
        go_wp2_with (go_at_call 217; refine VR.out.mono ?_; rintro e w1 ⟨rfl, rfl⟩)
        go_step3
        go_wp2_with (go_at_call 216; refine (IXk.out _).mono ?_; rintro e w2 ⟨rfl, rfl⟩)
        go_loopw [9] (fun iv wr => iv = .int .i64 3 ∧ wr = w1) (fun _ _ => 0)
        case atStart => exact ⟨rfl, rfl⟩
        case round =>
          obtain ⟨rfl, rfl⟩ := hrel
          go_wp2_with fail
          go_step3
          go_wp2_with fail
          go_region
          go_wp2_with fail
          go_region_with (go_at_call 216; refine (IXk.out _).mono ?_; rintro e w2 ⟨rfl, rfl⟩)
          go_wp2_with fail
          simp (config := { zetaDelta := true }) only [Exit.inBlock, Exit.then, Exit.noGoto]
          go_ret
          exact ⟨rfl, ((Kept.refl [] wr).drew).drew⟩
end Us
end Go.Proofs.YtahjmpfjidijaaaGreatDoor
end
section
namespace Go.Proofs.YtahjmpfjidijaaaGreatDoor
set_option linter.unusedVariables false
open Go.RowKit Go.Shelf Go.Lib
attribute [local go_sem] Oper.semAt_some
theorem Kept.iterAt {S : List Nat} {a w : World} (h : Kept S a w) {k : Nat} (hk : a.heap.size ≤ k) (s : ByteArray) (pos : Nat) : Kept S a (w.iterAt k s pos) :=
  ⟨h.os, h.tape, h.output, by rw [iterAt_size]; exact h.size, fun i hi hn => (iterAt_other w k i s pos (by omega)).trans (h.block i hi hn)⟩
namespace Us
open Go.Proofs.YtahjmpfjidijaaaGreatDoor.Utf Go.Proofs.YtahjmpfjidijaaaGreatDoor.Txt Go.PlainAid
/-- Where an iterator stands. -/
def posOf (w : World) (k : Nat) : Nat := match w.heap[k]? with | some (.stringIter _ p) => p | _ => 0
theorem posOf_eq {w : World} {k : Nat} {s : ByteArray} {a : Nat} (h : w.heap[k]? = some (.stringIter s a)) : posOf w k = a := by unfold posOf; rw [h]

theorem ret_bool {a b : Bool} (h : a = b) : Ending.returned (.bool a) = .returned (.bool b) := by rw [h]
set_option maxHeartbeats 4000000 in
set_option maxRecDepth 100000 in
theorem containsRune_any (w : World) (r : Int) (h0 : 0 ≤ r) :
    Calls Tryz.prog 201 #[.string ⟨#[58, 44, 35, 47]⟩, .int .i32 r] w fun e w' => e = .returned (.bool (if r < 128 then decide (0 ≤ Lib.indexByte sepb.data.toList r.toNat.toUInt8) else false)) ∧ Kept [] w w' := by
  by_cases h : r < 128
  · rw [if_pos h]
    refine (Tryz.strings_ContainsRune_ascii sepb r w h0 h).mono ?_
    rintro e w' ⟨rfl, rfl⟩
    exact ⟨rfl, Kept.refl _ _⟩
  · rw [if_neg h]
    have IR := Lib.hid (indexRune_high w r (by omega))
    clear h
    go_enter Tryz.func201, Tryz.ntmps201
    go_wp2_with (go_at_call 211; refine IR.out.mono ?_; rintro e w1 ⟨rfl, k1⟩)
    go_ret
    exact ⟨rfl, k1⟩

/-- The test of one character. -/
def runeOk (r : Int) : Bool := decide (32 < r) && !(r == 127) && !(if r < 128 then decide (0 ≤ Lib.indexByte sepb.data.toList r.toNat.toUInt8) else false)

theorem char_step {s : ByteArray} {a : Nat} {p : UInt8 → Bool} {ok : Int → Bool} (h : a < s.size)
    (low : ∀ n : Nat, n < 128 → ok (n : Int) = p (UInt8.ofNat n)) (high : (∀ n : Nat, 128 ≤ n → n < 256 → p (UInt8.ofNat n) = ok 128) ∧ ∀ r : Nat, 128 ≤ r → ok (r : Int) = ok 128) (hA : ((dl s).take a).all p = true) :
    1 ≤ (Utf8.decode s a).2 ∧ (ok ((Utf8.decode s a).1 : Int) = false → (dl s).all p = false) ∧ (ok ((Utf8.decode s a).1 : Int) = true → a + (Utf8.decode s a).2 ≤ s.size ∧ ((dl s).take (a + (Utf8.decode s a).2)).all p = true) := by
  have hd := dl_length s
  rcases char_facts s a h with ⟨g, e1, e2⟩ | ⟨g, g1, g2, e2, hk⟩
  · rw [e1, e2]
    refine ⟨Nat.le_refl 1, fun hf => ?_, fun hf => ⟨by omega, ?_⟩⟩
    · refine all_no (k := a) (by omega) ?_
      rw [gb_dl s a h, ← low _ g]
      exact hf
    · refine all_step hA fun k h1 h2 => ⟨by omega, ?_⟩
      obtain rfl : k = a := by omega
      rw [gb_dl s k h, ← low _ g]
      exact hf
  · rw [high.2 _ g1]
    refine ⟨e2, fun hf => ?_, fun hf => ⟨?_, ?_⟩⟩
    · refine all_no (k := a) (by omega) ?_
      rw [gb_dl s a h, high.1 _ g (gb_lt s a)]
      exact hf
    · have := hk (a + (Utf8.decode s a).2 - 1) (by omega) (by omega)
      omega
    · refine all_step hA fun k h1 h2 => ?_
      obtain ⟨h3, h4⟩ := hk k h1 h2
      refine ⟨by omega, ?_⟩
      rw [gb_dl s k h3, high.1 _ h4 (gb_lt s k)]
      exact hf
theorem name_low (n : Nat) (h : n < 128) : runeOk (n : Int) = nameByte (UInt8.ofNat n) := by
  rw [nameByte_low h]
  unfold runeOk
  rw [if_pos (by omega)]
  have e1 : (n : Int).toNat.toUInt8 = UInt8.ofNat n := by simp
  have e2 : decide ((32 : Int) < (n : Int)) = decide (32 < n) := by rw [decide_eq_decide]; omega
  have e3 : ((n : Int) == 127) = (n == 127) := by rw [Bool.eq_iff_iff, beq_iff_eq, beq_iff_eq]; omega
  rw [e1, e2, e3]
theorem name_high : (∀ n : Nat, 128 ≤ n → n < 256 → nameByte (UInt8.ofNat n) = runeOk 128) ∧ ∀ r : Nat, 128 ≤ r → runeOk (r : Int) = runeOk 128 := by
  have h128 : runeOk 128 = true := by decide
  rw [h128]
  refine ⟨fun n h h2 => nameByte_high h h2, fun r h => ?_⟩
  unfold runeOk
  rw [if_neg (by omega), decide_eq_true (by omega : (32 : Int) < r)]
  have e3 : ((r : Int) == 127) = false := by rw [beq_eq_false_iff_ne]; omega
  rw [e3]
  rfl

set_option maxHeartbeats 8000000 in
set_option maxRecDepth 100000 in
/-- May somebody be called so? -/
theorem isName_any (w : World) (s : ByteArray) (hs : s.size ≤ 140737488355328) : Calls Tryz.prog 176 #[.string s] w fun e w' => e = .returned (.bool (isName s)) ∧ Kept [] w w' := by
  obtain ⟨z, hz⟩ : ∃ z, z = isName s := ⟨_, rfl⟩
  have HZ := Lib.hid hz
  rw [← hz]
  have GOOD := Lib.hid (fun w => good_any s w hs)
  by_cases h1 : s.toList = []
  · have hv : z = false := by
      rw [hz]; unfold isName
      have : s.size = 0 := by rw [← dl_length]; unfold dl; rw [← ByteArray.toList_eq, h1]; rfl
      simp [this]
    subst hv
    clear hz HZ
    go_enter Tryz.func176, Tryz.ntmps176
    go_wp2_with fail
    go_ret
    exact ⟨rfl, Kept.refl _ _⟩
  have b1 : s.toList.isEmpty = false := by rw [List.isEmpty_eq_false_iff]; exact h1
  have b0 : (s.toList == []) = false := by rw [beq_eq_false_iff_ne]; exact h1
  have hp : 1 ≤ s.size := by
    rw [← dl_length]; unfold dl; rw [← ByteArray.toList_eq]
    exact List.length_pos_iff.2 h1
  by_cases h2 : s.size ≤ 32
  · have i2 : ¬ (32 : Int) < (s.size : Int) := by omega
    obtain ⟨g, hg⟩ : ∃ g, g = good s := ⟨_, rfl⟩
    rw [← hg] at GOOD
    cases g with
    | false =>
      have hv : z = false := by rw [hz]; unfold isName; rw [← hg]; simp
      subst hv
      clear hz HZ hg h1
      go_enter Tryz.func176, Tryz.ntmps176
      go_wp2_with (go_at_call 164; refine (GOOD.out _).mono ?_; rintro e w1 ⟨rfl, kb⟩)
      go_ret
      exact ⟨rfl, Kept.of_below kb []⟩
    | true =>
      have HZ2 : Hid (z = (dl s).all nameByte) := by
        show _ = _
        rw [hz]; unfold isName; rw [← hg, decide_eq_true hp, decide_eq_true h2]; simp
      clear hz HZ hg h1
      go_enter Tryz.func176, Tryz.ntmps176
      go_wp2_with (go_at_call 164; refine (GOOD.out _).mono ?_; rintro e w1 ⟨rfl, kb⟩)
      have K1 : Hid (Kept [] w w1) := Kept.of_below kb []
      clear kb GOOD
      obtain ⟨p, hp⟩ : ∃ p, p = w1.heap.size := ⟨_, rfl⟩
      obtain ⟨w2, hw2⟩ : ∃ w2, w2 = w1.iter s 0 := ⟨_, rfl⟩
      have I2 : Hid (w2.heap[p]? = some (.stringIter s 0)) := by show _ = _; rw [hw2, hp]; exact World.iter_heap w1 s 0
      have K2 : Hid (Kept [] w w2) := by
        have : Kept [] w1 w2 := by rw [hw2]; exact (Kept.refl _ _).alloc _
        exact K1.out.trans this (fun i hi => by simp at hi)
      have PW : Hid (w.heap.size ≤ p) := by have := K1.out.size; show _ ≤ _; omega
      rw [← hw2, ← hp]
      clear hw2 hp K1
      go_loopw [] (fun wr => ∃ a : Nat, a ≤ s.size ∧ Hid (((dl s).take a).all nameByte = true) ∧ Hid (wr.heap[p]? = some (.stringIter s a)) ∧ Hid (Kept [] w wr)) (fun wr => s.size - posOf wr p)
      case atStart => exact ⟨0, by omega, rfl, I2, K2⟩
      case round =>
        obtain ⟨a, ha, hA, hI, hK⟩ := hrel
        clear I2 K2
        by_cases hlt : a < s.size
        · have hnx := fun ty => run_next_any_at (P := Tryz.prog) wr p s a ty hI.out hlt
          obtain ⟨wn, hwn⟩ : ∃ wn, wn = wr.iterAt p s (a + (Utf8.decode s a).2) := ⟨_, rfl⟩
          have hIn : Hid (wn.heap[p]? = some (.stringIter s (a + (Utf8.decode s a).2))) := by rw [hwn]; exact iterAt_heap wr p s a _ hI.out
          have hKn : Hid (Kept [] w wn) := by rw [hwn]; exact hK.out.iterAt PW.out s _
          have hpw : Hid (p < wr.heap.size) := block_lt hI.out
          have MS : Hid (posOf wr p = a) := posOf_eq hI.out
          rw [← hwn] at hnx
          have STEP := Lib.hid (char_step (p := nameByte) (ok := runeOk) hlt name_low name_high hA.out)
          obtain ⟨r, hr⟩ : ∃ r, r = (Utf8.decode s a).1 := ⟨_, rfl⟩
          obtain ⟨n, hn⟩ : ∃ n, n = (Utf8.decode s a).2 := ⟨_, rfl⟩
          rw [← hr, ← hn] at STEP
          rw [← hr] at hnx
          rw [← hn] at hIn
          have S0 := Lib.hid STEP.out.1
          clear hr hn hwn hI hK
          have CR := Lib.hid (fun w => containsRune_any w (r : Int) (by omega))
          by_cases c1 : (r : Int) ≤ 32
          · have hz : z = false := by
              rw [HZ2.out]
              refine STEP.out.2.1 ?_
              unfold runeOk
              rw [decide_eq_false (by omega)]
              rfl
            subst hz
            clear STEP
            go_wp2_with fail
            go_ret
            exact ⟨rfl, hKn.out⟩
          by_cases c2 : ((r : Int) == 127) = true
          · have hz : z = false := by
              rw [HZ2.out]
              refine STEP.out.2.1 ?_
              unfold runeOk
              rw [c2]
              simp
            subst hz
            clear STEP
            go_wp2_with fail
            go_ret
            exact ⟨rfl, hKn.out⟩
          have c2' : ((r : Int) == 127) = false := by simpa using c2
          have RK : Hid (runeOk (r : Int) = !(if (r : Int) < 128 then decide (0 ≤ Lib.indexByte sepb.data.toList (r : Int).toNat.toUInt8) else false)) := by
            show _ = _
            conv => lhs; unfold runeOk
            rw [decide_eq_true (by omega : (32 : Int) < r), c2']
            rfl
          obtain ⟨q, hq⟩ : ∃ q, q = (if (r : Int) < 128 then decide (0 ≤ Lib.indexByte sepb.data.toList (r : Int).toNat.toUInt8) else false) := ⟨_, rfl⟩
          rw [← hq] at CR RK
          clear hq c2
          cases q with
          | true =>
            have hz : z = false := by rw [HZ2.out]; exact STEP.out.2.1 (by rw [RK.out]; rfl)
            subst hz
            clear STEP
            go_wp2_with (go_at_call 201; refine (CR.out _).mono ?_; rintro e w3 ⟨rfl, k3⟩)
            go_ret
            exact ⟨rfl, hKn.out.trans k3 (fun i hi => by simp at hi)⟩
          | false =>
            have ST2 := Lib.hid (STEP.out.2.2 (by rw [RK.out]; rfl))
            clear STEP
            go_wp2_with (go_at_call 201; refine (CR.out _).mono ?_; rintro e w3 ⟨rfl, k3⟩)
            have I3 := (k3.block _ (block_lt hIn.out) (by simp)).trans hIn.out
            go_roundw
            case rel => exact ⟨a + n, ST2.out.1, ST2.out.2, I3, hKn.out.trans k3 (fun i hi => by simp at hi)⟩
            case measure => rw [posOf_eq I3, MS.out]; have := S0.out; omega
        · have hnx := fun ty => run_next_end_at (P := Tryz.prog) wr p s a ty hI.out hlt
          have hAA : (dl s).all nameByte = true := by
            have := hA.out
            rwa [List.take_of_length_le (by rw [dl_length]; omega)] at this
          have hz : z = true := by rw [HZ2.out]; exact hAA
          subst hz
          clear hAA
          go_wp2_with fail
          go_ret
          exact ⟨rfl, hK.out⟩
  · have hv : z = false := by rw [hz]; unfold isName; rw [decide_eq_false h2]; simp
    subst hv
    have i2 : (32 : Int) < (s.size : Int) := by omega
    clear hz HZ h1
    go_enter Tryz.func176, Tryz.ntmps176
    go_wp2_with fail
    go_ret
    exact ⟨rfl, Kept.refl _ _⟩
/-- The test of one character of a key. -/
def keyR (r : Int) : Bool := decide (32 < r) && decide (r ≤ 126) && !(r == 58)
theorem key_low (n : Nat) (h : n < 128) : keyR (n : Int) = keyByte (UInt8.ofNat n) := by
  rw [keyByte_low h]
  unfold keyR
  have e1 : decide ((n : Int) ≤ 126) = decide (n ≤ 126) := by rw [decide_eq_decide]; omega
  have e2 : decide ((32 : Int) < (n : Int)) = decide (32 < n) := by rw [decide_eq_decide]; omega
  have e3 : ((n : Int) == 58) = (n == 58) := by rw [Bool.eq_iff_iff, beq_iff_eq, beq_iff_eq]; omega
  rw [e1, e2, e3]
theorem key_high : (∀ n : Nat, 128 ≤ n → n < 256 → keyByte (UInt8.ofNat n) = keyR 128) ∧ ∀ r : Nat, 128 ≤ r → keyR (r : Int) = keyR 128 := by
  have h128 : keyR 128 = false := by decide
  rw [h128]
  refine ⟨fun n h h2 => keyByte_high h h2, fun r h => ?_⟩
  unfold keyR
  rw [decide_eq_false (by omega : ¬ (r : Int) ≤ 126)]
  simp
set_option maxHeartbeats 8000000 in
set_option maxRecDepth 100000 in
/-- May a key be so? -/
theorem isKey_any (w : World) (s : ByteArray) (hs : s.size ≤ 140737488355328) : Calls Tryz.prog 133 #[.string s] w fun e w' => e = .returned (.bool (isKey s)) ∧ Kept [] w w' := by
  obtain ⟨z, hz⟩ : ∃ z, z = isKey s := ⟨_, rfl⟩
  have HZ2 : Hid (z = ((dl s).all keyByte && decide (s.size ≤ 32))) := hz
  rw [← hz]
  clear hz
  go_enter Tryz.func133, Tryz.ntmps133
  go_wp2_with fail
  obtain ⟨p, hp⟩ : ∃ p, p = w.heap.size := ⟨_, rfl⟩
  obtain ⟨w2, hw2⟩ : ∃ w2, w2 = w.iter s 0 := ⟨_, rfl⟩
  have I2 : Hid (w2.heap[p]? = some (.stringIter s 0)) := by show _ = _; rw [hw2, hp]; exact World.iter_heap w s 0
  have K2 : Hid (Kept [] w w2) := by
    rw [hw2]; exact (Kept.refl _ _).alloc _
  have PW : Hid (w.heap.size ≤ p) := by show _ ≤ _; omega
  rw [← hw2, ← hp]
  clear hw2 hp
  go_loopw [] (fun wr => ∃ a : Nat, a ≤ s.size ∧ Hid (((dl s).take a).all keyByte = true) ∧ Hid (wr.heap[p]? = some (.stringIter s a)) ∧ Hid (Kept [] w wr)) (fun wr => s.size - posOf wr p)
  case atStart => exact ⟨0, by omega, rfl, I2, K2⟩
  case round =>
    obtain ⟨a, ha, hA, hI, hK⟩ := hrel
    clear I2 K2
    by_cases hlt : a < s.size
    · have hnx := fun ty => run_next_any_at (P := Tryz.prog) wr p s a ty hI.out hlt
      obtain ⟨wn, hwn⟩ : ∃ wn, wn = wr.iterAt p s (a + (Utf8.decode s a).2) := ⟨_, rfl⟩
      have hIn : Hid (wn.heap[p]? = some (.stringIter s (a + (Utf8.decode s a).2))) := by rw [hwn]; exact iterAt_heap wr p s a _ hI.out
      have hKn : Hid (Kept [] w wn) := by rw [hwn]; exact hK.out.iterAt PW.out s _
      have hpw : Hid (p < wr.heap.size) := block_lt hI.out
      have MS : Hid (posOf wr p = a) := posOf_eq hI.out
      rw [← hwn] at hnx
      have STEP := Lib.hid (char_step (p := keyByte) (ok := keyR) hlt key_low key_high hA.out)
      obtain ⟨r, hr⟩ : ∃ r, r = (Utf8.decode s a).1 := ⟨_, rfl⟩
      obtain ⟨n, hn⟩ : ∃ n, n = (Utf8.decode s a).2 := ⟨_, rfl⟩
      rw [← hr, ← hn] at STEP
      rw [← hr] at hnx
      rw [← hn] at hIn
      have S0 := Lib.hid STEP.out.1
      clear hr hn hwn hI hK
      by_cases c1 : (r : Int) ≤ 32
      · have hz : z = false := by
          rw [HZ2.out, STEP.out.2.1 (by unfold keyR; rw [decide_eq_false (by omega)]; rfl)]
          rfl
        subst hz
        clear STEP
        go_wp2_with fail
        go_ret
        exact ⟨rfl, hKn.out⟩
      by_cases c2 : (126 : Int) < (r : Int)
      · have hz : z = false := by
          rw [HZ2.out, STEP.out.2.1 (by unfold keyR; rw [decide_eq_false (by omega : ¬ (r : Int) ≤ 126)]; simp)]
          rfl
        subst hz
        clear STEP
        go_wp2_with fail
        go_ret
        exact ⟨rfl, hKn.out⟩
      have RK : Hid (keyR (r : Int) = !((r : Int) == 58)) := by
        show _ = _
        conv => lhs; unfold keyR
        rw [decide_eq_true (by omega : (32 : Int) < r), decide_eq_true (by omega : (r : Int) ≤ 126)]
        rfl
      obtain ⟨q, hq⟩ : ∃ q, ((r : Int) == 58) = q := ⟨_, rfl⟩
      rw [hq] at RK
      cases q with
      | true =>
        have hz : z = false := by
          rw [HZ2.out, STEP.out.2.1 (by rw [RK.out]; rfl)]
          rfl
        subst hz
        clear STEP
        go_wp2_with fail
        go_ret
        exact ⟨rfl, hKn.out⟩
      | false =>
        have ST2 := Lib.hid (STEP.out.2.2 (by rw [RK.out]; rfl))
        clear STEP
        go_wp2_with fail
        go_roundw
        case rel => exact ⟨a + n, ST2.out.1, ST2.out.2, hIn, hKn⟩
        case measure => rw [posOf_eq hIn.out, MS.out]; have := S0.out; omega
    · have hnx := fun ty => run_next_end_at (P := Tryz.prog) wr p s a ty hI.out hlt
      have hAA : (dl s).all keyByte = true := by
        have := hA.out
        rwa [List.take_of_length_le (by rw [dl_length]; omega)] at this
      by_cases h32 : s.size ≤ 32
      · have i32 : (s.size : Int) ≤ 32 := by omega
        have hz : z = true := by rw [HZ2.out, hAA, decide_eq_true h32]; rfl
        subst hz
        clear hAA
        go_wp2_with fail
        go_ret
        exact ⟨rfl, hK.out⟩
      · have i32 : ¬ (s.size : Int) ≤ 32 := by omega
        have hz : z = false := by rw [HZ2.out, hAA, decide_eq_false h32]; rfl
        subst hz
        clear hAA
        go_wp2_with fail
        go_ret
        exact ⟨rfl, hK.out⟩

end Us
end Go.Proofs.YtahjmpfjidijaaaGreatDoor
end
section
namespace Go.Proofs.YtahjmpfjidijaaaGreatDoor
set_option linter.unusedVariables false
open Go.RowKit Go.Shelf
attribute [local go_sem] Oper.semAt_some
namespace Us
open Go.Proofs.YtahjmpfjidijaaaGreatDoor.Utf Go.Proofs.YtahjmpfjidijaaaGreatDoor.Txt Go.PlainAid

def sv (x : ByteArray) : Value := .string x
/-- Texts in memory, or none. -/
def Mem (w : World) (v : Value) (ms : List ByteArray) : Prop := w.ownsRow 0 9 1 v ms.length (ms.map sv)
theorem own_kept {w w' : World} {S : List Nat} {base : Nat} {e : TypeId} {size : Nat} {v : Value} {n : Nat} {xs : List Value} (h : w.ownsRow base e size v n xs) (hk : Kept S w w') (hd : ∀ k, v.ownBlock = some k → k ∉ S) : w'.ownsRow base e size v n xs := by
  refine ⟨h.1, ?_⟩
  rcases h.2 with h2 | ⟨g, cap, cur, rfl, a1, a2, a3, a4, a5, a6⟩
  · exact Or.inl h2
  · exact Or.inr ⟨g, cap, cur, rfl, a1, (hk.block g (block_lt a2) (hd g rfl)).trans a2, a3, a4, a5, a6⟩
theorem Mem.kept {w w' : World} {v : Value} {ms : List ByteArray} {S : List Nat} (h : Mem w v ms) (k : Kept S w w') (hd : ∀ b, v.ownBlock = some b → b ∉ S) : Mem w' v ms := own_kept h k hd
theorem Mem.kept0 {w w' : World} {v : Value} {ms : List ByteArray} (h : Mem w v ms) (k : Kept [] w w') : Mem w' v ms := h.kept k (fun _ _ hm => by cases hm)
theorem Mem.slice {w : World} {v : Value} {ms : List ByteArray} (h : Mem w v ms) : ∃ a c, v = .slice a ms.length c := by
  rcases h.2 with ⟨rfl, e⟩ | ⟨g, cap, cur, rfl, _⟩
  · exact ⟨none, 0, by rw [e]⟩
  · exact ⟨_, _, rfl⟩
theorem Mem.at' {w : World} {a : Option Addr} {c : Nat} {ms : List ByteArray} (h : Mem w (.slice a ms.length c) ms) {k : Nat} (hk : k < ms.length) : ∃ g, a = some ⟨g, 0, none⟩ ∧ w.cell? ⟨g, k, none⟩ = some (.string ms[k]) ∧ g < w.heap.size := by
  rcases h.2 with ⟨_, h0⟩ | ⟨g, cap, cur, e, _, hg, _⟩
  · omega
  · cases e
    refine ⟨g, rfl, ?_, block_lt hg⟩
    have := World.ownsRow.cellAt h k (by omega)
    rw [this]
    simp [sv, hk]

/-- The ending of what was given up. -/
abbrev fell (k : Int) : Ending := .panicked [{ v := .iface 28 (.int .i64 k), recovered := false }]
theorem giveUp_any (w : World) (k : Int) : Calls Tryz.prog 97 #[.int .i64 k] w fun e w' => e = fell k ∧ w' = w := by
  go_enter Tryz.func97, Tryz.ntmps97
  go_wp2_with fail
  exact ⟨rfl, rfl, rfl⟩
theorem mustBeName_ok (w : World) (s : ByteArray) (hs : s.size ≤ 140737488355328) (h : isName s = true) : Calls Tryz.prog 132 #[.string s] w fun e w' => e = .returned (.tuple #[]) ∧ Kept [] w w' := by
  have IN := Lib.hid (isName_any w s hs)
  rw [h] at IN
  clear h
  go_enter Tryz.func132, Tryz.ntmps132
  go_wp2_with (go_at_call 176; refine IN.out.mono ?_; rintro e w1 ⟨rfl, k1⟩)
  go_end0
  exact ⟨rfl, k1⟩
theorem mustBeName_no (w : World) (s : ByteArray) (hs : s.size ≤ 140737488355328) (h : isName s = false) : Calls Tryz.prog 132 #[.string s] w fun e w' => e = fell 60 ∧ Kept [] w w' := by
  have IN := Lib.hid (isName_any w s hs)
  rw [h] at IN
  clear h
  go_enter Tryz.func132, Tryz.ntmps132
  go_wp2_with (first | (go_at_call 176; refine IN.out.mono ?_; rintro e w1 ⟨rfl, k1⟩) | (go_at_call 97; refine (giveUp_any _ 60).mono ?_; rintro e w2 ⟨rfl, rfl⟩))
  exact ⟨rfl, rfl, k1⟩

/-- An account as it lies. -/
def accV (n l k : ByteArray) (ms : Value) : Value := .agg #[.string n, .string l, ms, .string k]
/-- The forms, one after the other. -/
def OutF (w : World) (ok : Bool) (e : Ending) (w' : World) : Prop := (ok = true ∧ e = .returned (.tuple #[]) ∧ Kept [] w w') ∨ (ok = false ∧ e = fell 60 ∧ Kept [] w w')
theorem lead_ne {s : ByteArray} (h : ¬ s.size = 0) : s.toList ≠ [] := fun e => h (by rw [← dl_length]; unfold dl; rw [← ByteArray.toList_eq, e]; rfl)
theorem lead_eq {s : ByteArray} (h : s.size = 0) : s.toList = [] := by
  have := dl_length s
  unfold dl at this
  rw [ByteArray.toList_eq]
  exact List.eq_nil_of_length_eq_zero (by omega)
theorem take_all {p : ByteArray → Bool} {ms : List ByteArray} {k : Nat} (hk : k < ms.length) (h : (ms.take k).all p = true) (h2 : p ms[k] = true) : (ms.take (k + 1)).all p = true := by
  rw [List.take_succ_eq_append_getElem hk, List.all_append, h]; simp [h2]
theorem not_all {p : ByteArray → Bool} {ms : List ByteArray} {k : Nat} (hk : k < ms.length) (h2 : p ms[k] = false) : ms.all p = false := by
  rw [List.all_eq_false]; exact ⟨ms[k], List.getElem_mem hk, by rw [h2]; decide⟩

set_option maxHeartbeats 8000000 in
set_option maxRecDepth 100000 in
/-- Has an account the forms? -/
theorem mustHaveForm_any (w : World) (a : Acc) (v : Value) (hm : Mem w v a.members) (hn : a.name.size ≤ 1048576) (hl : a.leader.size ≤ 1048576) (hk : a.key.size ≤ 1048576) (hz : ∀ m ∈ a.members, m.size ≤ 1048576) (hlen : a.members.length ≤ 1048576) :
    Calls Tryz.prog 87 #[accV a.name a.leader a.key v] w (OutF w (form a)) := by
  obtain ⟨name, leader, ms, key⟩ := a
  simp only at hm hn hl hk hz hlen ⊢
  obtain ⟨va, vc, rfl⟩ := hm.slice
  unfold accV
  obtain ⟨z, hz0⟩ : ∃ z, z = form ⟨name, leader, ms, key⟩ := ⟨_, rfl⟩
  have FZ : Hid (z = (isName name && leadOk leader && ms.all isName && isKey key)) := hz0
  rw [← hz0]
  clear hz0
  have HM := Lib.hid hm
  have HZ := Lib.hid hz
  have NOK := Lib.hid (fun w s hs h => mustBeName_ok w s hs h)
  have NNO := Lib.hid (fun w s hs h => mustBeName_no w s hs h)
  have KEY := Lib.hid (fun w => isKey_any w key (by omega))
  obtain ⟨w1, hw1⟩ : ∃ w1, w1 = w.alloc (.cells #[.string name, .string leader, .slice va ms.length vc, .string key] 79) := ⟨_, rfl⟩
  obtain ⟨R1, hR1⟩ : ∃ R, R = w.heap.size := ⟨_, rfl⟩
  have K1 : Hid (Kept [] w w1) := by rw [hw1]; exact (Kept.refl _ _).alloc _
  have B1 : Hid (w1.heap[R1]? = some (.cells #[.string name, .string leader, .slice va ms.length vc, .string key] 79 (0, 0))) := by rw [hw1, hR1]; exact (MapKept.heap_alloc w _).1
  have HW1 := Lib.hid hw1
  have HR1 := Lib.hid hR1
  have CELLS : Hid (∀ wr, Kept [] w1 wr → wr.cell? ⟨R1, 0, none⟩ = some (.string name) ∧ wr.cell? ⟨R1, 1, none⟩ = some (.string leader) ∧ wr.cell? ⟨R1, 2, none⟩ = some (.slice va ms.length vc) ∧ wr.cell? ⟨R1, 3, none⟩ = some (.string key)) := fun wr k => by
    have b := (k.block _ (block_lt B1.out) (by simp)).trans B1.out
    refine ⟨?_, ?_, ?_, ?_⟩ <;> (rw [cell_of_row wr R1 _ _ _ (0, 0) b]; rfl)
  clear hw1 hR1 hm hz
  obtain ⟨c0, c1, c2, c3⟩ := CELLS.out w1 (Kept.refl _ _)
  cases hnm : isName name with
  | false =>
    have hz : z = false := by rw [FZ.out, hnm]; simp
    subst hz
    go_enter Tryz.func87, Tryz.ntmps87
    go_wp2_with fail
    rw [← HW1.out, ← HR1.out]
    go_wp2_with (go_at_call 132; refine (NNO.out _ name (by omega) hnm).mono ?_; rintro e w2 ⟨rfl, k2⟩)
    exact ⟨rfl, Or.inr ⟨rfl, rfl, K1.out.trans k2 (fun i hi => by simp at hi)⟩⟩
  | true =>
    cases hldo : leadOk leader with
    | false =>
      have hz : z = false := by rw [FZ.out, hldo]; simp
      subst hz
      have h0 : ¬ leader.size = 0 := fun h => by unfold leadOk at hldo; rw [decide_eq_true h] at hldo; cases hldo
      have hn2 : isName leader = false := by unfold leadOk at hldo; rw [decide_eq_false h0, Bool.false_or] at hldo; exact hldo
      have h1 := lead_ne h0
      have b1 : leader.toList.isEmpty = false := by rw [List.isEmpty_eq_false_iff]; exact h1
      have b0 : (leader.toList == []) = false := by rw [beq_eq_false_iff_ne]; exact h1
      clear hldo h0 h1
      go_enter Tryz.func87, Tryz.ntmps87
      go_wp2_with fail
      rw [← HW1.out, ← HR1.out]
      clear HW1 HR1
      go_wp2_with (first | (go_at_call 132; refine (NOK.out _ name (by omega) hnm).mono ?_; rintro e w2 ⟨rfl, k2⟩; obtain ⟨d0, d1, d2, d3⟩ := CELLS.out w2 k2) | (go_at_call 132; refine (NNO.out _ leader (by omega) hn2).mono ?_; rintro e w3 ⟨rfl, k3⟩))
      exact ⟨rfl, Or.inr ⟨rfl, rfl, K1.out.trans (k2.trans k3 (fun i hi => by simp at hi)) (fun i hi => by simp at hi)⟩⟩
    | true =>
      by_cases h0 : leader.size = 0
      · have h1 := lead_eq h0
        clear h0
        go_enter Tryz.func87, Tryz.ntmps87
        go_wp2_with fail
        rw [← HW1.out, ← HR1.out]
        clear HW1 HR1
        go_wp2_with (first | (go_at_call 132; refine (NOK.out _ name (by omega) hnm).mono ?_; rintro e w2 ⟨rfl, k2⟩; obtain ⟨d0, d1, d2, d3⟩ := CELLS.out w2 k2))
        have KK : Hid (Kept [] w1 w2) := k2
        clear k2 d0 d1 d2 d3 c0 c1 c2 c3
        go_loopw [16] (fun iv wr => ∃ k : Nat, iv = .int .i64 k ∧ k ≤ ms.length ∧ Hid ((ms.take k).all isName = true) ∧ Hid (Kept [] w1 wr)) (fun iv _ => ms.length - (intOf iv).toNat)
        case atStart => exact ⟨0, rfl, by omega, rfl, KK.out⟩
        case round =>
          obtain ⟨k, rfl, hkl, hA, hK⟩ := hrel
          clear KK
          obtain ⟨e0, e1, e2, e3⟩ := CELLS.out wr hK.out
          by_cases hlt : k < ms.length
          · have j1 : (k : Int) < (ms.length : Int) := by omega
            obtain ⟨g, hg, cg, hgl⟩ := (HM.out.kept0 (K1.out.trans hK.out (fun i hi => by simp at hi))).at' hlt
            subst hg
            have hs1 := HZ.out ms[k] (List.getElem_mem hlt)
            have TK := Lib.hid (fun h => take_all (p := isName) hlt hA.out h)
            have NA := Lib.hid (fun h => not_all (p := isName) hlt h)
            obtain ⟨x, hx⟩ : ∃ x, x = ms[k] := ⟨_, rfl⟩
            rw [← hx] at cg hs1 TK NA
            clear hx
            cases hxn : isName x with
            | false =>
              have hz : z = false := by rw [FZ.out, NA.out hxn]; simp
              subst hz
              clear TK NA
              go_wp2_with (first | (go_at_call 132; refine (NNO.out _ x (by omega) hxn).mono ?_; rintro e w3 ⟨rfl, k3⟩))
              exact ⟨rfl, Or.inr ⟨rfl, rfl, K1.out.trans (hK.out.trans k3 (fun i hi => by simp at hi)) (fun i hi => by simp at hi)⟩⟩
            | true =>
              have TK2 := Lib.hid (TK.out hxn)
              clear TK NA
              go_wp2_with (first | (go_at_call 132; refine (NOK.out _ x (by omega) hxn).mono ?_; rintro e w3 ⟨rfl, k3⟩))
              go_roundw
              case rel => exact ⟨k + 1, by go_num, by omega, TK2.out, hK.out.trans k3 (fun i hi => by simp at hi)⟩
              case measure => simp [intOf]; omega
          · have j1 : ¬ (k : Int) < (ms.length : Int) := by omega
            have hall : ms.all isName = true := by have := hA.out; rwa [List.take_of_length_le (by omega)] at this
            have HZK : Hid (z = isKey key) := by show _ = _; rw [FZ.out, hnm, hldo, hall]; simp
            obtain ⟨q, hq⟩ : ∃ q, q = isKey key := ⟨_, rfl⟩
            rw [← hq] at KEY HZK
            clear hq hall
            cases q with
            | false =>
              have hz : z = false := HZK.out
              subst hz
              go_wp2_with (first | (go_at_call 133; refine (KEY.out _).mono ?_; rintro e w3 ⟨rfl, k3⟩) | (go_at_call 97; refine (giveUp_any _ 60).mono ?_; rintro e w4 ⟨rfl, rfl⟩))
              exact ⟨rfl, Or.inr ⟨rfl, rfl, K1.out.trans (hK.out.trans k3 (fun i hi => by simp at hi)) (fun i hi => by simp at hi)⟩⟩
            | true =>
              have hz : z = true := HZK.out
              subst hz
              go_wp2_with (first | (go_at_call 133; refine (KEY.out _).mono ?_; rintro e w3 ⟨rfl, k3⟩))
              go_end0
              exact Or.inl ⟨rfl, rfl, K1.out.trans (hK.out.trans k3 (fun i hi => by simp at hi)) (fun i hi => by simp at hi)⟩
      · have hn2 : isName leader = true := by unfold leadOk at hldo; rw [decide_eq_false h0, Bool.false_or] at hldo; exact hldo
        have h1 := lead_ne h0
        have b1 : leader.toList.isEmpty = false := by rw [List.isEmpty_eq_false_iff]; exact h1
        have b0 : (leader.toList == []) = false := by rw [beq_eq_false_iff_ne]; exact h1
        clear h0 h1
        go_enter Tryz.func87, Tryz.ntmps87
        go_wp2_with fail
        rw [← HW1.out, ← HR1.out]
        clear HW1 HR1
        go_wp2_with (first | (go_at_call 132; refine (NOK.out _ name (by omega) hnm).mono ?_; rintro e w2 ⟨rfl, k2⟩; obtain ⟨d0, d1, d2, d3⟩ := CELLS.out w2 k2) | (go_at_call 132; refine (NOK.out _ leader (by omega) hn2).mono ?_; rintro e w3 ⟨rfl, k3⟩; obtain ⟨f0, f1, f2, f3⟩ := CELLS.out w3 (k2.trans k3 (fun i hi => by simp at hi))))
        have KK : Hid (Kept [] w1 w3) := k2.trans k3 (fun i hi => by simp at hi)
        clear k2 k3 d0 d1 d2 d3 c0 c1 c2 c3 f0 f1 f2 f3
        go_loopw [16] (fun iv wr => ∃ k : Nat, iv = .int .i64 k ∧ k ≤ ms.length ∧ Hid ((ms.take k).all isName = true) ∧ Hid (Kept [] w1 wr)) (fun iv _ => ms.length - (intOf iv).toNat)
        case atStart => exact ⟨0, rfl, by omega, rfl, KK.out⟩
        case round =>
          obtain ⟨k, rfl, hkl, hA, hK⟩ := hrel
          clear KK
          obtain ⟨e0, e1, e2, e3⟩ := CELLS.out wr hK.out
          by_cases hlt : k < ms.length
          · have j1 : (k : Int) < (ms.length : Int) := by omega
            obtain ⟨g, hg, cg, hgl⟩ := (HM.out.kept0 (K1.out.trans hK.out (fun i hi => by simp at hi))).at' hlt
            subst hg
            have hs1 := HZ.out ms[k] (List.getElem_mem hlt)
            have TK := Lib.hid (fun h => take_all (p := isName) hlt hA.out h)
            have NA := Lib.hid (fun h => not_all (p := isName) hlt h)
            obtain ⟨x, hx⟩ : ∃ x, x = ms[k] := ⟨_, rfl⟩
            rw [← hx] at cg hs1 TK NA
            clear hx
            cases hxn : isName x with
            | false =>
              have hz : z = false := by rw [FZ.out, NA.out hxn]; simp
              subst hz
              clear TK NA
              go_wp2_with (first | (go_at_call 132; refine (NNO.out _ x (by omega) hxn).mono ?_; rintro e w3 ⟨rfl, k3⟩))
              exact ⟨rfl, Or.inr ⟨rfl, rfl, K1.out.trans (hK.out.trans k3 (fun i hi => by simp at hi)) (fun i hi => by simp at hi)⟩⟩
            | true =>
              have TK2 := Lib.hid (TK.out hxn)
              clear TK NA
              go_wp2_with (first | (go_at_call 132; refine (NOK.out _ x (by omega) hxn).mono ?_; rintro e w3 ⟨rfl, k3⟩))
              go_roundw
              case rel => exact ⟨k + 1, by go_num, by omega, TK2.out, hK.out.trans k3 (fun i hi => by simp at hi)⟩
              case measure => simp [intOf]; omega
          · have j1 : ¬ (k : Int) < (ms.length : Int) := by omega
            have hall : ms.all isName = true := by have := hA.out; rwa [List.take_of_length_le (by omega)] at this
            have HZK : Hid (z = isKey key) := by show _ = _; rw [FZ.out, hnm, hldo, hall]; simp
            obtain ⟨q, hq⟩ : ∃ q, q = isKey key := ⟨_, rfl⟩
            rw [← hq] at KEY HZK
            clear hq hall
            cases q with
            | false =>
              have hz : z = false := HZK.out
              subst hz
              go_wp2_with (first | (go_at_call 133; refine (KEY.out _).mono ?_; rintro e w3 ⟨rfl, k3⟩) | (go_at_call 97; refine (giveUp_any _ 60).mono ?_; rintro e w4 ⟨rfl, rfl⟩))
              exact ⟨rfl, Or.inr ⟨rfl, rfl, K1.out.trans (hK.out.trans k3 (fun i hi => by simp at hi)) (fun i hi => by simp at hi)⟩⟩
            | true =>
              have hz : z = true := HZK.out
              subst hz
              go_wp2_with (first | (go_at_call 133; refine (KEY.out _).mono ?_; rintro e w3 ⟨rfl, k3⟩))
              go_end0
              exact Or.inl ⟨rfl, rfl, K1.out.trans (hK.out.trans k3 (fun i hi => by simp at hi)) (fun i hi => by simp at hi)⟩
end Us
end Go.Proofs.YtahjmpfjidijaaaGreatDoor
end
