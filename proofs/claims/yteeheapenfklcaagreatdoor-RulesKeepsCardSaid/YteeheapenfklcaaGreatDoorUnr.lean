/- Of no character beyond ASCII there is one among the signs ':,#/' (strings.IndexRune, ContainsRune). -/
import Derived.Test.YteeheapenfklcaaGreatDoorUsp
import Derived.Test.YteeheapenfklcaaGreatDoorTxt
import Derived.Test.YteeheapenfklcaaGreatDoorKept
import Derived.Test.YteeheapenfklcaaGreatDoorShf
import Derived.WalkKit
import Derived.Deep.RegionWith
import Derived.Lib.Hide
import Derived.Outline
import Derived.WalkMore
import Derived.ScopeJumps
namespace Go.Proofs.YteeheapenfklcaaGreatDoor
set_option linter.unusedVariables false
open Go.RowKit Go.Shelf
attribute [local go_sem] Oper.semAt_some
namespace Us
open Go.Proofs.YteeheapenfklcaaGreatDoor.Utf Go.Proofs.YteeheapenfklcaaGreatDoor.Txt Go.PlainAid

theorem enc_cases {r : Int} (h0 : 128 ≤ r) (hv : Utf8.valid r = true) :
    (∃ x y : UInt8, Utf8.encode r = ⟨#[x, y]⟩ ∧ 128 ≤ y.toNat) ∨ (∃ x y z : UInt8, Utf8.encode r = ⟨#[x, y, z]⟩ ∧ 128 ≤ z.toNat) ∨ (∃ x y z u : UInt8, Utf8.encode r = ⟨#[x, y, z, u]⟩ ∧ 128 ≤ u.toNat) := by
  have hb : ∀ n : Nat, 128 ≤ (UInt8.ofNat (0x80 + n % 64)).toNat := fun n => by
    rw [UInt8.toNat_ofNat']; omega
  unfold Utf8.encode
  simp only [hv, if_true]
  rw [if_neg (by omega)]
  split
  · exact Or.inl ⟨_, _, rfl, hb _⟩
  · split
    · exact Or.inr (Or.inl ⟨_, _, _, rfl, hb _⟩)
    · exact Or.inr (Or.inr ⟨_, _, _, _, rfl, hb _⟩)
theorem valid_eq (r : Int) (h0 : 0 ≤ r) : Lib.validRune r = Utf8.valid r := by
  unfold Lib.validRune Utf8.valid
  rw [Bool.eq_iff_iff]
  simp only [Bool.and_eq_true, Bool.or_eq_true, decide_eq_true_eq]
  omega
theorem dec_sepb : Utf8.decode sepb 0 = (58, 1) ∧ Utf8.decode sepb 1 = (44, 1) ∧ Utf8.decode sepb 2 = (35, 1) ∧ Utf8.decode sepb 3 = (47, 1) := by decide +kernel

set_option maxHeartbeats 8000000 in
set_option maxRecDepth 100000 in
/-- Of no character beyond ASCII there is one among the signs. -/
theorem indexRune_high (w : World) (r : Int) (h0 : 128 ≤ r) :
    Calls Tryz.prog 138 #[.string ⟨#[58, 44, 35, 47]⟩, .int .i32 r] w fun e w' => e = .returned (.int .i64 (-1)) ∧ Kept [] w w' := by
  have IX : Hid (∀ (l : List UInt8) (s : ByteArray) (y : UInt8) (w : World), s.data.toList = l → (∀ x ∈ l, x.toNat < 128) → 128 ≤ y.toNat → Calls Tryz.prog 162 #[.string s, .int .u8 y.toNat] w fun e w' => e = .returned (.int .i64 (-1)) ∧ w' = w) := fun l s y w hs hl hy => by
    refine (Tryz.strings_IndexByte s y.toNat w).mono ?_
    rintro e w' ⟨rfl, rfl⟩
    refine ⟨?_, rfl⟩
    have e1 : ((y.toNat : Int)).toNat.toUInt8 = y := by simp
    rw [e1, hs]
    have : Lib.indexByte l y = -1 := by
      rcases Int.lt_or_le (Lib.indexByte l y) 0 with h | h
      · have := Lib.indexByte_ge l y; omega
      · obtain ⟨k, hk⟩ : ∃ k : Nat, Lib.indexByte l y = k := ⟨(Lib.indexByte l y).toNat, by omega⟩
        have := hl y (List.mem_of_getElem? (Lib.indexByte_some hk).1)
        omega
    rw [this]
  have n1 : ¬ (r < 128) := by omega
  have p0 : 0 ≤ r := by omega
  by_cases h1 : r = 65533
  · subst h1
    have S4 : (⟨#[58, 44, 35, 47]⟩ : ByteArray) = sepb := rfl
    have D := dec_sepb
    rw [S4]
    have Z4 : sepb.size = 4 := rfl
    have ZZ := Lib.hid Z4
    have SB : Hid (∃ s, s = sepb) := ⟨_, rfl⟩
    obtain ⟨s, hs⟩ := SB
    rw [← hs] at D ZZ ⊢
    clear Z4 S4 hs
    go_enter Tryz.func138, Tryz.ntmps138
    go_wp2_with fail
    go_loopw [] (fun wr => ∃ a : Nat, a ≤ 4 ∧ wr = w.iter s a) (fun wr => 4 - wr.iterPos w.heap.size)
    case atStart => exact ⟨0, by omega, rfl⟩
    case round =>
      obtain ⟨a, ha, rfl⟩ := hrel
      by_cases hlt : a < s.size
      · have hnx : ∀ ty, (Instr.next (.pointer (some ⟨w.heap.size, 0, none⟩)) true ty).run Tryz.prog (w.iter s a) = _ := fun ty => run_next_any w s a ty hlt
        have hd : ((Utf8.decode s a).1 : Int) ≠ 65533 ∧ (Utf8.decode s a).2 = 1 := by
          have h4 := ZZ.out
          have : a = 0 ∨ a = 1 ∨ a = 2 ∨ a = 3 := by omega
          rcases this with rfl | rfl | rfl | rfl
          · rw [D.1]; exact ⟨by decide, rfl⟩
          · rw [D.2.1]; exact ⟨by decide, rfl⟩
          · rw [D.2.2.1]; exact ⟨by decide, rfl⟩
          · rw [D.2.2.2]; exact ⟨by decide, rfl⟩
        obtain ⟨q1, q2⟩ := hd
        have D1 : (((Utf8.decode s a).1 : Int) == 65533) = false := by rw [beq_eq_false_iff_ne]; exact q1
        have Q2 := Lib.hid q2
        clear D q1 q2
        go_wp2_with fail
        go_roundw
        case rel => rw [Q2.out]; have := ZZ.out; exact ⟨a + 1, by omega, rfl⟩
        case measure => simp; have := Q2.out; have := ZZ.out; omega
      · have hnx : ∀ ty, (Instr.next (.pointer (some ⟨w.heap.size, 0, none⟩)) true ty).run Tryz.prog (w.iter s a) = _ := fun ty => run_next_end w s a ty hlt
        clear D
        go_wp2_with fail
        go_ret
        exact ⟨rfl, (Kept.of_below (below_iter w s a) [])⟩
  · have VR : Hid (Calls Tryz.prog 163 #[.int .i32 r] w fun e w' => e = .returned (.bool (Utf8.valid r)) ∧ w' = w) := by
      rw [← valid_eq r (by omega)]
      exact Tryz.utf8_ValidRune r w
    have n2 : (r == 65533) = false := by rw [beq_eq_false_iff_ne]; exact h1
    obtain ⟨v, hv⟩ : ∃ v, v = Utf8.valid r := ⟨_, rfl⟩
    rw [← hv] at VR
    cases v with
    | false =>
      clear hv
      go_enter Tryz.func138, Tryz.ntmps138
      go_wp2_with (go_at_call 163; refine VR.out.mono ?_; rintro e w1 ⟨rfl, rfl⟩)
      go_ret
      exact ⟨rfl, Kept.refl _ _⟩
    | true =>
      rcases enc_cases h0 hv.symm with ⟨x, y, E, hy⟩ | ⟨x, y, z, E, hy⟩ | ⟨x, y, z, u, E, hy⟩
      · have IXk : Hid (∀ w, Calls Tryz.prog 162 #[.string ⟨#[35, 47]⟩, .int .u8 y.toNat] w fun e w' => e = .returned (.int .i64 (-1)) ∧ w' = w) := fun w => IX.out [35, 47] ⟨#[35, 47]⟩ y w rfl (by decide) hy
        have hne : ∀ m : Nat, m < 128 → ((m : Int) == (y.toNat : Int)) = false := fun m hm => by rw [beq_eq_false_iff_ne]; omega
        have hw2 : IntKind.i64.wrap 2 = 2 := by decide
        have hq : (((⟨#[58, 44, 35, 47]⟩ : ByteArray)[1].toNat : Int) != (((⟨#[x, y]⟩ : ByteArray)[1]'(by decide : (1 : Nat) < 2)).toNat : Int)) = true := by
          have := hne 44 (by decide)
          show (!((44 : Int) == (y.toNat : Int))) = true
          rw [show ((44 : Int) == (y.toNat : Int)) = false from this]
          rfl
        clear hv hne hy IX
        go_enter Tryz.func138, Tryz.ntmps138
        go_wp2_with (go_at_call 163; refine VR.out.mono ?_; rintro e w1 ⟨rfl, rfl⟩)
        go_step3
        go_wp2_with (go_at_call 162; refine (IXk.out _).mono ?_; rintro e w2 ⟨rfl, rfl⟩)
        go_loopw [9] (fun iv wr => iv = .int .i64 1 ∧ wr = w1) (fun _ _ => 0)
        case atStart => exact ⟨rfl, rfl⟩
        case round =>
          obtain ⟨rfl, rfl⟩ := hrel
          go_wp2_with fail
          go_step3
          go_wp2_with fail
          go_region
          go_wp2_with fail
          go_region_with (go_at_call 162; refine (IXk.out _).mono ?_; rintro e w2 ⟨rfl, rfl⟩)
          go_wp2_with fail
          simp (config := { zetaDelta := true }) only [Exit.inBlock, Exit.then, Exit.noGoto]
          go_ret
          exact ⟨rfl, ((Kept.refl [] wr).drew).drew⟩
      · have IXk : Hid (∀ w, Calls Tryz.prog 162 #[.string ⟨#[47]⟩, .int .u8 z.toNat] w fun e w' => e = .returned (.int .i64 (-1)) ∧ w' = w) := fun w => IX.out [47] ⟨#[47]⟩ z w rfl (by decide) hy
        have hne : ∀ m : Nat, m < 128 → ((m : Int) == (z.toNat : Int)) = false := fun m hm => by rw [beq_eq_false_iff_ne]; omega
        have hw2 : IntKind.i64.wrap 3 = 3 := by decide
        have hq : (((⟨#[58, 44, 35, 47]⟩ : ByteArray)[2].toNat : Int) != (((⟨#[x, y, z]⟩ : ByteArray)[2]'(by decide : (2 : Nat) < 3)).toNat : Int)) = true := by
          have := hne 35 (by decide)
          show (!((35 : Int) == (z.toNat : Int))) = true
          rw [show ((35 : Int) == (z.toNat : Int)) = false from this]
          rfl
        clear hv hne hy IX
        go_enter Tryz.func138, Tryz.ntmps138
        go_wp2_with (go_at_call 163; refine VR.out.mono ?_; rintro e w1 ⟨rfl, rfl⟩)
        go_step3
        go_wp2_with (go_at_call 162; refine (IXk.out _).mono ?_; rintro e w2 ⟨rfl, rfl⟩)
        go_loopw [9] (fun iv wr => iv = .int .i64 2 ∧ wr = w1) (fun _ _ => 0)
        case atStart => exact ⟨rfl, rfl⟩
        case round =>
          obtain ⟨rfl, rfl⟩ := hrel
          go_wp2_with fail
          go_step3
          go_wp2_with fail
          go_region
          go_wp2_with fail
          go_region_with (go_at_call 162; refine (IXk.out _).mono ?_; rintro e w2 ⟨rfl, rfl⟩)
          go_wp2_with fail
          simp (config := { zetaDelta := true }) only [Exit.inBlock, Exit.then, Exit.noGoto]
          go_ret
          exact ⟨rfl, ((Kept.refl [] wr).drew).drew⟩
      · have IXk : Hid (∀ w, Calls Tryz.prog 162 #[.string ⟨#[]⟩, .int .u8 u.toNat] w fun e w' => e = .returned (.int .i64 (-1)) ∧ w' = w) := fun w => IX.out [] ⟨#[]⟩ u w rfl (by decide) hy
        have hne : ∀ m : Nat, m < 128 → ((m : Int) == (u.toNat : Int)) = false := fun m hm => by rw [beq_eq_false_iff_ne]; omega
        have hw2 : IntKind.i64.wrap 4 = 4 := by decide
        have hq : (((⟨#[58, 44, 35, 47]⟩ : ByteArray)[3].toNat : Int) != (((⟨#[x, y, z, u]⟩ : ByteArray)[3]'(by decide : (3 : Nat) < 4)).toNat : Int)) = true := by
          have := hne 47 (by decide)
          show (!((47 : Int) == (u.toNat : Int))) = true
          rw [show ((47 : Int) == (u.toNat : Int)) = false from this]
          rfl
        clear hv hne hy IX
        go_enter Tryz.func138, Tryz.ntmps138
        go_wp2_with (go_at_call 163; refine VR.out.mono ?_; rintro e w1 ⟨rfl, rfl⟩)
        go_step3
        go_wp2_with (go_at_call 162; refine (IXk.out _).mono ?_; rintro e w2 ⟨rfl, rfl⟩)
        go_loopw [9] (fun iv wr => iv = .int .i64 3 ∧ wr = w1) (fun _ _ => 0)
        case atStart => exact ⟨rfl, rfl⟩
        case round =>
          obtain ⟨rfl, rfl⟩ := hrel
          go_wp2_with fail
          go_step3
          go_wp2_with fail
          go_region
          go_wp2_with fail
          go_region_with (go_at_call 162; refine (IXk.out _).mono ?_; rintro e w2 ⟨rfl, rfl⟩)
          go_wp2_with fail
          simp (config := { zetaDelta := true }) only [Exit.inBlock, Exit.then, Exit.noGoto]
          go_ret
          exact ⟨rfl, ((Kept.refl [] wr).drew).drew⟩
end Us
end Go.Proofs.YteeheapenfklcaaGreatDoor
