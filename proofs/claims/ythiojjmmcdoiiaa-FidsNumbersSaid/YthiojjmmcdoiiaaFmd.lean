/- fids: New; the law's made. -/
import Derived.Test.YthiojjmmcdoiiaaFad
namespace Go.Proofs.Ythiojjmmcdoiiaa
set_option linter.unusedVariables false
open Go.RowKit
namespace Fi
open Go.Proofs.Ythiojjmmcdoiiaa.Mpf Go.PlainAid

/-- A table came, of nothing. -/
def Made (w : World) (most n : Nat) (F : Nat → Option Fd) (p m : Nat) (w' : World) : Prop := Tb w' p m most n F ∧ w.heap.size ≤ p ∧ w.heap.size ≤ m ∧ Kept [] w w'
theorem newTable_any (w : World) (most : Nat) :
    Calls Try.prog 31 #[.int .i64 most] w fun e w' => ∃ p m, e = .returned (.pointer (some ⟨p, 0, none⟩)) ∧ Made w most 0 (fun _ => none) p m w' := by
  have hmm := @run_makeMap Try.prog
  have END : Hid (Made w most 0 (fun _ => none) (w.heap.size + 1) w.heap.size ((w.alloc (.map #[] 0)).alloc (.cells #[.int .i64 most, .map (some w.heap.size)] 87))) := by
    refine ⟨⟨?_, _, (Mp.made K32 w).alloc _, fun x => Or.inl ⟨rfl, rfl⟩⟩, Nat.le_succ _, Nat.le_refl _, ((Kept.refl _ _).alloc _).alloc _⟩
    have := Bx.made (w.alloc (.map #[] 0)) 87 #[.int .i64 most, .map (some w.heap.size)]
    rwa [World.size_alloc] at this
  go_enter Try.func31, Try.ntmps31
  go_wp2_with fail
  go_ret
  exact ⟨_, _, rfl, END.out⟩
theorem New_ok (w : World) (most : Nat) (h1 : 1 ≤ most) (h2 : most ≤ 256) :
    Calls Try.prog 11 #[.int .i64 most] w fun e w' => ∃ p m, e = .returned (.tuple #[.pointer (some ⟨p, 0, none⟩), .int .i64 0]) ∧ Made w most 0 (fun _ => none) p m w' := by
  have NT := Lib.hid (newTable_any w most)
  have i1 : ¬ (most : Int) < 1 := by omega
  have i2 : ¬ (256 : Int) < (most : Int) := by omega
  clear h1 h2
  go_enter Try.func11, Try.ntmps11
  go_wp2_with (go_at_call 31; refine NT.out.mono ?_; rintro e w2 ⟨p, m, rfl, hm⟩)
  go_ret2
  exact ⟨p, m, rfl, hm⟩
/-- The fid that the law puts in. -/
def nine : Fd := ⟨1, 4, ⟨#[117]⟩, 0, false, 0, 0, ⟨#[]⟩, ⟨#[]⟩, 0, 0, 0, 0, []⟩
def F9 : Nat → Option Fd := updF (fun _ => none) 9 (some nine)
theorem src_nil (w : World) : Src w (.slice none 0 0) [] [] := (Seg.empty w []).src
set_option maxHeartbeats 4000000 in
set_option maxRecDepth 100000 in
theorem made_any (w : World) (most : Nat) (h1 : 1 ≤ most) (h2 : most ≤ 256) :
    Calls Try.prog 9 #[.int .i64 most] w fun e w' => ∃ p m, e = .returned (.pointer (some ⟨p, 0, none⟩)) ∧ Made w most 1 F9 p m w' := by
  have NEW := Lib.hid (fun w => New_ok w most h1 h2)
  have ADD : Hid (∀ w1 p m, Tb w1 p m most 0 (fun _ => none) → Calls Try.prog 29 #[.pointer (some ⟨p, 0, none⟩), .int .u32 9, .agg #[.int .u8 1, .int .u64 4, .string ⟨#[117]⟩, .int .u8 0, .bool false, .int .u64 0, .int .u64 0, .string ⟨#[]⟩, .string ⟨#[]⟩, .int .u64 0, .int .u64 0, .int .u8 0, .int .i64 0, .slice none 0 0]] w1 fun e w' => e = .returned (.int .i64 0) ∧ Tb w' p m most 1 F9 ∧ Kept [m] w1 w') := fun w1 p m h => by
    refine (Add_any h 9 (by decide) nine (.slice none 0 0) [] (src_nil w1) (by decide)).mono ?_
    have e0 : addE (fun _ => none) most 0 9 nine = 0 := by
      unfold addE newE
      rw [if_neg (by decide), if_neg (by decide), if_neg (by simp), if_neg (by omega)]
    rintro e w' (⟨-, a, b, c⟩ | ⟨a, _⟩)
    · exact ⟨a, b, c⟩
    · exact absurd e0 a
  have GET : Hid (∀ w1 p m, Tb w1 p m most 1 F9 → Calls Try.prog 30 #[.pointer (some ⟨p, 0, none⟩), .int .u32 9] w1 fun e w' => ∃ a c, e = .returned (.tuple #[.agg #[.int .u8 1, .int .u64 4, .string ⟨#[117]⟩, .int .u8 0, .bool false, .int .u64 0, .int .u64 0, .string ⟨#[]⟩, .string ⟨#[]⟩, .int .u64 0, .int .u64 0, .int .u8 0, .int .i64 0, .slice a 0 c], .int .i64 0]) ∧ Kept [] w1 w') := fun w1 p m h => by
    refine (Get_some h 9 (by decide) nine (by unfold F9 updF; rw [if_pos rfl])).mono ?_
    rintro e w' ⟨a, c, he, _, k⟩
    exact ⟨a, c, he, k⟩
  clear h1 h2
  go_enter Try.func9, Try.ntmps9
  go_wp2_with (first | (go_at_call 11; refine (NEW.out _).mono ?_; rintro e w1 ⟨p, m, rfl, t1, lp, lm, k1⟩; have HT1 := Lib.hid t1; have L1 : Hid (w.heap.size ≤ p ∧ w.heap.size ≤ m) := ⟨lp, lm⟩; have K1 := Lib.hid k1; clear t1 lp lm k1) | (go_at_call 29; refine (ADD.out _ _ _ HT1.out).mono ?_; rintro e w2 ⟨rfl, t2, k2⟩; have HT2 := Lib.hid t2; have K2 := Lib.hid k2; clear t2 k2) | (go_at_call 30; refine (GET.out _ _ _ HT2.out).mono ?_; rintro e w3 ⟨a, c, rfl, k3⟩; have HT3 := Lib.hid (HT2.out.kept0 k3); have K3 := Lib.hid k3; clear k3) | (refine wpList_srow rfl (.tmp 6) (.tmp 25) rfl w3.heap.size rfl _ #[.int .u8 1, .int .u64 4, .string ⟨#[117]⟩, .int .u8 0, .bool false, .int .u64 0, .int .u64 0, .string ⟨#[]⟩, .string ⟨#[]⟩, .int .u64 0, .int .u64 0, .int .u8 0, .int .i64 0, .slice a 0 c] rfl (Bx.made _ _ _) rfl rfl (by simp [Value.oneCell']) ?_; intro w4 b4 k4; have K4 : Hid (Kept [] w3 w4) := ((Kept.refl [] w3).alloc _).trans k4 (fun i hi => Or.inr (by simp at hi; omega)); have c0 := b4.cell 0 (v := .int .u8 1) rfl; have c1 := b4.cell 1 (v := .int .u64 4) rfl; have c2 := b4.cell 2 (v := .string ⟨#[117]⟩) rfl; clear b4 k4))
  go_ret
  exact ⟨p, m, rfl, HT3.out.kept0 K4.out, L1.out.1, L1.out.2, (K1.out.trans ((K2.out.trans K3.out (fun i hi => by cases hi)).trans K4.out (fun i hi => by cases hi)) (fun i hi => Or.inr (by simp at hi; subst hi; exact L1.out.2)))⟩
theorem numbers_any (w : World) : Calls Try.prog 3 #[] w fun e w' => e = .returned (.bool true) ∧ Kept [] w w' := by
  have MD := Lib.hid (made_any w 3 (by decide) (by decide))
  go_enter Try.func3, Try.ntmps3
  go_wp2_with (go_at_call 9; refine MD.out.mono ?_; rintro e w2 ⟨p, m, rfl, hm⟩)
  go_ret
  exact ⟨rfl, hm.2.2.2⟩
end Fi
end Go.Proofs.Ythiojjmmcdoiiaa
