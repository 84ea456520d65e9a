/- The law's 'known' of vergerlaw06, where the seat has no rules (Ukd with Ukt in Ru1's place). -/
import Derived.Test.YteeheapenfklcaaDoorUgr
import Derived.Test.YteeheapenfklcaaDoorUpa
import Derived.Test.YteeheapenfklcaaDoorUkt
namespace Go.Proofs.YteeheapenfklcaaDoor
set_option linter.unusedVariables false
open Go.RowKit Go.Shelf
attribute [local go_sem] Oper.semAt_some
namespace Us
open Go.Proofs.YteeheapenfklcaaDoor.Utf Go.Proofs.YteeheapenfklcaaDoor.Txt Go.PlainAid Go.Proofs.YteeheapenfklcaaDoor.Mpf

def exS : ByteArray := ⟨#[97, 100, 109, 58, 58, 103, 108, 101, 110, 100, 97, 58, 10, 103, 108, 101, 110, 100, 97, 58, 58, 58, 107, 101, 121, 49, 10, 115, 121, 115, 58, 103, 108, 101, 110, 100, 97, 58, 97, 100, 109, 44, 103, 108, 101, 110, 100, 97, 58, 10]⟩
def exT : List Acc := [⟨⟨#[97, 100, 109]⟩, ⟨#[]⟩, [⟨#[103, 108, 101, 110, 100, 97]⟩], ⟨#[]⟩⟩, ⟨⟨#[103, 108, 101, 110, 100, 97]⟩, ⟨#[]⟩, [], ⟨#[107, 101, 121, 49]⟩⟩, ⟨⟨#[115, 121, 115]⟩, ⟨#[103, 108, 101, 110, 100, 97]⟩, [⟨#[97, 100, 109]⟩, ⟨#[103, 108, 101, 110, 100, 97]⟩], ⟨#[]⟩⟩]
def exG : List ByteArray := [⟨#[97, 100, 109]⟩, ⟨#[103, 108, 101, 110, 100, 97]⟩, ⟨#[115, 121, 115]⟩]
set_option maxRecDepth 100000 in
theorem parse_exS : parse exS = (some exT, 0, 0) := by kernel_rfl
theorem gsel_ex : gsel exT ⟨#[103, 108, 101, 110, 100, 97]⟩ exT = exG := by kernel_rfl
theorem sorted_ex : (exG.map dl).mergeSort (fun x y => decide (x ≤ y)) = exG.map dl := by
  have e : exG.map dl = [[97, 100, 109], [103, 108, 101, 110, 100, 97], [115, 121, 115]] := rfl
  rw [e]
  refine List.mergeSort_of_pairwise (List.Pairwise.cons ?_ (List.Pairwise.cons ?_ (List.Pairwise.cons ?_ List.Pairwise.nil)))
  · intro a' h
    simp only [List.mem_cons, List.not_mem_nil, or_false] at h
    rcases h with rfl | rfl <;> decide +kernel
  · intro a' h
    simp only [List.mem_cons, List.not_mem_nil, or_false] at h
    rcases h with rfl
    decide +kernel
  · intro a' h
    cases h
section
variable {w : World} {B p : Nat} {sl : Value} {m1 m2 n2 : Nat} {f : ByteArray × ByteArray → Bool} {L : List (Acc × Value)}
/-- The account of a name in a list of accounts, or noughts. -/
def accT (T : List Acc) (n : ByteArray) : Acc := match placeOf T 0 n with | some k => T.getD k zeroA.1 | none => zeroA.1
theorem accAt_fst (L : List (Acc × Value)) (n : ByteArray) : (accAt L n).1 = accT (accs L) n := by
  unfold accAt accT
  cases placeOf (accs L) 0 n with
  | none => rfl
  | some k =>
    simp only [List.getD_eq_getElem?_getD]
    unfold accs
    rw [List.getElem?_map]
    cases L[k]? <;> rfl
set_option maxRecDepth 100000 in
theorem key_x (h : TbX w B p sl m1 m2 n2 f L) (n : ByteArray) (hn : n.size ≤ maxLen) (hL : L.length ≤ 1048576) :
    Calls Tryd.prog 21 #[.pointer (some ⟨p, 0, none⟩), .string n] w fun e w' => e = .returned (.string (accT (accs L) n).key) ∧ Kept [] w w' := by
  have AC := Lib.hid (account_x h n hn hL)
  obtain ⟨va, vc, hms⟩ := (accAt_mem h n).slice
  obtain ⟨kn, hkn⟩ : ∃ k, k = known (accs L) n := ⟨_, rfl⟩
  rw [← accAt_fst]
  rw [← hkn] at AC
  obtain ⟨⟨⟨an, al, am, ak⟩, av⟩, hx⟩ : ∃ x, x = accAt L n := ⟨_, rfl⟩
  rw [← hx] at AC hms ⊢
  simp only at AC hms ⊢
  subst hms
  unfold accV at AC
  clear h hkn hx
  go_enter Tryd.func21, Tryd.ntmps21
  go_wp2_with (first | (go_at_call 47; refine AC.out.mono ?_; rintro e w1 ⟨rfl, k1⟩; have k2 := k1.alloc (.cells #[.string an, .string al, .slice va am.length vc, .string ak] 45)))
  go_ret
  exact ⟨rfl, k2⟩
set_option maxHeartbeats 8000000 in
set_option maxRecDepth 100000 in
theorem same_any (w : World) (l : List ByteArray) (a1 a2 : Option Addr) (c1 c2 : Nat) (h1 : Mem w (.slice a1 l.length c1) l) (h2 : Mem w (.slice a2 l.length c2) l) (hl : l.length ≤ 140737488355328) :
    Calls Tryd.prog 24 #[.slice a1 l.length c1, .slice a2 l.length c2] w fun e w' => e = .returned (.bool true) ∧ Kept [] w w' := by
  have H1 := Lib.hid h1
  have H2 := Lib.hid h2
  clear h1 h2
  go_enter Tryd.func24, Tryd.ntmps24
  go_wp2_with fail
  go_loopw [5] (fun iv wr => ∃ k : Nat, iv = .int .i64 k ∧ k ≤ l.length ∧ Hid (Kept [] w wr)) (fun iv _ => l.length - (intOf iv).toNat)
  case atStart => exact ⟨0, rfl, by omega, Kept.refl [] w⟩
  case round =>
    obtain ⟨k, rfl, hk, KK⟩ := hrel
    by_cases hlt : k < l.length
    · have j1 : (k : Int) < (l.length : Int) := by omega
      obtain ⟨g1, rfl, x1, -⟩ := (H1.out.kept0 KK.out).at' hlt
      obtain ⟨g2, rfl, x2, -⟩ := (H2.out.kept0 KK.out).at' hlt
      obtain ⟨x, hx⟩ : ∃ x, x = l[k] := ⟨_, rfl⟩
      rw [← hx] at x1 x2
      have KD : Hid (Kept [] w wr.drew) := KK.out.drew
      clear hx
      go_wp2_with fail
      go_region
      go_wp2_with fail
      go_roundw
      case rel => exact ⟨k + 1, by go_num, by omega, KD⟩
      case measure => simp [intOf]; omega
    · have j1 : ¬ (k : Int) < (l.length : Int) := by omega
      go_wp2_with fail
      go_ret
      exact ⟨rfl, KK.out⟩
end
/-! The example's calls. -/
section
variable {w : World} {B p : Nat}
theorem ex_parse (w : World) (hm : Ml w) : Calls Tryd.prog 10 #[.string ⟨#[97, 100, 109, 58, 58, 103, 108, 101, 110, 100, 97, 58, 10, 103, 108, 101, 110, 100, 97, 58, 58, 58, 107, 101, 121, 49, 10, 115, 121, 115, 58, 103, 108, 101, 110, 100, 97, 58, 97, 100, 109, 44, 103, 108, 101, 110, 100, 97, 58, 10]⟩] w fun e w' => ∃ B p, e = .returned (.tuple #[.pointer (some ⟨p, 0, none⟩), .int .i64 0, .int .i64 0]) ∧ Tb w' B p exT ∧ (∀ a ∈ exT, Fit a) ∧ Kept [] w w' := by
  refine (parse_any w exS hm (by decide)).mono ?_
  rintro e w' (⟨T, B, p, h1, h2, h3, -, h5, h4⟩ | ⟨er, ln, h1, -⟩)
  · rw [parse_exS] at h1
    cases h1
    exact ⟨B, p, h2, h3, h5, h4⟩
  · rw [parse_exS] at h1
    cases h1
theorem ex_groups (h : Tb w B p exT) (hF : ∀ a ∈ exT, Fit a) : Calls Tryd.prog 17 #[.pointer (some ⟨p, 0, none⟩), .string ⟨#[103, 108, 101, 110, 100, 97]⟩] w fun e w' => ∃ va vc, e = .returned (.slice va 3 vc) ∧ Mem w' (.slice va exG.length vc) exG ∧ Kept [] w w' := by
  obtain ⟨sl, m1, m2, n2, L, h, e⟩ := h
  have h3 : L.length = 3 := by rw [← accs_length, e]; rfl
  rw [← e] at h
  have := groups_x h (by omega) (by rw [e]; exact hF) ⟨#[103, 108, 101, 110, 100, 97]⟩ (by decide) (by rw [e, gsel_ex]; exact sorted_ex)
  rw [e, gsel_ex] at this
  refine this.mono ?_
  rintro e w' ⟨v, rfl, hm, k⟩
  obtain ⟨va, vc, rfl⟩ := hm.slice
  exact ⟨va, vc, rfl, hm, k⟩
theorem ex_member (h : Tb w B p exT) (u g : ByteArray) (b : Bool) (hb : member exT u g = b) (hu : u.size ≤ maxLen) (hg : g.size ≤ maxLen) : Calls Tryd.prog 19 #[.pointer (some ⟨p, 0, none⟩), .string u, .string g] w fun e w' => e = .returned (.bool b) ∧ Kept [] w w' := by
  have := Ukt.member_t h u g hu hg
  rwa [hb] at this
theorem ex_leads (h : Tb w B p exT) (u g : ByteArray) (b : Bool) (hb : (if (accT exT g).leader.size = 0 then memX (bel exT) exT u g else decide (u = (accT exT g).leader)) = b) (hu : u.size ≤ maxLen) (hg : g.size ≤ maxLen) : Calls Tryd.prog 20 #[.pointer (some ⟨p, 0, none⟩), .string u, .string g] w fun e w' => e = .returned (.bool b) ∧ Kept [] w w' := by
  obtain ⟨sl, m1, m2, n2, L, h, e⟩ := h
  have h3 : L.length = 3 := by rw [← accs_length, e]; rfl
  have := leads_x h u g hu hg (by omega)
  unfold leadsX leaderOf at this
  rw [accAt_fst, e, hb] at this
  exact this
theorem ex_key (h : Tb w B p exT) (u k : ByteArray) (hb : (accT exT u).key = k) (hu : u.size ≤ maxLen) : Calls Tryd.prog 21 #[.pointer (some ⟨p, 0, none⟩), .string u] w fun e w' => e = .returned (.string k) ∧ Kept [] w w' := by
  obtain ⟨sl, m1, m2, n2, L, h, e⟩ := h
  have h3 : L.length = 3 := by rw [← accs_length, e]; rfl
  have := key_x h u hu (by omega)
  rw [e, hb] at this
  exact this
theorem ex_known (h : Tb w B p exT) (u : ByteArray) (b : Bool) (hb : known exT u = b) (hu : u.size ≤ maxLen) : Calls Tryd.prog 22 #[.pointer (some ⟨p, 0, none⟩), .string u] w fun e w' => e = .returned (.bool b) ∧ Kept [] w w' := by
  obtain ⟨sl, m1, m2, n2, L, h, e⟩ := h
  have := known_x h u hu
  rw [e, hb] at this
  exact this.mono fun e w' ⟨h1, h2⟩ => ⟨h1, by rw [h2]; exact Kept.refl _ _⟩
end
theorem three_row (w : World) : Mem (w.alloc (.cells #[.string ⟨#[97, 100, 109]⟩, .string ⟨#[103, 108, 101, 110, 100, 97]⟩, .string ⟨#[115, 121, 115]⟩] 9)) (.slice (some ⟨w.heap.size, 0, none⟩) exG.length 3) exG :=
  ⟨rfl, Or.inr ⟨_, _, _, rfl, Nat.zero_le _, (MapKept.heap_alloc w _).1, Nat.le_refl _, by decide, rfl, rfl⟩⟩
set_option maxHeartbeats 8000000 in
set_option maxRecDepth 100000 in
theorem known06 (w : World) (hm : Ml w) : Calls Tryd.prog 8 #[] w fun e w' => e = .returned (.bool true) ∧ Kept [] w w' := by
  have PAR := Lib.hid (ex_parse w hm)
  have C1 : Hid (∀ {B p : Nat} (w' : World), Tb w' B p exT → Calls Tryd.prog 19 #[.pointer (some ⟨p, 0, none⟩), .string ⟨#[103, 108, 101, 110, 100, 97]⟩, .string ⟨#[97, 100, 109]⟩] w' fun e w'' => e = .returned (.bool true) ∧ Kept [] w' w'') := fun w' h => ex_member h ⟨#[103, 108, 101, 110, 100, 97]⟩ ⟨#[97, 100, 109]⟩ true (by kernel_rfl) (by decide) (by decide)
  have C2 : Hid (∀ {B p : Nat} (w' : World), Tb w' B p exT → Calls Tryd.prog 19 #[.pointer (some ⟨p, 0, none⟩), .string ⟨#[97, 100, 109]⟩, .string ⟨#[103, 108, 101, 110, 100, 97]⟩] w' fun e w'' => e = .returned (.bool false) ∧ Kept [] w' w'') := fun w' h => ex_member h ⟨#[97, 100, 109]⟩ ⟨#[103, 108, 101, 110, 100, 97]⟩ false (by kernel_rfl) (by decide) (by decide)
  have C3 : Hid (∀ {B p : Nat} (w' : World), Tb w' B p exT → Calls Tryd.prog 20 #[.pointer (some ⟨p, 0, none⟩), .string ⟨#[103, 108, 101, 110, 100, 97]⟩, .string ⟨#[115, 121, 115]⟩] w' fun e w'' => e = .returned (.bool true) ∧ Kept [] w' w'') := fun w' h => ex_leads h ⟨#[103, 108, 101, 110, 100, 97]⟩ ⟨#[115, 121, 115]⟩ true (by kernel_rfl) (by decide) (by decide)
  have C4 : Hid (∀ {B p : Nat} (w' : World), Tb w' B p exT → Calls Tryd.prog 20 #[.pointer (some ⟨p, 0, none⟩), .string ⟨#[97, 100, 109]⟩, .string ⟨#[115, 121, 115]⟩] w' fun e w'' => e = .returned (.bool false) ∧ Kept [] w' w'') := fun w' h => ex_leads h ⟨#[97, 100, 109]⟩ ⟨#[115, 121, 115]⟩ false (by kernel_rfl) (by decide) (by decide)
  have C5 : Hid (∀ {B p : Nat} (w' : World), Tb w' B p exT → Calls Tryd.prog 21 #[.pointer (some ⟨p, 0, none⟩), .string ⟨#[103, 108, 101, 110, 100, 97]⟩] w' fun e w'' => e = .returned (.string ⟨#[107, 101, 121, 49]⟩) ∧ Kept [] w' w'') := fun w' h => ex_key h ⟨#[103, 108, 101, 110, 100, 97]⟩ ⟨#[107, 101, 121, 49]⟩ (by kernel_rfl) (by decide)
  have C6 : Hid (∀ {B p : Nat} (w' : World), Tb w' B p exT → Calls Tryd.prog 22 #[.pointer (some ⟨p, 0, none⟩), .string ⟨#[97, 100, 109]⟩] w' fun e w'' => e = .returned (.bool true) ∧ Kept [] w' w'') := fun w' h => ex_known h ⟨#[97, 100, 109]⟩ true (by kernel_rfl) (by decide)
  have C7 : Hid (∀ {B p : Nat} (w' : World), Tb w' B p exT → Calls Tryd.prog 22 #[.pointer (some ⟨p, 0, none⟩), .string ⟨#[107, 101, 121, 49]⟩] w' fun e w'' => e = .returned (.bool false) ∧ Kept [] w' w'') := fun w' h => ex_known h ⟨#[107, 101, 121, 49]⟩ false (by kernel_rfl) (by decide)
  clear hm
  go_enter Tryd.func8, Tryd.ntmps8
  go_wp2_with (first | (go_at_call 10; refine PAR.out.mono ?_; rintro e w2 ⟨B, p, rfl, tb, hf, k2⟩; have T2 := Lib.hid tb; have F2 := Lib.hid hf; have K2 := Lib.hid k2; clear tb k2 hf) | (go_at_call 17; refine (ex_groups T2.out F2.out).mono ?_; rintro e w3 ⟨va, vc, rfl, m3, k3⟩; have T3 := Lib.hid (T2.out.kept k3); have M3 := Lib.hid m3; have K3 : Hid (Kept [] w w3) := K2.out.trans k3 (fun i hi => by cases hi); clear m3 k3) | (go_at_call 24; refine (same_any (w3.alloc (.cells #[.string ⟨#[97, 100, 109]⟩, .string ⟨#[103, 108, 101, 110, 100, 97]⟩, .string ⟨#[115, 121, 115]⟩] 9)) exG va (some ⟨w3.heap.size, 0, none⟩) vc 3 (M3.out.kept0 ((Kept.refl [] w3).alloc _)) (three_row w3) (by decide)).mono ?_; rintro e w4 ⟨rfl, k4⟩; have T4 := Lib.hid (T3.out.kept (((Kept.refl [] w3).alloc (.cells #[.string ⟨#[97, 100, 109]⟩, .string ⟨#[103, 108, 101, 110, 100, 97]⟩, .string ⟨#[115, 121, 115]⟩] 9)).trans k4 (fun i hi => by cases hi))); have K4 : Hid (Kept [] w w4) := (K3.out.alloc (.cells #[.string ⟨#[97, 100, 109]⟩, .string ⟨#[103, 108, 101, 110, 100, 97]⟩, .string ⟨#[115, 121, 115]⟩] 9)).trans k4 (fun i hi => by cases hi); clear k4) | (go_at_call 19; refine (C1.out _ T4.out).mono ?_; rintro e w5 ⟨rfl, k5⟩; have K5 : Hid (Kept [] w w5) := K4.out.trans k5 (fun i hi => by cases hi); have T5 := Lib.hid (T4.out.kept k5); clear k5 C1) | (go_at_call 19; refine (C2.out _ T5.out).mono ?_; rintro e w6 ⟨rfl, k6⟩; have K6 : Hid (Kept [] w w6) := K5.out.trans k6 (fun i hi => by cases hi); have T6 := Lib.hid (T5.out.kept k6); clear k6 C2) | (go_at_call 20; refine (C3.out _ T6.out).mono ?_; rintro e w7 ⟨rfl, k7⟩; have K7 : Hid (Kept [] w w7) := K6.out.trans k7 (fun i hi => by cases hi); have T7 := Lib.hid (T6.out.kept k7); clear k7 C3) | (go_at_call 20; refine (C4.out _ T7.out).mono ?_; rintro e w8 ⟨rfl, k8⟩; have K8 : Hid (Kept [] w w8) := K7.out.trans k8 (fun i hi => by cases hi); have T8 := Lib.hid (T7.out.kept k8); clear k8 C4) | (go_at_call 21; refine (C5.out _ T8.out).mono ?_; rintro e w9 ⟨rfl, k9⟩; have K9 : Hid (Kept [] w w9) := K8.out.trans k9 (fun i hi => by cases hi); have T9 := Lib.hid (T8.out.kept k9); clear k9 C5) | (go_at_call 22; refine (C6.out _ T9.out).mono ?_; rintro e w10 ⟨rfl, k10⟩; have K10 : Hid (Kept [] w w10) := K9.out.trans k10 (fun i hi => by cases hi); have T10 := Lib.hid (T9.out.kept k10); clear k10 C6) | (go_at_call 22; refine (C7.out _ T10.out).mono ?_; rintro e w11 ⟨rfl, k11⟩; have K11 : Hid (Kept [] w w11) := K10.out.trans k11 (fun i hi => by cases hi); have T11 := Lib.hid (T10.out.kept k11); clear k11 C7))
  go_ret
  exact ⟨rfl, K11.out⟩
end Us
end Go.Proofs.YteeheapenfklcaaDoor
