/- WireJoins returns true for every input, and each argument reads behind the call as before. No condition: for every two texts and every number that the row reads. -/
import Derived.Test.YtlmfcnedbmonjaaRows
import Derived.Test.YtlmfcnedbmonjaaTxt
import Derived.Test.YtlmfcnedbmonjaaCat
import Derived.WalkKit
import Derived.ProofKit
import Derived.OpenShut
import Derived.ShutString
namespace Go.Proofs.Ytlmfcnedbmonjaa.wireJoins
open Go.ChangeShapes Go.WideShapes Go.ChangeAt Go.RowKit
open Go.ChangeMaps (open_string shut_string)
set_option linter.unusedVariables false      -- a walk need not use every 'w<i>' (that an integer argument fits its kind)

theorem own : ownKnob Try.prog.godebug = none := by kernel_rfl

/-! ### The walk: the Go text returns true; below the blocks that were there nothing turns. -/
open Go.PlainAid Go.Proofs.Ytlmfcnedbmonjaa.Utf Go.Proofs.Ytlmfcnedbmonjaa.Txt

theorem gd (s : ByteArray) (x : Bool) (w : World) (hx : Hid (good s = x)) (hs : s.size ≤ 140737488355328) :
    Calls Try.prog 12 #[.string s] w fun e w' => e = .returned (.bool x) ∧ Below w.heap.size w w' :=
  (good_any s w hs).mono fun e w' h => ⟨h.1.trans (ret_bool hx.out), h.2⟩
theorem ct (s c : ByteArray) (most : Int) (w : World) (hx : Hid (s.extract 0 (cut s most) = c)) (hs : s.size ≤ 140737488355328) (h1 : -9223372036854775808 ≤ most) (h2 : most ≤ 9223372036854775807) :
    Calls Try.prog 13 #[.string s, .int .i64 most] w fun e w' => e = .returned (.string c) ∧ Below w.heap.size w w' :=
  (cut_any s most w hs h1 h2).mono fun e w' h => ⟨h.1.trans (ret_str hx.out), h.2⟩

theorem g1 : Hid (good ⟨#[]⟩ = true) := by unfold Hid; decide +kernel
theorem g2 : Hid (good ⟨#[97, 195, 169]⟩ = true) := by unfold Hid; decide +kernel
theorem g3 : Hid (good ⟨#[195]⟩ = false) := by unfold Hid; decide +kernel
theorem g4 : Hid (good ⟨#[0]⟩ = false) := by unfold Hid; decide +kernel

set_option maxHeartbeats 1600000 in
/-- The first text is not good. -/
theorem walk_no (a b : ByteArray) (m : Int) (w : World) (ha : a.size ≤ 33554432) (hb : b.size ≤ 33554432) (hg : Hid (good a = false)) :
    Calls Try.prog 5 #[.string a, .string b, .int .i64 m] w fun e w' => e = .returned (.bool true) ∧ Below w.heap.size w w' := by
  have hff : Hid (good (a ++ ⟨#[255]⟩ ++ b) = false) := good_ff a b
  have hsz : (a ++ ⟨#[255]⟩ ++ b).size ≤ 140737488355328 := by rw [ByteArray.size_append, ByteArray.size_append]; show a.size + 1 + b.size ≤ _; omega
  have Hsz := Lib.hid hsz
  clear hsz
  have k1 : ¬ (33554432 : Int) < (a.size : Int) := by omega
  have k2 : ¬ (33554432 : Int) < (b.size : Int) := by omega
  have hw := Below.refl w.heap.size w
  go_enter Try.func5, Try.ntmps5
  go_wp2_with fail
  refine (gd _ true _ g1 (by decide)).mono ?_
  rintro e w1 ⟨rfl, hb1⟩
  replace hw := hw.trans (hb1.mono hw.size)
  go_wp2_with fail
  refine (gd _ true _ g2 (by decide)).mono ?_
  rintro e w2 ⟨rfl, hb2⟩
  replace hw := hw.trans (hb2.mono hw.size)
  go_wp2_with fail
  refine (gd _ false _ g3 (by decide)).mono ?_
  rintro e w3 ⟨rfl, hb3⟩
  replace hw := hw.trans (hb3.mono hw.size)
  go_wp2_with fail
  refine (gd _ false _ g4 (by decide)).mono ?_
  rintro e w4 ⟨rfl, hb4⟩
  replace hw := hw.trans (hb4.mono hw.size)
  clear hb1 hb2 hb3 hb4
  go_wp2_with fail
  refine (gd _ false _ hff Hsz.out).mono ?_
  rintro e w5 ⟨rfl, hb5⟩
  replace hw := hw.trans (hb5.mono hw.size)
  go_wp2_with fail
  refine (gd _ false _ hg (by omega)).mono ?_
  rintro e w6 ⟨rfl, hb6⟩
  replace hw := hw.trans (hb6.mono hw.size)
  go_wp2_with fail
  go_ret
  exact ⟨rfl, hw⟩

set_option maxHeartbeats 1600000 in
theorem walk_low (a b c : ByteArray) (m : Int) (w : World) (x : Bool) (ha : a.size ≤ 33554432) (hb : b.size ≤ 33554432) (m1 : -9223372036854775808 ≤ m) (m2 : m ≤ 9223372036854775807) (hg : Hid (good a = true)) (hgb : Hid (good b = x))
    (hc : Hid (a.extract 0 (cut a m) = c)) (hcs : c.size ≤ a.size) (hX : ((a.extract 0 c.size).toList == c.toList) = true) (h0 : m < 0) (hE : c.toList = []) (hE3 : (a.extract 0 c.size).toList = []) :
    Calls Try.prog 5 #[.string a, .string b, .int .i64 m] w fun e w' => e = .returned (.bool true) ∧ Below w.heap.size w w' := by
  have hff : Hid (good (a ++ ⟨#[255]⟩ ++ b) = false) := good_ff a b
  have hgc : Hid (good c = true) := by rw [← hc.out]; exact good_cut m hg.out
  have hgab : Hid (good (a ++ b) = x) := (good_append b hg.out).trans hgb.out
  have hself : Hid (a.extract 0 (cut a a.size) = a) := cut_self a
  have hsz : (a ++ ⟨#[255]⟩ ++ b).size ≤ 140737488355328 := by rw [ByteArray.size_append, ByteArray.size_append]; show a.size + 1 + b.size ≤ _; omega
  have Hsz := Lib.hid hsz
  have hsz2 : (a ++ b).size ≤ 140737488355328 := by rw [ByteArray.size_append]; omega
  have Hsz2 := Lib.hid hsz2
  clear hsz hsz2
  have k1 : ¬ (33554432 : Int) < (a.size : Int) := by omega
  have k2 : ¬ (33554432 : Int) < (b.size : Int) := by omega
  have hw := Below.refl w.heap.size w
  go_enter Try.func5, Try.ntmps5
  go_wp2_with fail
  refine (gd _ true _ g1 (by decide)).mono ?_
  rintro e w1 ⟨rfl, hb1⟩
  replace hw := hw.trans (hb1.mono hw.size)
  go_wp2_with fail
  refine (gd _ true _ g2 (by decide)).mono ?_
  rintro e w2 ⟨rfl, hb2⟩
  replace hw := hw.trans (hb2.mono hw.size)
  go_wp2_with fail
  refine (gd _ false _ g3 (by decide)).mono ?_
  rintro e w3 ⟨rfl, hb3⟩
  replace hw := hw.trans (hb3.mono hw.size)
  go_wp2_with fail
  refine (gd _ false _ g4 (by decide)).mono ?_
  rintro e w4 ⟨rfl, hb4⟩
  replace hw := hw.trans (hb4.mono hw.size)
  clear hb1 hb2 hb3 hb4
  go_wp2_with fail
  refine (gd _ false _ hff Hsz.out).mono ?_
  rintro e w5 ⟨rfl, hb5⟩
  replace hw := hw.trans (hb5.mono hw.size)
  go_wp2_with fail
  refine (gd _ true _ hg (by omega)).mono ?_
  rintro e w6 ⟨rfl, hb6⟩
  replace hw := hw.trans (hb6.mono hw.size)
  go_wp2_with fail
  refine (ct _ c _ _ hc (by omega) m1 m2).mono ?_
  rintro e w7 ⟨rfl, hb7⟩
  replace hw := hw.trans (hb7.mono hw.size)
  clear hb5 hb6 hb7
  go_wp2_with fail
  refine (gd _ true _ hgc (by omega)).mono ?_
  rintro e w8 ⟨rfl, hb8⟩
  replace hw := hw.trans (hb8.mono hw.size)
  go_wp2_with fail
  refine (ct _ a _ _ hself (by omega) (by omega) (by omega)).mono ?_
  rintro e w9 ⟨rfl, hb9⟩
  replace hw := hw.trans (hb9.mono hw.size)
  clear hb8 hb9
  go_wp2_with fail
  refine (gd _ x _ hgb (by omega)).mono ?_
  rintro e w10 ⟨rfl, hb10⟩
  replace hw := hw.trans (hb10.mono hw.size)
  cases x
  · go_wp2_with fail
    refine (gd _ false _ hgab Hsz2.out).mono ?_
    rintro e w11 ⟨rfl, hb11⟩
    replace hw := hw.trans (hb11.mono hw.size)
    go_wp2_with fail
    go_ret
    exact ⟨rfl, hw⟩
  · go_wp2_with fail
    refine (gd _ true _ hgab Hsz2.out).mono ?_
    rintro e w11 ⟨rfl, hb11⟩
    replace hw := hw.trans (hb11.mono hw.size)
    go_wp2_with fail
    go_ret
    exact ⟨rfl, hw⟩

set_option maxHeartbeats 1600000 in
theorem walk_mid (a b c : ByteArray) (m : Int) (w : World) (x : Bool) (ha : a.size ≤ 33554432) (hb : b.size ≤ 33554432) (m1 : -9223372036854775808 ≤ m) (m2 : m ≤ 9223372036854775807) (hg : Hid (good a = true)) (hgb : Hid (good b = x))
    (hc : Hid (a.extract 0 (cut a m) = c)) (hcs : c.size ≤ a.size) (hX : ((a.extract 0 c.size).toList == c.toList) = true) (h0 : 0 ≤ m) (h3 : m < 3) (h4 : (c.size : Int) ≤ m) :
    Calls Try.prog 5 #[.string a, .string b, .int .i64 m] w fun e w' => e = .returned (.bool true) ∧ Below w.heap.size w w' := by
  have hff : Hid (good (a ++ ⟨#[255]⟩ ++ b) = false) := good_ff a b
  have hgc : Hid (good c = true) := by rw [← hc.out]; exact good_cut m hg.out
  have hgab : Hid (good (a ++ b) = x) := (good_append b hg.out).trans hgb.out
  have hself : Hid (a.extract 0 (cut a a.size) = a) := cut_self a
  have hsz : (a ++ ⟨#[255]⟩ ++ b).size ≤ 140737488355328 := by rw [ByteArray.size_append, ByteArray.size_append]; show a.size + 1 + b.size ≤ _; omega
  have Hsz := Lib.hid hsz
  have hsz2 : (a ++ b).size ≤ 140737488355328 := by rw [ByteArray.size_append]; omega
  have Hsz2 := Lib.hid hsz2
  clear hsz hsz2
  have k1 : ¬ (33554432 : Int) < (a.size : Int) := by omega
  have k2 : ¬ (33554432 : Int) < (b.size : Int) := by omega
  have hw := Below.refl w.heap.size w
  go_enter Try.func5, Try.ntmps5
  go_wp2_with fail
  refine (gd _ true _ g1 (by decide)).mono ?_
  rintro e w1 ⟨rfl, hb1⟩
  replace hw := hw.trans (hb1.mono hw.size)
  go_wp2_with fail
  refine (gd _ true _ g2 (by decide)).mono ?_
  rintro e w2 ⟨rfl, hb2⟩
  replace hw := hw.trans (hb2.mono hw.size)
  go_wp2_with fail
  refine (gd _ false _ g3 (by decide)).mono ?_
  rintro e w3 ⟨rfl, hb3⟩
  replace hw := hw.trans (hb3.mono hw.size)
  go_wp2_with fail
  refine (gd _ false _ g4 (by decide)).mono ?_
  rintro e w4 ⟨rfl, hb4⟩
  replace hw := hw.trans (hb4.mono hw.size)
  clear hb1 hb2 hb3 hb4
  go_wp2_with fail
  refine (gd _ false _ hff Hsz.out).mono ?_
  rintro e w5 ⟨rfl, hb5⟩
  replace hw := hw.trans (hb5.mono hw.size)
  go_wp2_with fail
  refine (gd _ true _ hg (by omega)).mono ?_
  rintro e w6 ⟨rfl, hb6⟩
  replace hw := hw.trans (hb6.mono hw.size)
  go_wp2_with fail
  refine (ct _ c _ _ hc (by omega) m1 m2).mono ?_
  rintro e w7 ⟨rfl, hb7⟩
  replace hw := hw.trans (hb7.mono hw.size)
  clear hb5 hb6 hb7
  go_wp2_with fail
  refine (gd _ true _ hgc (by omega)).mono ?_
  rintro e w8 ⟨rfl, hb8⟩
  replace hw := hw.trans (hb8.mono hw.size)
  go_wp2_with fail
  refine (ct _ a _ _ hself (by omega) (by omega) (by omega)).mono ?_
  rintro e w9 ⟨rfl, hb9⟩
  replace hw := hw.trans (hb9.mono hw.size)
  clear hb8 hb9
  go_wp2_with fail
  refine (gd _ x _ hgb (by omega)).mono ?_
  rintro e w10 ⟨rfl, hb10⟩
  replace hw := hw.trans (hb10.mono hw.size)
  cases x
  · go_wp2_with fail
    refine (gd _ false _ hgab Hsz2.out).mono ?_
    rintro e w11 ⟨rfl, hb11⟩
    replace hw := hw.trans (hb11.mono hw.size)
    go_wp2_with fail
    go_ret
    exact ⟨rfl, hw⟩
  · go_wp2_with fail
    refine (gd _ true _ hgab Hsz2.out).mono ?_
    rintro e w11 ⟨rfl, hb11⟩
    replace hw := hw.trans (hb11.mono hw.size)
    go_wp2_with fail
    go_ret
    exact ⟨rfl, hw⟩

set_option maxHeartbeats 1600000 in
theorem walk_in (a b c : ByteArray) (m : Int) (w : World) (x : Bool) (ha : a.size ≤ 33554432) (hb : b.size ≤ 33554432) (m1 : -9223372036854775808 ≤ m) (m2 : m ≤ 9223372036854775807) (hg : Hid (good a = true)) (hgb : Hid (good b = x))
    (hc : Hid (a.extract 0 (cut a m) = c)) (hcs : c.size ≤ a.size) (hX : ((a.extract 0 c.size).toList == c.toList) = true) (h0 : 3 ≤ m) (h3 : m < (a.size : Int)) (h4 : (c.size : Int) ≤ m) (h5 : m - 3 ≤ (c.size : Int)) :
    Calls Try.prog 5 #[.string a, .string b, .int .i64 m] w fun e w' => e = .returned (.bool true) ∧ Below w.heap.size w w' := by
  have hff : Hid (good (a ++ ⟨#[255]⟩ ++ b) = false) := good_ff a b
  have hgc : Hid (good c = true) := by rw [← hc.out]; exact good_cut m hg.out
  have hgab : Hid (good (a ++ b) = x) := (good_append b hg.out).trans hgb.out
  have hself : Hid (a.extract 0 (cut a a.size) = a) := cut_self a
  have hsz : (a ++ ⟨#[255]⟩ ++ b).size ≤ 140737488355328 := by rw [ByteArray.size_append, ByteArray.size_append]; show a.size + 1 + b.size ≤ _; omega
  have Hsz := Lib.hid hsz
  have hsz2 : (a ++ b).size ≤ 140737488355328 := by rw [ByteArray.size_append]; omega
  have Hsz2 := Lib.hid hsz2
  clear hsz hsz2
  have k1 : ¬ (33554432 : Int) < (a.size : Int) := by omega
  have k2 : ¬ (33554432 : Int) < (b.size : Int) := by omega
  have hw := Below.refl w.heap.size w
  go_enter Try.func5, Try.ntmps5
  go_wp2_with fail
  refine (gd _ true _ g1 (by decide)).mono ?_
  rintro e w1 ⟨rfl, hb1⟩
  replace hw := hw.trans (hb1.mono hw.size)
  go_wp2_with fail
  refine (gd _ true _ g2 (by decide)).mono ?_
  rintro e w2 ⟨rfl, hb2⟩
  replace hw := hw.trans (hb2.mono hw.size)
  go_wp2_with fail
  refine (gd _ false _ g3 (by decide)).mono ?_
  rintro e w3 ⟨rfl, hb3⟩
  replace hw := hw.trans (hb3.mono hw.size)
  go_wp2_with fail
  refine (gd _ false _ g4 (by decide)).mono ?_
  rintro e w4 ⟨rfl, hb4⟩
  replace hw := hw.trans (hb4.mono hw.size)
  clear hb1 hb2 hb3 hb4
  go_wp2_with fail
  refine (gd _ false _ hff Hsz.out).mono ?_
  rintro e w5 ⟨rfl, hb5⟩
  replace hw := hw.trans (hb5.mono hw.size)
  go_wp2_with fail
  refine (gd _ true _ hg (by omega)).mono ?_
  rintro e w6 ⟨rfl, hb6⟩
  replace hw := hw.trans (hb6.mono hw.size)
  go_wp2_with fail
  refine (ct _ c _ _ hc (by omega) m1 m2).mono ?_
  rintro e w7 ⟨rfl, hb7⟩
  replace hw := hw.trans (hb7.mono hw.size)
  clear hb5 hb6 hb7
  go_wp2_with fail
  refine (gd _ true _ hgc (by omega)).mono ?_
  rintro e w8 ⟨rfl, hb8⟩
  replace hw := hw.trans (hb8.mono hw.size)
  go_wp2_with fail
  refine (ct _ a _ _ hself (by omega) (by omega) (by omega)).mono ?_
  rintro e w9 ⟨rfl, hb9⟩
  replace hw := hw.trans (hb9.mono hw.size)
  clear hb8 hb9
  go_wp2_with fail
  refine (gd _ x _ hgb (by omega)).mono ?_
  rintro e w10 ⟨rfl, hb10⟩
  replace hw := hw.trans (hb10.mono hw.size)
  cases x
  · go_wp2_with fail
    refine (gd _ false _ hgab Hsz2.out).mono ?_
    rintro e w11 ⟨rfl, hb11⟩
    replace hw := hw.trans (hb11.mono hw.size)
    go_wp2_with fail
    go_ret
    exact ⟨rfl, hw⟩
  · go_wp2_with fail
    refine (gd _ true _ hgab Hsz2.out).mono ?_
    rintro e w11 ⟨rfl, hb11⟩
    replace hw := hw.trans (hb11.mono hw.size)
    go_wp2_with fail
    go_ret
    exact ⟨rfl, hw⟩

set_option maxHeartbeats 1600000 in
theorem walk_all (a b c : ByteArray) (m : Int) (w : World) (x : Bool) (ha : a.size ≤ 33554432) (hb : b.size ≤ 33554432) (m1 : -9223372036854775808 ≤ m) (m2 : m ≤ 9223372036854775807) (hg : Hid (good a = true)) (hgb : Hid (good b = x))
    (hc : Hid (a.extract 0 (cut a m) = c)) (hcs : c.size ≤ a.size) (hX : ((a.extract 0 c.size).toList == c.toList) = true) (h0 : 3 ≤ m) (h3 : (a.size : Int) ≤ m) (h4 : (c.size : Int) ≤ m) :
    Calls Try.prog 5 #[.string a, .string b, .int .i64 m] w fun e w' => e = .returned (.bool true) ∧ Below w.heap.size w w' := by
  have hff : Hid (good (a ++ ⟨#[255]⟩ ++ b) = false) := good_ff a b
  have hgc : Hid (good c = true) := by rw [← hc.out]; exact good_cut m hg.out
  have hgab : Hid (good (a ++ b) = x) := (good_append b hg.out).trans hgb.out
  have hself : Hid (a.extract 0 (cut a a.size) = a) := cut_self a
  have hsz : (a ++ ⟨#[255]⟩ ++ b).size ≤ 140737488355328 := by rw [ByteArray.size_append, ByteArray.size_append]; show a.size + 1 + b.size ≤ _; omega
  have Hsz := Lib.hid hsz
  have hsz2 : (a ++ b).size ≤ 140737488355328 := by rw [ByteArray.size_append]; omega
  have Hsz2 := Lib.hid hsz2
  clear hsz hsz2
  have k1 : ¬ (33554432 : Int) < (a.size : Int) := by omega
  have k2 : ¬ (33554432 : Int) < (b.size : Int) := by omega
  have hw := Below.refl w.heap.size w
  go_enter Try.func5, Try.ntmps5
  go_wp2_with fail
  refine (gd _ true _ g1 (by decide)).mono ?_
  rintro e w1 ⟨rfl, hb1⟩
  replace hw := hw.trans (hb1.mono hw.size)
  go_wp2_with fail
  refine (gd _ true _ g2 (by decide)).mono ?_
  rintro e w2 ⟨rfl, hb2⟩
  replace hw := hw.trans (hb2.mono hw.size)
  go_wp2_with fail
  refine (gd _ false _ g3 (by decide)).mono ?_
  rintro e w3 ⟨rfl, hb3⟩
  replace hw := hw.trans (hb3.mono hw.size)
  go_wp2_with fail
  refine (gd _ false _ g4 (by decide)).mono ?_
  rintro e w4 ⟨rfl, hb4⟩
  replace hw := hw.trans (hb4.mono hw.size)
  clear hb1 hb2 hb3 hb4
  go_wp2_with fail
  refine (gd _ false _ hff Hsz.out).mono ?_
  rintro e w5 ⟨rfl, hb5⟩
  replace hw := hw.trans (hb5.mono hw.size)
  go_wp2_with fail
  refine (gd _ true _ hg (by omega)).mono ?_
  rintro e w6 ⟨rfl, hb6⟩
  replace hw := hw.trans (hb6.mono hw.size)
  go_wp2_with fail
  refine (ct _ c _ _ hc (by omega) m1 m2).mono ?_
  rintro e w7 ⟨rfl, hb7⟩
  replace hw := hw.trans (hb7.mono hw.size)
  clear hb5 hb6 hb7
  go_wp2_with fail
  refine (gd _ true _ hgc (by omega)).mono ?_
  rintro e w8 ⟨rfl, hb8⟩
  replace hw := hw.trans (hb8.mono hw.size)
  go_wp2_with fail
  refine (ct _ a _ _ hself (by omega) (by omega) (by omega)).mono ?_
  rintro e w9 ⟨rfl, hb9⟩
  replace hw := hw.trans (hb9.mono hw.size)
  clear hb8 hb9
  go_wp2_with fail
  refine (gd _ x _ hgb (by omega)).mono ?_
  rintro e w10 ⟨rfl, hb10⟩
  replace hw := hw.trans (hb10.mono hw.size)
  cases x
  · go_wp2_with fail
    refine (gd _ false _ hgab Hsz2.out).mono ?_
    rintro e w11 ⟨rfl, hb11⟩
    replace hw := hw.trans (hb11.mono hw.size)
    go_wp2_with fail
    go_ret
    exact ⟨rfl, hw⟩
  · go_wp2_with fail
    refine (gd _ true _ hgab Hsz2.out).mono ?_
    rintro e w11 ⟨rfl, hb11⟩
    replace hw := hw.trans (hb11.mono hw.size)
    go_wp2_with fail
    go_ret
    exact ⟨rfl, hw⟩

theorem walk (a0 a1 : ByteArray) (a2 : Int) (w0 : a0.size ≤ maxLen) (w1 : a1.size ≤ maxLen) (w2 : (Lit.int .i64 a2).wf = true) (w : World) :
    Calls Try.prog 5 #[.string a0, .string a1, .int .i64 a2] w fun e w' => e = .returned (.bool true) ∧ Below w.heap.size w w' := by
  unfold maxLen at w0 w1
  have hm := bounds_i64 w2
  clear w2
  by_cases ka : a0.size ≤ 33554432
  · by_cases kb : a1.size ≤ 33554432
    · by_cases hg : good a0 = true
      · obtain ⟨c, hc⟩ : ∃ c, a0.extract 0 (cut a0 a2) = c := ⟨_, rfl⟩
        obtain ⟨x, hx⟩ : ∃ x, good a1 = x := ⟨_, rfl⟩
        have hle := cut_le a0 a2
        have hs : c.size = cut a0 a2 := by rw [← hc]; exact size_take hle
        have hX : ((a0.extract 0 c.size).toList == c.toList) = true := by rw [hs, hc]; simp
        have q1 := cut_most a0 a2
        by_cases c0 : a2 < 0
        · have e0 : cut a0 a2 = 0 := by omega
          have hE : c.toList = [] := by
            rw [ByteArray.toList_eq, ← List.length_eq_zero_iff]
            have : c.data.toList.length = c.size := by simp
            omega
          exact walk_low a0 a1 c a2 w x ka kb hm.1 hm.2 hg hx hc (by omega) hX c0 hE (by rw [hs, hc]; exact hE)
        · by_cases c3 : a2 < 3
          · exact walk_mid a0 a1 c a2 w x ka kb hm.1 hm.2 hg hx hc (by omega) hX (by omega) c3 (by omega)
          · by_cases c4 : a2 < (a0.size : Int)
            · have q2 := cut_near a0 a2 c4
              exact walk_in a0 a1 c a2 w x ka kb hm.1 hm.2 hg hx hc (by omega) hX (by omega) c4 (by omega) (by omega)
            · exact walk_all a0 a1 c a2 w x ka kb hm.1 hm.2 hg hx hc (by omega) hX (by omega) (by omega) (by omega)
      · exact walk_no a0 a1 a2 w ka kb (by simpa [Hid] using hg)
    · have k1 : ¬ (33554432 : Int) < (a0.size : Int) := by omega
      have k2 : (33554432 : Int) < (a1.size : Int) := by omega
      go_enter Try.func5, Try.ntmps5
      go_wp2_with fail
      go_ret
      exact ⟨rfl, Below.refl _ _⟩
  · have k1 : (33554432 : Int) < (a0.size : Int) := by omega
    go_enter Try.func5, Try.ntmps5
    go_wp2_with fail
    go_ret
    exact ⟨rfl, Below.refl _ _⟩

/-! ### THE ROW's STEP: WRITTEN OUT: LEAVE IT -/
set_option maxRecDepth 100000 in
theorem lifted (os : Os) (started : os.Started) (H : Type) (enc : TypeId × Value → H) :
    ReturnsInHanded {} Try.checked os 5 .any (Rows.wireJoinsSpec.pre6 enc Try.prog Try.f5 Rows.wireJoinsRow.domain false) (Rows.wireJoinsSpec.post enc Try.prog Try.f5 false true false false) := by
  refine returnsInHanded_of_change (C := Try.checked) own started (by kernel_rfl) Try.func5
    (ChangeSpec.witness6 (enc := enc) (C := Try.checked) false ⟨#[], #[.string ByteArray.empty, .string ByteArray.empty, .int .i64 0], []⟩ 8 (by kernel_rfl) (by kernel_rfl) (by kernel_rfl) (by kernel_rfl)) ?_
  intro W base args ds gs before hval0 hW hcnd _
  have hval : ∀ (j : Nat) t v, Try.f5.params[j]? = some t → args[j]? = some v → Value.okWide Try.prog W .any base t v := hval0
  have hW' := hW
  obtain ⟨p, q, hA0, hV, rfl, hfz, hnd⟩ := hW
  have hA : DataW.TrodAll enc Try.prog W 0 (fun _ => true) true Try.f5.params.toList args.toList ds p := hA0
  rw [Try.params5] at hA hval
  obtain ⟨v0, vs0, d0, ds0, p0, q0, hargs, rfl, rfl, h0, r0⟩ := trodAll_cons hA
  obtain ⟨v1, vs1, d1, ds1, p1, q1, rfl, rfl, rfl, h1, r1⟩ := trodAll_cons r0
  obtain ⟨v2, vs2, d2, ds2, p2, q2, rfl, rfl, rfl, h2, r2⟩ := trodAll_cons r1
  obtain ⟨rfl, rfl, rfl⟩ := trodAll_nil r2
  obtain rfl : args = #[v0, v1, v2] := by cases args; simp_all
  obtain ⟨rfl, rfl⟩ := trodVars_none hV
  obtain ⟨a0, rfl, rfl, rfl, w0⟩ := open_string Try.underlying9 (hval 0 9 v0 rfl rfl) h0
  obtain ⟨a1, rfl, rfl, rfl, w1⟩ := open_string Try.underlying9 (hval 1 9 v1 rfl rfl) h1
  obtain ⟨a2, rfl, rfl, rfl, w2⟩ := open_int Try.underlying3 (hval 2 3 v2 rfl rfl) h2
  clear hA0 hval0
  simp only [List.append_nil] at hW'
  refine (walk a0 a1 a2 w0 w1 w2 W).mono fun e W' ⟨he, hg⟩ => ?_
  subst he
  exact ⟨_, rfl, _, _, _, [], [], [], hW', trodAll_mk1 (shut_bool Try.underlying4 _), (trodAll_cons_mk (shut_string Try.underlying9 w0) (trodAll_cons_mk (shut_string Try.underlying9 w1) (trodAll_cons_mk (shut_int Try.underlying3 w2) trodAll_mk0))), rfl, hg.frame _, fun h => by cases h⟩

theorem over : Rows.wireJoinsRow.holds Try.pinned (OpenSpec.ofChange Rows.wireJoinsSpec) :=
  OpenClaim.holds_of_wide 5 Try.f5 rfl rfl rfl rfl rfl rfl rfl ⟨rfl, rfl, rfl, rfl, rfl⟩ rfl rfl rfl rfl rfl (by kernel_rfl) Try.func5 (by kernel_rfl)
    (of_decide_eq_true (by kernel_rfl)) (by unfold Func.isWrapper; first | (rw [if_pos (by decide +kernel)]; kernel_rfl) | (rw [if_neg (by decide +kernel)]; exact ⟨rfl, rfl⟩))
    (fun os started H enc _ => lifted os started H enc)

/-- ████ THE STATEMENT ████ -/
theorem proved : Rows.WireJoinsSaid :=
  over
#print axioms proved
end Go.Proofs.Ytlmfcnedbmonjaa.wireJoins
