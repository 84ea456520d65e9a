/- strconv.ParseUint at base 16, stat.numbered. -/
import Derived.Test.YtkilomaangdmdaaDoorLtd
import Derived.Lib.CutLaws
namespace Go.Proofs.YtkilomaangdmdaaDoor
set_option linter.unusedVariables false
open Go.RowKit

/-- The library's variables that are read: what they hold. -/
structure Env (w : World) : Prop where
  m : ∃ m : Int, w.cell? ⟨1, 0, none⟩ = some (.int .i64 m)
  s : ∃ ev, w.cell? ⟨2, 0, none⟩ = some ev ∧ (ev = .nilIface ∨ ∃ te pe, ev = .iface te pe)
  r : ∃ ev, w.cell? ⟨3, 0, none⟩ = some ev ∧ (ev = .nilIface ∨ ∃ te pe, ev = .iface te pe)
  t : w.cell? ⟨5, 15, none⟩ = some (.int .u8 4)
theorem Kept.cell {w w' : World} (h : Kept [] w w') {a : Addr} {v : Value} (hc : w.cell? a = some v) : w'.cell? a = some v :=
  ((h.below (fun _ hm => by cases hm) (Nat.le_refl _)).cell (Lib.lt_of_cell hc)).trans hc
theorem Env.kept {w w' : World} (E : Env w) (h : Kept [] w w') : Env w' :=
  ⟨E.m.imp fun _ x => h.cell x, E.s.imp fun _ x => ⟨h.cell x.1, x.2⟩, E.r.imp fun _ x => ⟨h.cell x.1, x.2⟩, h.cell E.t⟩

/-- What strconv.ParseUint tells. -/
def UpOut (T : TypeId) (r : Option Nat) (e : Ending) : Prop := match r with
  | some n => e = .returned (.tuple #[.int .u64 n, .nilIface])
  | none => ∃ v : Int, ∃ p : Value, e = .returned (.tuple #[.int .u64 v, .iface T p])

set_option maxHeartbeats 4000000 in
set_option maxRecDepth 100000 in
theorem uint_any (t : ByteArray) (hmax : t.size ≤ 1152921504) (w : World) (E : Hid (Env w)) :
    Calls Tryd.prog 17 #[.string t, .int .i64 16, .int .i64 32] w fun e w' => UpOut 71 (if t.size = 0 then none else pu 0 t.data.toList) e ∧ Kept [] w w' := by
  have P := Lib.hid (puint t hmax w)
  obtain ⟨r, hr⟩ : ∃ r, r = (if t.size = 0 then none else pu 0 t.data.toList) := ⟨_, rfl⟩
  rw [← hr] at P ⊢
  clear hr
  cases r with
  | some n =>
    go_enter Tryd.func17, Tryd.ntmps17
    go_wp2_with fail
    refine P.out.mono ?_
    rintro e w1 ⟨h, k1⟩
    obtain rfl : e = .returned (.tuple #[.int .u64 n, .nilIface]) := h
    have K1 := Lib.hid k1
    clear k1 P
    go_wp2_with fail
    go_ret2
    exact ⟨rfl, K1.out⟩
  | none =>
    go_enter Tryd.func17, Tryd.ntmps17
    go_wp2_with fail
    refine P.out.mono ?_
    rintro e w1 ⟨h, k1⟩
    obtain ⟨v, k, rfl, hk⟩ : ∃ v k : Int, e = .returned (.tuple #[.int .u64 v, .iface 68 (.int .i64 k)]) ∧ (k = 1 ∨ k = 2) := h
    have K1 := Lib.hid k1
    have TE : Hid (∀ wx, Kept [] w wx → Calls Tryd.prog 25 #[.string ⟨#[80, 97, 114, 115, 101, 85, 105, 110, 116]⟩, .string t, .int .i64 16, .int .i64 32, .iface 68 (.int .i64 k)] wx fun e w' => ∃ N, e = .returned (.iface 71 (.pointer (some ⟨N, 0, none⟩))) ∧ Kept [] wx w') := fun wx kx => by
      have E2 := E.out.kept kx
      obtain ⟨e2, s1, s2⟩ := E2.s
      obtain ⟨e3, r1, r2⟩ := E2.r
      rcases hk with rfl | rfl
      · exact (Tryd.strconv_toError_range _ t 16 32 e3 wx (by omega) r1 r2).mono fun e w' ⟨N, h1, _, _, h4⟩ => ⟨N, h1, Kept.of_below h4 []⟩
      · exact (Tryd.strconv_toError_syntax _ t 16 32 e2 wx (by omega) s1 s2).mono fun e w' ⟨N, h1, _, _, h4⟩ => ⟨N, h1, Kept.of_below h4 []⟩
    clear k1 P hk
    go_wp2_with fail
    refine (TE.out _ ?_).mono ?_
    · exact K1.out
    rintro e w2 ⟨N, rfl, k2⟩
    have K2 := Lib.hid (K1.out.trans k2 (fun _ hm => by cases hm))
    clear k2 TE
    go_wp2_with fail
    go_ret2
    exact ⟨⟨_, _, rfl⟩, K2.out⟩

/-- What the digits tell. -/
def numb (t : ByteArray) : Nat := (if t.size = 0 then none else pu 0 t.data.toList).getD 0
theorem pu_lt : ∀ (l : List UInt8) (a r : Nat), a < 4294967296 → pu a l = some r → r < 4294967296 := by
  intro l
  induction l with
  | nil => intro a r h e; rw [pu] at e; cases e; exact h
  | cons c l ih =>
    intro a r h e
    rw [pu] at e
    cases hd : dv c.toNat with
    | none => rw [hd] at e; cases e
    | some d =>
      rw [hd] at e
      simp only at e
      split at e
      · cases e
      · exact ih _ _ (by omega) e
theorem numb_lt (t : ByteArray) : numb t < 4294967296 := by
  unfold numb
  split
  · simp
  · cases h : pu 0 t.data.toList with
    | none => simp
    | some r => simpa using pu_lt _ 0 r (by omega) h

set_option maxHeartbeats 4000000 in
set_option maxRecDepth 100000 in
theorem numbered_any (t : ByteArray) (hmax : t.size ≤ 1152921504) (w : World) (E : Hid (Env w)) :
    Calls Tryd.prog 13 #[.string t] w fun e w' => e = .returned (.int .u32 (numb t : Nat)) ∧ Kept [] w w' := by
  have P := Lib.hid (uint_any t hmax w E)
  obtain ⟨r, hr⟩ : ∃ r, r = (if t.size = 0 then none else pu 0 t.data.toList) := ⟨_, rfl⟩
  obtain ⟨b, hb⟩ : ∃ b, b = numb t := ⟨_, rfl⟩
  have hb32 : b < 4294967296 := by rw [hb]; exact numb_lt t
  have hbr : b = r.getD 0 := by rw [hb, hr]; rfl
  rw [← hr] at P
  rw [← hb]
  clear hr hb
  cases r with
  | some n =>
    obtain rfl : b = n := hbr
    have hw := wr32 b hb32
    go_enter Tryd.func13, Tryd.ntmps13
    go_wp2_with fail
    refine P.out.mono ?_
    rintro e w1 ⟨h, k1⟩
    obtain rfl : e = .returned (.tuple #[.int .u64 b, .nilIface]) := h
    have K1 := Lib.hid k1
    clear k1 P
    go_wp2_with fail
    go_ret
    exact ⟨by first | rfl | (rw [hw]), K1.out⟩
  | none =>
    obtain rfl : b = 0 := hbr
    go_enter Tryd.func13, Tryd.ntmps13
    go_wp2_with fail
    refine P.out.mono ?_
    rintro e w1 ⟨h, k1⟩
    obtain ⟨v, p, rfl⟩ : ∃ v : Int, ∃ p : Value, e = .returned (.tuple #[.int .u64 v, .iface 71 p]) := h
    have K1 := Lib.hid k1
    clear k1 P
    go_wp2_with fail
    go_ret
    exact ⟨rfl, K1.out⟩
end Go.Proofs.YtkilomaangdmdaaDoor
