/- A change done once touches nothing more: plain facts. No program's run. -/
import Derived.Test.YtpomachfnjgjbaaMix
namespace Go.Proofs.Ytpomachfnjgjbaa
set_option linter.unusedVariables false
open Go.RowKit
theorem eqk_refl (s : Rec) (k : Nat) : eqk s s k = true := by unfold eqk; split <;> simp
theorem tk_keep (h : Rec) (k : Nat) : tk keepR h k = false := by unfold tk; rw [eqk_refl]; rfl
theorem tk_self (h : Rec) (k : Nat) : tk h h k = false := by unfold tk; rw [eqk_refl]; simp
theorem mix_none {f : Nat → Bool} (s h : Rec) (hf : ∀ k, k < 13 → f k = false) : mix f s h 13 = h := by
  simp [mix, hf 0, hf 1, hf 2, hf 3, hf 4, hf 5, hf 6, hf 7, hf 8, hf 9, hf 10, hf 11, hf 12]
theorem eqk_mix (f : Nat → Bool) (s h : Rec) (k : Nat) (hk : k < 13) : eqk s (mix f s h 13) k = if f k then true else eqk s h k := by
  obtain rfl | rfl | rfl | rfl | rfl | rfl | rfl | rfl | rfl | rfl | rfl | rfl | rfl : k = 0 ∨ k = 1 ∨ k = 2 ∨ k = 3 ∨ k = 4 ∨ k = 5 ∨ k = 6 ∨ k = 7 ∨ k = 8 ∨ k = 9 ∨ k = 10 ∨ k = 11 ∨ k = 12 := by omega
  · cases hf : f 0 <;> simp [eqk, mix, hf]
  · cases hf : f 1 <;> simp [eqk, mix, hf]
  · cases hf : f 2 <;> simp [eqk, mix, hf]
  · cases hf : f 3 <;> simp [eqk, mix, hf]
  · cases hf : f 4 <;> simp [eqk, mix, hf]
  · cases hf : f 5 <;> simp [eqk, mix, hf]
  · cases hf : f 6 <;> simp [eqk, mix, hf]
  · cases hf : f 7 <;> simp [eqk, mix, hf]
  · cases hf : f 8 <;> simp [eqk, mix, hf]
  · cases hf : f 9 <;> simp [eqk, mix, hf]
  · cases hf : f 10 <;> simp [eqk, mix, hf]
  · cases hf : f 11 <;> simp [eqk, mix, hf]
  · cases hf : f 12 <;> simp [eqk, mix, hf]
theorem tk_again (s h : Rec) (k : Nat) (hk : k < 13) : tk s (mix (tk s h) s h 13) k = false := by
  have e := eqk_mix (tk s h) s h k hk
  obtain ⟨m, hm⟩ : ∃ m, m = mix (tk s h) s h 13 := ⟨_, rfl⟩
  rw [← hm] at e ⊢
  clear hm
  cases hf : tk s h k with
  | true => rw [hf] at e; unfold tk; rw [e]; simp
  | false =>
    rw [hf] at e
    unfold tk at hf ⊢
    rw [e]
    exact hf
theorem tk_ne {s h : Rec} {k : Nat} (hf : tk s h k = true) : eqk s h k = false := by
  unfold tk at hf
  cases h1 : eqk s h k with
  | false => rfl
  | true => rw [h1] at hf; simp at hf
theorem mix_ok {f : Nat → Bool} {s h : Rec} (so : s.Ok) (ho : h.Ok) (n : Nat) : (mix f s h n).Ok := by
  constructor <;> (simp only [mix]; split)
  · exact so.ty
  · exact ho.ty
  · exact so.dev
  · exact ho.dev
  · exact so.kind
  · exact ho.kind
  · exact so.vers
  · exact ho.vers
  · exact so.path
  · exact ho.path
  · exact so.mode
  · exact ho.mode
  · exact so.atime
  · exact ho.atime
  · exact so.mtime
  · exact ho.mtime
  · exact so.len
  · exact ho.len
  · exact so.name
  · exact ho.name
  · exact so.uid
  · exact ho.uid
  · exact so.gid
  · exact ho.gid
  · exact so.muid
  · exact ho.muid
theorem mix_at0 (f : Nat → Bool) (s h : Rec) : (mix f s h 13).ty = if f 0 then s.ty else h.ty := by simp [mix]
theorem mix_at1 (f : Nat → Bool) (s h : Rec) : (mix f s h 13).dev = if f 1 then s.dev else h.dev := by simp [mix]
theorem mix_at2 (f : Nat → Bool) (s h : Rec) : (mix f s h 13).kind = if f 2 then s.kind else h.kind := by simp [mix]
theorem mix_at3 (f : Nat → Bool) (s h : Rec) : (mix f s h 13).vers = if f 3 then s.vers else h.vers := by simp [mix]
theorem mix_at4 (f : Nat → Bool) (s h : Rec) : (mix f s h 13).path = if f 4 then s.path else h.path := by simp [mix]
theorem mix_at5 (f : Nat → Bool) (s h : Rec) : (mix f s h 13).mode = if f 5 then s.mode else h.mode := by simp [mix]
theorem mix_at6 (f : Nat → Bool) (s h : Rec) : (mix f s h 13).atime = if f 6 then s.atime else h.atime := by simp [mix]
theorem mix_at7 (f : Nat → Bool) (s h : Rec) : (mix f s h 13).mtime = if f 7 then s.mtime else h.mtime := by simp [mix]
theorem mix_at8 (f : Nat → Bool) (s h : Rec) : (mix f s h 13).len = if f 8 then s.len else h.len := by simp [mix]
theorem mix_at9 (f : Nat → Bool) (s h : Rec) : (mix f s h 13).name = if f 9 then s.name else h.name := by simp [mix]
theorem mix_at10 (f : Nat → Bool) (s h : Rec) : (mix f s h 13).uid = if f 10 then s.uid else h.uid := by simp [mix]
theorem mix_at11 (f : Nat → Bool) (s h : Rec) : (mix f s h 13).gid = if f 11 then s.gid else h.gid := by simp [mix]
theorem mix_at12 (f : Nat → Bool) (s h : Rec) : (mix f s h 13).muid = if f 12 then s.muid else h.muid := by simp [mix]
end Go.Proofs.Ytpomachfnjgjbaa
