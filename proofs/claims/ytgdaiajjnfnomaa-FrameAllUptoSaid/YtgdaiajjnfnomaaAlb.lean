/- All, whatever the limit: what it hands back, what its iterator goes through, what the reference's tells. -/
import Derived.Test.YtgdaiajjnfnomaaAll
import Derived.Test.YtgdaiajjnfnomaaRal
import Derived.Outline
namespace Go.Proofs.Ytgdaiajjnfnomaa
set_option linter.unusedVariables false
open Go.RowKit Go.Shelf
attribute [local go_sem] Oper.semAt_some

/-- The frames of bytes, at whatever limit. -/
def framesOf (n : Nat) (bs : List UInt8) : List (List UInt8) := if limB n = true then frames n bs else []
namespace Cut
theorem all_out (w : World) (v : Value) (bs : List UInt8) (T : List Nat) (x : Int) (n : Nat) (hx : x = n) (hsz : bs.length ≤ 1152921504606) (hb : Hid (Src w v bs T)) :
    Calls Try.prog 21 #[v, .int .u32 x] w (AllOut w n (limB n) bs) := by
  cases h : limB n with
  | true =>
    have h2 := of_decide_eq_true h
    exact all_good w v bs T x n hx h2.1 h2.2 hsz hb
  | false => exact all_bad w v bs T x n hx h hsz hb

theorem all1_bad (m0 : Nat) (w0 : World) (B1 B2 L p : Nat) (bs : List UInt8) (v : Value) (hc : Hid (Caught w0 B1 B2 L false bs p v)) :
    IterSt Fence.wide (m0 + 3) Try.prog 30 #[.pointer (some ⟨B1, 0, none⟩), .pointer (some ⟨B2, 0, none⟩)] (fun x : Value × List UInt8 => #[x.1]) (fun xs => xs.map (·.2) <+: []) (fun xs => xs.map (·.2) = []) GivF v.ownBlock.toList w0 := by
  intro l J Jx W hW hJ hY hS
  have hc1 : Hid (Caught W B1 B2 L false bs p v) := hc.out.kept hW (by simp) (by simp) (by simp) (fun _ _ hm => by simp at hm)
  have e1 : W.cell? ⟨B1, 0, none⟩ = some (.pointer none) := by rw [cell_of_row W B1 0 _ _ (0, 0) hc1.out.b1]; rfl
  have hj0 := hS [] W (fun i hi => by simp at hi) (Kept.refl _ _)
  have HJ0 := Lib.hid hj0
  clear hj0 hS hY hJ hc hc1 hW
  refine callsIn_of_wp Try.func30 rfl trivial ?_ rfl
  simp only [Try.ntmps30, List.size_toArray, List.length_cons, List.length_nil, Nat.reduceAdd, Nat.reduceSub, Array.replicate_succ, Array.replicate_zero, List.push_toArray, List.append_toArray, List.nil_append, List.cons_append]
  refine wpIn_scope ?_
  gi_wp2_with fail
  rw [Exit.noGoto_ret]
  exact bodyPost_ret (v := .tuple #[]) (by simp [results, Try.f30, go_sem]) rfl ⟨⟨_, rfl⟩, Or.inl ⟨[], [], rfl, HJ0.out⟩⟩
theorem iter_any (m0 : Nat) (w0 : World) (B1 B2 L p : Nat) (bs : List UInt8) (v : Value) (hsz : bs.length ≤ 1152921504) (hc : Hid (Caught w0 B1 B2 L (limB L) bs p v)) :
    IterSt Fence.wide (m0 + 3) Try.prog 30 #[.pointer (some ⟨B1, 0, none⟩), .pointer (some ⟨B2, 0, none⟩)] (fun x : Value × List UInt8 => #[x.1]) (fun xs => xs.map (·.2) <+: framesOf L bs) (fun xs => xs.map (·.2) = framesOf L bs) GivF v.ownBlock.toList w0 := by
  cases h : limB L with
  | true =>
    have h2 := of_decide_eq_true h
    rw [h] at hc
    have := all1_iter m0 w0 B1 B2 L p bs v h2.1 h2.2 hsz hc
    unfold framesOf
    rw [if_pos h]
    exact this
  | false =>
    rw [h] at hc
    have := all1_bad m0 w0 B1 B2 L p bs v hc
    unfold framesOf
    rw [h]
    exact this
end Cut
namespace Ref
def AllR2 (w : World) (n : Nat) (bs : List UInt8) (e : Ending) (w' : World) : Prop :=
  ∃ ov vs Q, e = .returned ov ∧ Hid (FrL w' ov vs (framesOf n bs) Q) ∧ Hid (∀ k ∈ Q, w.heap.size ≤ k) ∧ Hid (Kept [] w w')
theorem all_all (w : World) (v : Value) (bs : List UInt8) (T : List Nat) (x : Int) (n : Nat) (hx : x = n) (hsz : bs.length ≤ 1048576) (hb : Hid (Seg w v bs T)) :
    Calls Try.prog 5 #[v, .int .u32 x] w (AllR2 w n bs) := by
  cases h : limB n with
  | true =>
    have h2 := of_decide_eq_true h
    refine (all_any w v bs T x n hx h2.2 h2.1 hsz hb).mono fun e w' hh => ?_
    unfold AllR2 framesOf
    rw [if_pos h]
    exact hh
  | false =>
    refine (all_bad w v bs x n hx h).mono fun e w' ⟨he, hw⟩ => ?_
    unfold AllR2 framesOf
    rw [h]
    subst hw
    exact ⟨_, [], [], he, FrL.nil w, (fun k hk => by cases hk), Kept.refl _ _⟩
end Ref
end Go.Proofs.Ytgdaiajjnfnomaa
