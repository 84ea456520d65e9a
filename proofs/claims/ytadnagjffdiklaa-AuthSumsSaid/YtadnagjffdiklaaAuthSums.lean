/- AuthSums returns true for every key, list of numbers, place, number and byte; each argument reads behind the call as before. No condition. -/
import Derived.Test.YtadnagjffdiklaaRows
import Derived.Test.YtadnagjffdiklaaAsl
import Derived.Deep.Slices
import Derived.WalkKit
import Derived.ProofKit
import Derived.OpenShut
import Derived.ShutString
namespace Go.Proofs.Ytadnagjffdiklaa.authSums
open Go.ChangeShapes Go.WideShapes Go.ChangeAt Go.RowKit Go.Deep
open Go.ChangeMaps (open_string shut_string)
open Go.Proofs.Ytadnagjffdiklaa.Asm Go.Proofs.Ytadnagjffdiklaa.Ast Go.Proofs.Ytadnagjffdiklaa.Asl
set_option linter.unusedVariables false

theorem own : ownKnob Try.prog.godebug = none := by kernel_rfl
theorem laidOut : laidOutB Try.prog = true := by kernel_rfl
theorem kc : Try.prog.cellsOf 22 = 1 := by kernel_rfl

/-! ### The walk -/
theorem walk (w : World) (key : ByteArray) (a : Option Addr) (len cap : Nat) (l : List Nat) (at' : Int) (n : Nat) (k : UInt8) (hlen : l.length = len) (hlt : Hid (∀ x ∈ l, x < top)) (hv : Hid (RowSrc w (.slice a len cap) l.length (l.map uv)))
    (h1 : -9223372036854775808 ≤ at') (h2 : at' ≤ 9223372036854775807) (hn : n < top) :
    Calls Try.prog 4 #[.string key, .slice a len cap, .int .i64 at', .int .u64 n, .int .u8 k.toNat] w fun e w' => e = .returned (.bool true) ∧ Below w.heap.size w w' := by
  subst hlen
  by_cases hk : key.size ≤ 268435456
  · by_cases hl : l.length ≤ 33554432
    · exact sums_in w key _ l at' n k hk hl hlt hv h1 h2 hn
    · have k1 : ¬ (268435456 : Int) < (key.size : Int) := by omega
      have k2 : (33554432 : Int) < (l.length : Int) := by omega
      clear hlt hv
      go_enter Try.func4, Try.ntmps4
      go_wp2_with fail
      go_ret
      exact ⟨rfl, Below.refl _ _⟩
  · have k1 : (268435456 : Int) < (key.size : Int) := by omega
    clear hlt hv
    go_enter Try.func4, Try.ntmps4
    go_wp2_with fail
    go_ret
    exact ⟨rfl, Below.refl _ _⟩

def numIn : Value → Nat
  | .int _ x => x.toNat
  | _ => 0
/-- A list of numbers that came in, opened. -/
theorem nums {H : Type} {enc : TypeId × Value → H} {w : World} {spare : Nat → Bool} {held : Bool} {a1 : Option Addr} {len1 cap1 : Nat} {d : DataW H} {p : List MemPlace} (h : DataW.Trod enc Try.prog w 0 spare held 26 (.slice a1 len1 cap1) d p) :
    ∃ l : List Nat, l.length = len1 ∧ Hid (∀ x ∈ l, x < top) ∧ Hid (RowSrc w (.slice a1 len1 cap1) l.length (l.map uv)) := by
  obtain ⟨fuel, hf⟩ := h
  rcases open_slice1 Try.underlying26 kc hf with ⟨hv, -⟩ | ⟨a, len, cap, m, n, V, D, Pl, hcs, hb, hl, hm, hmm, hx, hi⟩
  · have hv' : [Value.slice a1 len1 cap1] = [.slice none 0 0] := hv
    simp only [List.cons.injEq, Value.slice.injEq, and_true] at hv'
    obtain ⟨rfl, rfl, rfl⟩ := hv'
    exact ⟨[], rfl, (fun x hx => by cases hx), Or.inl ⟨rfl, rfl, rfl⟩⟩
  · have hcs' : [Value.slice a1 len1 cap1] = [.slice (some a) len cap] := hcs
    simp only [List.cons.injEq, Value.slice.injEq, and_true] at hcs'
    obtain ⟨rfl, rfl, rfl⟩ := hcs'
    have hlm : len1 ≤ m := by rw [hmm]; split <;> omega
    have hV : ∀ i, i < len1 → V i = .int .u64 ((numIn (V i) : Nat) : Int) ∧ numIn (V i) < top := fun i hl => by
      obtain ⟨n0, e0, -, w0⟩ := DataW.trod_int Try.underlying22 (hi i (by omega)).2
      simp only [List.cons.injEq, and_true] at e0
      have hb := bounds_u64 w0
      rw [e0]
      have hn : ((n0.toNat : Nat) : Int) = n0 := Int.toNat_of_nonneg hb.1
      have hn' : numIn (.int .u64 n0) = n0.toNat := rfl
      rw [hn', hn]
      exact ⟨rfl, by unfold top; omega⟩
    refine ⟨(List.range len1).map (fun i => numIn (V i)), by simp, fun x hx => ?_, Or.inr ⟨a, cap1, by simp, fun j u hu => ?_⟩⟩
    · obtain ⟨i, hi2, rfl⟩ := List.mem_map.1 hx
      exact (hV i (List.mem_range.1 hi2)).2
    · rw [List.map_map, List.getElem?_map] at hu
      by_cases hil : j < len1
      · rw [List.getElem?_range hil] at hu
        simp only [Option.map_some, Option.some.injEq] at hu
        subst hu
        have := (hi j (by omega)).1
        rw [(hV j hil).1] at this
        exact this
      · rw [List.getElem?_eq_none (by simp; omega)] at hu
        cases hu

/-! ### THE ROW's STEP -/
set_option maxRecDepth 100000 in
theorem lifted (os : Os) (started : os.Started) (H : Type) (enc : TypeId × Value → H) :
    ReturnsInHanded {} Try.checked os 4 .any (Rows.authSumsSpec.pre6 enc Try.prog Try.f4 Rows.authSumsRow.domain false) (Rows.authSumsSpec.post enc Try.prog Try.f4 false true false false) := by
  refine returnsInHanded_of_change (C := Try.checked) own started (by kernel_rfl) Try.func4
    (ChangeSpec.witness6 (enc := enc) (C := Try.checked) false ⟨#[], #[.string ByteArray.empty, .slice none 0 0, .int .i64 0, .int .u64 0, .int .u8 0], []⟩ 8 (by kernel_rfl) (by kernel_rfl) (by kernel_rfl) (by kernel_rfl)) ?_
  intro W base args ds gs before hval0 hW hcnd _
  have hval : ∀ (j : Nat) t v, Try.f4.params[j]? = some t → args[j]? = some v → Value.okWide Try.prog W .any base t v := hval0
  have hW' := hW
  obtain ⟨p, q, hA0, hV, rfl, hfz, hnd⟩ := hW
  have hA : DataW.TrodAll enc Try.prog W 0 (fun _ => true) true Try.f4.params.toList args.toList ds p := hA0
  rw [Try.params4] at hA hval
  obtain ⟨v0, vs0, d0, ds0, p0, q0, hargs, rfl, rfl, h0, r0⟩ := trodAll_cons hA
  obtain ⟨v1, vs1, d1, ds1, p1, q1, rfl, rfl, rfl, h1, r1⟩ := trodAll_cons r0
  obtain ⟨v2, vs2, d2, ds2, p2, q2, rfl, rfl, rfl, h2, r2⟩ := trodAll_cons r1
  obtain ⟨v3, vs3, d3, ds3, p3, q3, rfl, rfl, rfl, h3, r3⟩ := trodAll_cons r2
  obtain ⟨v4, vs4, d4, ds4, p4, q4, rfl, rfl, rfl, h4, r4⟩ := trodAll_cons r3
  obtain ⟨rfl, rfl, rfl⟩ := trodAll_nil r4
  obtain rfl : args = #[v0, v1, v2, v3, v4] := by cases args; simp_all
  obtain ⟨rfl, rfl⟩ := trodVars_none hV
  have k1 := h1
  have lt1 : ∀ x ∈ p1, x.block < W.heap.size := by obtain ⟨m, hm⟩ := k1; exact DataW.trod_lt m _ _ _ hm
  obtain ⟨a0, rfl, rfl, rfl, w0⟩ := open_string Try.underlying9 (hval 0 9 v0 rfl rfl) h0
  obtain ⟨a1, len1, cap1, rfl⟩ := okWide_slice Try.underlying26 (hval 1 26 v1 rfl rfl)
  obtain ⟨a2, rfl, rfl, rfl, w2⟩ := open_int Try.underlying3 (hval 2 3 v2 rfl rfl) h2
  obtain ⟨a3, rfl, rfl, rfl, w3⟩ := open_int Try.underlying22 (hval 3 22 v3 rfl rfl) h3
  obtain ⟨a4, rfl, rfl, rfl, w4⟩ := open_int Try.underlying5 (hval 4 5 v4 rfl rfl) h4
  obtain ⟨l, hlen, hlt, hsrc⟩ := nums h1
  clear hA0 hval0
  simp only [List.append_nil] at hW'
  have b2 := bounds_i64 w2
  have b3 := bounds_u64 w3
  have b4 := bounds_u8 w4
  have e3 : a3 = ((a3.toNat : Nat) : Int) := (Int.toNat_of_nonneg b3.1).symm
  have e4 : a4 = (((UInt8.ofNat a4.toNat).toNat : Nat) : Int) := by
    rw [UInt8.toNat_ofNat']
    have : a4.toNat % 2 ^ 8 = a4.toNat := Nat.mod_eq_of_lt (by omega)
    rw [this]
    exact (Int.toNat_of_nonneg b4.1).symm
  have HW := walk W a0 a1 len1 cap1 l a2 a3.toNat (UInt8.ofNat a4.toNat) hlen hlt hsrc b2.1 b2.2 (by unfold top; omega)
  rw [← e3, ← e4] at HW
  refine HW.mono fun e W' ⟨he, hg⟩ => ?_
  subst he
  exact ⟨_, rfl, _, _, _, [], _, [], hW', trodAll_mk1 (shut_bool Try.underlying4 _), (trodAll_cons_mk (shut_string Try.underlying9 w0) (trodAll_cons_mk (Below.trod laidOut (by kernel_rfl) (of_decide_eq_true (by kernel_rfl)) k1 hg lt1) (trodAll_cons_mk (shut_int Try.underlying3 w2) (trodAll_cons_mk (shut_int Try.underlying22 w3) (trodAll_cons_mk (shut_int Try.underlying5 w4) trodAll_mk0))))), rfl, hg.frame _, fun h => by cases h⟩

theorem over : Rows.authSumsRow.holds Try.pinned (OpenSpec.ofChange Rows.authSumsSpec) :=
  OpenClaim.holds_of_wide 4 Try.f4 rfl rfl rfl rfl rfl rfl rfl ⟨rfl, rfl, rfl, rfl, rfl⟩ rfl rfl rfl rfl rfl (by kernel_rfl) Try.func4 (by kernel_rfl)
    (of_decide_eq_true (by kernel_rfl)) (by unfold Func.isWrapper; first | (rw [if_pos (by decide +kernel)]; kernel_rfl) | (rw [if_neg (by decide +kernel)]; exact ⟨rfl, rfl⟩))
    (fun os started H enc _ => lifted os started H enc)

/-- THE STATEMENT -/
theorem proved : Rows.AuthSumsSaid :=
  over
#print axioms proved
end Go.Proofs.Ytadnagjffdiklaa.authSums
