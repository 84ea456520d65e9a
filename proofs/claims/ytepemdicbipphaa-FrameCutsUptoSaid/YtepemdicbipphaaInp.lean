/- What comes in: lists of bytes, lists of lists, scripts; what the law's many and much answer. -/
import Derived.Test.YtepemdicbipphaaCts
namespace Go.Proofs.Ytepemdicbipphaa
set_option linter.unusedVariables false
open Go.RowKit

/-- A list of bytes that came in. -/
def Byt (w : World) (v : Value) (l : List UInt8) (T : List Nat) : Prop := ∃ a c, v = .slice a l.length c ∧ l.length ≤ c ∧ c ≤ 9223372036854775807 ∧ l.length ≤ 1048576 ∧ Src w v l T
theorem Byt.kept {w w' : World} {v : Value} {l : List UInt8} {T S : List Nat} (h : Byt w v l T) (hk : Kept S w w') (hd : ∀ k ∈ T, k ∉ S) : Byt w' v l T := by
  obtain ⟨a, c, h1, h2, h3, h4, h5⟩ := h
  exact ⟨a, c, h1, h2, h3, h4, h5.kept hk hd⟩

/-- A list of such lists. -/
structure Rws (w : World) (a : Option Addr) (cap b off : Nat) (ls : List (Value × List UInt8)) (T : List Nat) : Prop where
  n : ls.length ≤ 1048576
  a : 0 < ls.length → a = some ⟨b, off, none⟩ ∧ ls.length ≤ cap
  t : ∀ i ∈ T, i < w.heap.size
  at' : ∀ i (hi : i < ls.length), b ∈ T ∧ w.cell? ⟨b, off + i, none⟩ = some (ls[i]).1 ∧ Byt w (ls[i]).1 (ls[i]).2 T
theorem Rws.kept {w w' : World} {a : Option Addr} {cap b off : Nat} {ls : List (Value × List UInt8)} {T S : List Nat} (h : Rws w a cap b off ls T) (hk : Kept S w w') (hd : ∀ i ∈ T, i ∉ S) : Rws w' a cap b off ls T := by
  refine ⟨h.n, h.a, fun i hi => Nat.lt_of_lt_of_le (h.t i hi) hk.size, fun i hi => ?_⟩
  obtain ⟨h1, h2, h3⟩ := h.at' i hi
  refine ⟨h1, ?_, h3.kept hk hd⟩
  rw [← h2]
  exact World.cell?_of_block (hk.block b (h.t b h1) (hd b h1))

/-- A step of a script. -/
structure Stp where
  who : Int
  kind : Int
  b : Value
  n : Nat
def Stp.cells (o : Stp) : List Value := [.int .i64 o.who, .int .i64 o.kind, o.b, .int .u32 o.n]
/-- A script. -/
structure Ops (w : World) (a : Option Addr) (cap b off : Nat) (ops : List Stp) (bs : Nat → List UInt8) (T : List Nat) : Prop where
  n : ops.length ≤ 1048576
  a : 0 < ops.length → a = some ⟨b, off, none⟩ ∧ ops.length ≤ cap
  t : ∀ i ∈ T, i < w.heap.size
  at' : ∀ i (hi : i < ops.length), b ∈ T ∧ (∀ j, j < 4 → w.cell? ⟨b, off + i * 4 + j, none⟩ = (ops[i].cells)[j]?) ∧ Byt w ops[i].b (bs i) T ∧ ops[i].n ≤ 4294967295 ∧ -9223372036854775808 ≤ ops[i].who ∧ ops[i].who ≤ 9223372036854775807
theorem Ops.kept {w w' : World} {a : Option Addr} {cap b off : Nat} {ops : List Stp} {bs : Nat → List UInt8} {T S : List Nat} (h : Ops w a cap b off ops bs T) (hk : Kept S w w') (hd : ∀ i ∈ T, i ∉ S) : Ops w' a cap b off ops bs T := by
  refine ⟨h.n, h.a, fun i hi => Nat.lt_of_lt_of_le (h.t i hi) hk.size, fun i hi => ?_⟩
  obtain ⟨h1, h2, h3, h4⟩ := h.at' i hi
  refine ⟨h1, fun j hj => ?_, h3.kept hk hd, h4⟩
  rw [← h2 j hj]
  exact World.cell?_of_block (hk.block b (h.t b h1) (hd b h1))

def manyF : Nat → List (Value × List UInt8) → Nat
  | n, [] => n
  | n, x :: r => if n ≤ 33554432 then manyF (n + 16 + x.2.length) r else n
theorem manyF_le : ∀ (ls : List (Value × List UInt8)) (n : Nat), (∀ x ∈ ls, x.2.length ≤ 1048576) → n ≤ 35651584 → manyF n ls ≤ 35651584
  | [], n, _, h => h
  | x :: r, n, hx, h => by
    unfold manyF
    split
    · refine manyF_le r _ (fun y hy => hx y (List.mem_cons_of_mem _ hy)) ?_
      have := hx x (by simp)
      omega
    · exact h
def muchF (bs : Nat → List UInt8) : Nat → Nat → List Stp → Nat
  | n, _, [] => n
  | n, i, o :: r => if n ≤ 33554432 then muchF bs (n + 16 + (bs i).length + if o.kind = 6 then 70000 else 0) (i + 1) r else n
theorem muchF_le (bs : Nat → List UInt8) : ∀ (ops : List Stp) (i n : Nat), (∀ j, j < ops.length → (bs (i + j)).length ≤ 1048576) → n ≤ 35651584 → muchF bs n i ops ≤ 35651584
  | [], i, n, _, h => h
  | o :: r, i, n, hx, h => by
    unfold muchF
    split
    · refine muchF_le bs r _ _ (fun j hj => ?_) ?_
      · have := hx (j + 1) (by simp; omega)
        rw [show i + 1 + j = i + (j + 1) by omega]
        exact this
      · have := hx 0 (by simp)
        rw [Nat.add_zero] at this
        split <;> omega
    · exact h

namespace Law
theorem much_any (w : World) (a : Option Addr) (cap b off : Nat) (ops : List Stp) (bs : Nat → List UInt8) (T : List Nat) (h : Hid (Ops w a cap b off ops bs T)) :
    Calls Try.prog 12 #[.slice a ops.length cap] w fun e w' => e = .returned (.int .i64 (muchF bs 0 0 ops)) ∧ w' = w := by
  obtain ⟨M, hM⟩ : ∃ M, M = muchF bs 0 0 ops := ⟨_, rfl⟩
  rw [← hM]
  have HM := Lib.hid hM
  have hn := h.out.n
  clear hM
  go_enter Try.func12, Try.ntmps12
  go_wp2_with fail
  go_loop [3, 4] (fun nv iv' => ∃ (n i : Nat), i ≤ ops.length ∧ iv' = .int .i64 i ∧ nv = .int .i64 n ∧ n ≤ 35651584 ∧ Hid (M = muchF bs n i (ops.drop i))) (fun _ iv' => ops.length - (intOf iv').toNat)
  case atStart => exact ⟨0, 0, by omega, rfl, rfl, by omega, HM.out⟩
  case round =>
    obtain ⟨n, i, hi, rfl, rfl, hnn, hF⟩ := hrel
    by_cases hlt : i < ops.length
    · have hdrop := List.drop_eq_getElem_cons hlt
      by_cases hroom : n ≤ 33554432
      · obtain ⟨rfl, hcap⟩ := h.out.a (by omega)
        obtain ⟨h1, h2, h3, -⟩ := h.out.at' i hlt
        obtain ⟨o, ho⟩ : ∃ o, o = ops[i] := ⟨_, rfl⟩
        rw [← ho] at hdrop h2 h3
        obtain ⟨ba, bc, hv, hbc, hbc2, hbl, -⟩ := h3
        have d1 : w.cell? ⟨b, off + i * 4 + 1, none⟩ = some (.int .i64 o.kind) := h2 1 (by decide)
        have d2 : w.cell? ⟨b, off + i * 4 + 2, none⟩ = some (.slice ba (bs i).length bc) := by rw [← hv]; exact h2 2 (by decide)
        have hF2 : Hid (M = muchF bs (n + 16 + (bs i).length + if o.kind = 6 then 70000 else 0) (i + 1) (ops.drop (i + 1))) := by
          have := hF.out
          rw [hdrop] at this
          unfold muchF at this
          rw [if_pos hroom] at this
          exact this
        obtain ⟨ln, hln⟩ : ∃ ln, ln = (bs i).length := ⟨_, rfl⟩
        rw [← hln] at d2 hbl hF2 hbc
        have j1 : (i : Int) < (ops.length : Int) := by omega
        have j2 : (n : Int) ≤ 33554432 := by omega
        clear hdrop ho hv hln hF h2
        by_cases hk : o.kind = 6
        · have hk2 : (o.kind == 6) = true := by rw [hk]; rfl
          rw [if_pos hk] at hF2
          clear hk
          go_wp2_with fail
          go_round
          case rel => exact ⟨n + 16 + ln + 70000, i + 1, by omega, by go_num, by go_num, by omega, hF2⟩
          case measure => simp [intOf]; omega
        · have hk2 : (o.kind == 6) = false := by rw [beq_eq_false_iff_ne]; exact hk
          rw [if_neg hk] at hF2
          clear hk
          go_wp2_with fail
          go_round
          case rel => exact ⟨n + 16 + ln, i + 1, by omega, by go_num, by go_num, by omega, hF2⟩
          case measure => simp [intOf]; omega
      · have j1 : (i : Int) < (ops.length : Int) := by omega
        have j2 : ¬ (n : Int) ≤ 33554432 := by omega
        have hF2 : M = n := by
          have := hF.out
          rw [hdrop] at this
          unfold muchF at this
          rw [if_neg hroom] at this
          exact this
        have HF2 := Lib.hid hF2
        clear hdrop hF2 hF
        go_wp2_with fail
        go_ret
        exact ⟨ret_int (by rw [HF2.out]), rfl⟩
    · have j1 : ¬ (i : Int) < (ops.length : Int) := by omega
      have hF2 : M = n := by
        have := hF.out
        rw [List.drop_eq_nil_of_le (by omega)] at this
        exact this
      have HF2 := Lib.hid hF2
      clear hF2 hF
      go_wp2_with fail
      go_ret
      exact ⟨ret_int (by rw [HF2.out]), rfl⟩
end Law
end Go.Proofs.Ytepemdicbipphaa
