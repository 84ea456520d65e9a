/- A store of nodes as the chapter tells it, and where it lies in memory. -/
import Derived.Test.YtihkldcdikbinaaHld
import Derived.DeepKeys5
namespace Go.Proofs.Ytihkldcdikbinaa
set_option linter.unusedVariables false
open Go.RowKit
namespace Nd
open Go.Proofs.Ytihkldcdikbinaa.Utf Go.Proofs.Ytihkldcdikbinaa.Txt Go.PlainAid Go.Proofs.Ytihkldcdikbinaa.Mpf

theorem laidOut : laidOutB Try.prog = true := by kernel_rfl
theorem rowPl : (123 : TypeId) < Try.prog.types.size := of_decide_eq_true (by kernel_rfl)
theorem widePl : (match Try.prog.underlying 123 with | some (.array _ _) | some (.struct _) => true | _ => false) = true := by kernel_rfl
theorem deepPl : Try.prog.keyType 123 = true := by kernel_rfl
set_option maxRecDepth 100000 in
theorem lawPl : WideMaps.KeyLaw Try.prog 123 := deep_law_laid laidOut (m := 3) (by omega) rowPl (by kernel_rfl) widePl
theorem cellsPl : Try.prog.cellsOf 123 = 2 := by kernel_rfl
theorem cells_u64 : Try.prog.cellsOf 30 = 1 := by kernel_rfl
theorem cells_str : Try.prog.cellsOf 9 = 1 := by kernel_rfl
theorem pos_succ {n m : Nat} (h : m < n) : ∃ k, n = k + 1 := ⟨n - 1, by omega⟩
theorem typesSz : ∃ n, Try.prog.types.size = n + 1 := pos_succ rowPl
def plV (x : Nat × ByteArray) : Value := .agg #[.int .u64 x.1, .string x.2]
theorem plKey (x : Nat × ByteArray) (h1 : x.1 < 18446744073709551616) (h2 : x.2.size ≤ maxLen) : ∃ l, keyOf Try.prog 123 (plV x) = some l := by
  obtain ⟨n, hn⟩ := typesSz
  have hw : (Lit.int .u64 (x.1 : Int)).wf = true := WalkArith.wf_u64 (by omega)
  have hf : (plV x).formed Try.prog 123 = true := by simp [plV, Value.formed, Try.underlying123, cellsPl]
  have hl : (Try.prog.keyLits (Try.prog.types.size + 1) 123 (plV x).cells.toList) = some [.int .u64 x.1, .string x.2.data.toList] := by
    rw [hn]
    simp [plV, Value.cells, Program.keyLits, Try.underlying123, Try.underlying30, Try.underlying9, cellsPl, cells_u64, cells_str, hw, h2]
  exact ⟨.string (keyBytes [.int .u64 x.1, .string x.2.data.toList]), by unfold keyOf; rw [Try.underlying123]; simp only [deepPl, hf, hl, Bool.and_self, if_true, Option.map_some]⟩
/-- Children by place. -/
noncomputable def pK : MapK Try.prog 123 (Nat × ByteArray) where
  enc := plV
  ok x := x.1 < 18446744073709551616 ∧ x.2.size ≤ maxLen
  keyed := Go.Maps.Keyed.of_law lawPl
  key x hx := plKey x hx.1 hx.2
  inj x y h := by
    unfold plV at h
    simp at h
    exact Prod.ext (by omega) h.2

/-- What goes where. -/
inductive Tag where
  | store | nodes | kids | paths
  | node (x : Nat) | data (x : Nat) | row (x : Nat)
deriving DecidableEq
/-- A block's bytes. -/
def blkV (l : List UInt8) : Value := .agg (l.map fun b => Value.int .u8 b.toNat).toArray
/-- A node, a store. -/
structure Ent where
  is : Is
  kids : List Nat
  data : Nat → Option (List UInt8)
structure SS where
  most : Nat
  next : Nat
  paths : List Nat
  nd : Nat → Option Ent
  kid : Nat × ByteArray → Option Nat
/-- Where it lies. -/
structure Mem where
  bn : Nat
  bc : Nat
  ps : Value
  blk : Nat → Nat
  ks : Nat → Value
  bm : Nat → Nat
abbrev Col := Nat → Option Tag
/-- The maps' answers. -/
def nodeF (S : SS) (M : Mem) : Nat → Option Value := fun x => (S.nd x).map fun _ => ptr (M.blk x)
def kidF (S : SS) : Nat × ByteArray → Option Value := fun x => (S.kid x).map fun y => .int .u64 (y : Int)
def dataF (d : Ent) : Nat → Option Value := fun i => (d.data i).map blkV
structure St (c : Col) (w : World) (p : Nat) (lk : Int) (ln : Nat → Int) (S : SS) (M : Mem) : Prop where
  st : StAt w p lk S.most S.next M.bn M.ps M.bc
  row : w.ownsRow 0 30 1 M.ps S.paths.length (nums S.paths)
  map : Mp nK w M.bn S.paths.length (nodeF S M)
  kid : ∃ n, Mp pK w M.bc n (kidF S)
  nd : ∀ x d, S.nd x = some d → NdAt w (M.blk x) d.is (ln x) (M.ks x) (M.bm x)
  krow : ∀ x d, S.nd x = some d → w.ownsRow 0 30 1 (M.ks x) d.kids.length (nums d.kids)
  data : ∀ x d, S.nd x = some d → ∃ n, Mp nK w (M.bm x) n (dataF d)
  cp : c p = some .store
  cn : c M.bn = some .nodes
  cc : c M.bc = some .kids
  cr : ∀ g, M.ps.ownBlock = some g → c g = some .paths
  cx : ∀ x d, S.nd x = some d → c (M.blk x) = some (.node x)
  cd : ∀ x d, S.nd x = some d → c (M.bm x) = some (.data x)
  ck : ∀ x d, S.nd x = some d → ∀ g, (M.ks x).ownBlock = some g → c g = some (.row x)
  lt : ∀ b t, c b = some t → b < w.heap.size
/-- What is no store's stays. -/
structure Fr (c : Col) (w : World) (c' : Col) (w' : World) : Prop where
  os : w'.os = w.os
  tape : w'.tape = w.tape
  output : w'.output = w.output
  size : w.heap.size ≤ w'.heap.size
  block : ∀ k, k < w.heap.size → c k = none → w'.heap[k]? = w.heap[k]? ∧ c' k = none
theorem Fr.refl (c : Col) (w : World) : Fr c w c w := ⟨rfl, rfl, rfl, Nat.le_refl _, fun _ _ h => ⟨rfl, h⟩⟩
theorem Fr.trans {c c' c'' : Col} {a b d : World} (h : Fr c a c' b) (k : Fr c' b c'' d) : Fr c a c'' d :=
  ⟨k.os.trans h.os, k.tape.trans h.tape, k.output.trans h.output, Nat.le_trans h.size k.size, fun i hi hn => by
    obtain ⟨h1, h2⟩ := h.block i hi hn
    obtain ⟨k1, k2⟩ := k.block i (Nat.lt_of_lt_of_le hi h.size) h2
    exact ⟨k1.trans h1, k2⟩⟩
theorem Fr.of_kept {L : List Nat} {c : Col} {w w' : World} (k : Kept L w w') (h : ∀ b ∈ L, c b ≠ none ∨ w.heap.size ≤ b) : Fr c w c w' :=
  ⟨k.os, k.tape, k.output, k.size, fun i hi hn => ⟨k.block i hi (fun hm => by rcases h i hm with q | q; exact q hn; omega), hn⟩⟩
/-- .. and new blocks may get colours. -/
theorem Fr.of_kept' {L : List Nat} {c c' : Col} {w w' : World} (k : Kept L w w') (h : ∀ b ∈ L, c b ≠ none ∨ w.heap.size ≤ b) (hc : ∀ b, b < w.heap.size → c' b = c b) : Fr c w c' w' :=
  ⟨k.os, k.tape, k.output, k.size, fun i hi hn => ⟨k.block i hi (fun hm => by rcases h i hm with q | q; exact q hn; omega), (hc i hi).trans hn⟩⟩
theorem Fr.bx {c c' : Col} {w w' : World} (k : Fr c w c' w') {B : Nat} {t : TypeId} {cs : Array Value} (h : Bx w B t cs) (hn : c B = none) : Bx w' B t cs := (k.block B h.lt hn).1.trans h
theorem Fr.kept {c c' : Col} {w w' : World} (k : Fr c w c' w') (L : List Nat) (h : ∀ b, b < w.heap.size → c b ≠ none → b ∈ L) : Kept L w w' :=
  ⟨k.os, k.tape, k.output, k.size, fun i hi hn => (k.block i hi (by
    cases e : c i with
    | none => rfl
    | some t => exact absurd (h i hi (by rw [e]; simp)) hn)).1⟩

section
variable {c : Col} {w w' : World} {p : Nat} {lk : Int} {ln : Nat → Int} {S : SS} {M : Mem}
/-- A store is as it was where its blocks are. -/
theorem St.same (h : St c w p lk ln S M) (hs : w.heap.size ≤ w'.heap.size) (hb : ∀ b t, c b = some t → w'.heap[b]? = w.heap[b]?) : St c w' p lk ln S M where
  st := (hb p _ h.cp).trans h.st
  row := by
    refine ⟨h.row.1, ?_⟩
    rcases h.row.2 with q | ⟨g, cap, cur, e, hb', hc, hr⟩
    · exact Or.inl q
    · exact Or.inr ⟨g, cap, cur, e, hb', (hb g _ (h.cr g (by rw [e]; rfl))).trans hc, hr⟩
  map := h.map.of_block (hb _ _ h.cn)
  kid := by obtain ⟨n, q⟩ := h.kid; exact ⟨n, q.of_block (hb _ _ h.cc)⟩
  nd x d e := (hb _ _ (h.cx x d e)).trans (h.nd x d e)
  krow x d e := by
    have q := h.krow x d e
    refine ⟨q.1, ?_⟩
    rcases q.2 with q | ⟨g, cap, cur, e', hb', hc, hr⟩
    · exact Or.inl q
    · exact Or.inr ⟨g, cap, cur, e', hb', (hb g _ (h.ck x d e g (by rw [e']; rfl))).trans hc, hr⟩
  data x d e := by obtain ⟨n, q⟩ := h.data x d e; exact ⟨n, q.of_block (hb _ _ (h.cd x d e))⟩
  cp := h.cp
  cn := h.cn
  cc := h.cc
  cr := h.cr
  cx := h.cx
  cd := h.cd
  ck := h.ck
  lt b t e := Nat.lt_of_lt_of_le (h.lt b t e) hs
theorem St.kept {L : List Nat} (h : St c w p lk ln S M) (k : Kept L w w') (hL : ∀ b ∈ L, c b = none) : St c w' p lk ln S M :=
  h.same k.size (fun b t e => k.block b (h.lt b t e) (fun hm => by rw [hL b hm] at e; cases e))
/-- Blocks of two colours are two. -/
theorem Col.ne {c : Col} {a b : Nat} {s t : Tag} (ha : c a = some s) (hb : c b = some t) (h : s ≠ t) : a ≠ b := by
  rintro rfl
  rw [ha] at hb
  exact h (Option.some.inj hb)
end
end Nd
end Go.Proofs.Ytihkldcdikbinaa
