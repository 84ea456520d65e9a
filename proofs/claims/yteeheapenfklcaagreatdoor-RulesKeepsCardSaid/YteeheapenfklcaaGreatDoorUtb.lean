/- users: a table in memory: its three cells, two maps, its accounts. -/
import Derived.Test.YteeheapenfklcaaGreatDoorUac
import Derived.Test.YteeheapenfklcaaGreatDoorMpf
import Derived.DeepKeys5
namespace Go.Proofs.YteeheapenfklcaaGreatDoor
set_option linter.unusedVariables false
open Go.RowKit Go.Shelf
attribute [local go_sem] Oper.semAt_some
namespace Us
open Go.Proofs.YteeheapenfklcaaGreatDoor.Utf Go.Proofs.YteeheapenfklcaaGreatDoor.Txt Go.PlainAid Go.Proofs.YteeheapenfklcaaGreatDoor.Mpf

theorem laidOut : laidOutB Tryz.prog = true := by kernel_rfl
theorem rowBo : (120 : TypeId) < Tryz.prog.types.size := of_decide_eq_true (by kernel_rfl)
theorem wideBo : (match Tryz.prog.underlying 120 with | some (.array _ _) | some (.struct _) => true | _ => false) = true := by kernel_rfl
theorem deepBo : Tryz.prog.keyType 120 = true := by kernel_rfl
set_option maxRecDepth 100000 in
theorem lawBo : WideMaps.KeyLaw Tryz.prog 120 := deep_law_laid laidOut (m := 3) (by omega) rowBo (by kernel_rfl) wideBo
theorem cellsBo : Tryz.prog.cellsOf 120 = 2 := by kernel_rfl
theorem cells_str : Tryz.prog.cellsOf 9 = 1 := by kernel_rfl
theorem pos_succ {n m : Nat} (h : m < n) : ∃ k, n = k + 1 := ⟨n - 1, by omega⟩
theorem typesSz : ∃ n, Tryz.prog.types.size = n + 1 := pos_succ rowBo
def boV (x : ByteArray × ByteArray) : Value := .agg #[.string x.1, .string x.2]
theorem boKey (x : ByteArray × ByteArray) (h1 : x.1.size ≤ maxLen) (h2 : x.2.size ≤ maxLen) : ∃ l, keyOf Tryz.prog 120 (boV x) = some l := by
  obtain ⟨n, hn⟩ := typesSz
  have hf : (boV x).formed Tryz.prog 120 = true := by simp [boV, Value.formed, Tryz.underlying120, cellsBo]
  have hl : (Tryz.prog.keyLits (Tryz.prog.types.size + 1) 120 (boV x).cells.toList) = some [.string x.1.data.toList, .string x.2.data.toList] := by
    rw [hn]
    simp [boV, Value.cells, Program.keyLits, Tryz.underlying120, Tryz.underlying9, cellsBo, cells_str, h1, h2]
  exact ⟨.string (keyBytes [.string x.1.data.toList, .string x.2.data.toList]), by unfold keyOf; rw [Tryz.underlying120]; simp only [deepBo, hf, hl, Bool.and_self, if_true, Option.map_some]⟩
/-- Who belongs to whom. -/
noncomputable def bondK : MapK Tryz.prog 120 (ByteArray × ByteArray) where
  enc := boV
  ok x := x.1.size ≤ maxLen ∧ x.2.size ≤ maxLen
  keyed := Go.Maps.Keyed.of_law lawBo
  key x hx := boKey x hx.1 hx.2
  inj x y h := by
    unfold boV at h
    simp at h
    exact Prod.ext h.1 h.2
/-- Names. -/
noncomputable def strK : MapK Tryz.prog 9 ByteArray where
  enc x := .string x
  ok x := x.size ≤ maxLen
  keyed := Go.Maps.string_keyed Tryz.underlying9
  key x hx := ⟨_, by rw [keyOf_string Tryz.underlying9]; simp [mapKey]; exact ⟨hx, rfl⟩⟩
  inj x y h := by simpa using h

/-- An account's cells. -/
def accC (x : Acc × Value) : List Value := [.string x.1.name, .string x.1.leader, x.2, .string x.1.key]
def accs (L : List (Acc × Value)) : List Acc := L.map (·.1)
def plF (T : List Acc) (n : ByteArray) : Option Value := (placeOf T 0 n).map (fun i : Nat => Value.int .i64 (i : Int))
def unitV : Value := .agg #[]
def blF (f : ByteArray × ByteArray → Bool) (x : ByteArray × ByteArray) : Option Value := if f x = true then some unitV else none
/-- A table at p. -/
structure TbX (w : World) (B p : Nat) (sl : Value) (m1 m2 n2 : Nat) (f : ByteArray × ByteArray → Bool) (L : List (Acc × Value)) : Prop where
  box : w.heap[p]? = some (.cells #[sl, .map (some m1), .map (some m2)] 90 (0, 0))
  pl : Mp strK w m1 L.length (plF (accs L))
  bl : Mp bondK w m2 n2 (blF f)
  row : w.ownsRow B 35 4 sl L.length (L.flatMap accC)
  mem : ∀ x ∈ L, Mem w x.2 x.1.members
  far : B ≤ p ∧ B ≤ m1 ∧ B ≤ m2
  ne : m1 ≠ m2
def Tb (w : World) (B p : Nat) (T : List Acc) : Prop := ∃ sl m1 m2 n2 L, TbX w B p sl m1 m2 n2 (bel T) L ∧ accs L = T
theorem own_type {w : World} {base : Nat} {e : TypeId} {size : Nat} {v : Value} {n : Nat} {xs : List Value} (h : w.ownsRow base e size v n xs) : ∀ b, v.ownBlock = some b → ∃ cs, w.heap[b]? = some (.cells cs e (0, 0)) := by
  intro b hb
  rcases h.2 with ⟨rfl, _⟩ | ⟨g, cap, cur, rfl, _, hg, _⟩
  · cases hb
  · simp [Value.ownBlock] at hb
    subst hb
    exact ⟨cur, hg⟩
theorem ne_type {w : World} {b c : Nat} {cs ds : Array Value} {t u : TypeId} {z y : Nat × Nat} (h1 : w.heap[b]? = some (.cells cs t z)) (h2 : w.heap[c]? = some (.cells ds u y)) (ht : t ≠ u) : b ≠ c := by
  rintro rfl
  rw [h1] at h2
  cases h2
  exact ht rfl
theorem TbX.kept {w w' : World} {B p : Nat} {sl : Value} {m1 m2 n2 : Nat} {f : ByteArray × ByteArray → Bool} {L : List (Acc × Value)} (h : TbX w B p sl m1 m2 n2 f L) (k : Kept [] w w') : TbX w' B p sl m1 m2 n2 f L :=
  ⟨(k.block _ (block_lt h.box) (by simp)).trans h.box, h.pl.kept k (by simp), h.bl.kept k (by simp), own_kept h.row k (fun _ _ hm => by cases hm), fun x hx => (h.mem x hx).kept0 k, h.far, h.ne⟩
theorem Tb.kept {w w' : World} {B p : Nat} {T : List Acc} (h : Tb w B p T) (k : Kept [] w w') : Tb w' B p T := by
  obtain ⟨sl, m1, m2, n2, L, h, e⟩ := h
  exact ⟨sl, m1, m2, n2, L, h.kept k, e⟩
end Us
end Go.Proofs.YteeheapenfklcaaGreatDoor
