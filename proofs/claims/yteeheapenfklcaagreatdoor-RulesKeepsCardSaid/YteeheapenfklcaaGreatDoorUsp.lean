/- users: accounts, lines and tables, what they come to. No program's run. -/
import Derived.Test.YteeheapenfklcaaGreatDoorUtf
import Derived.Lib.Split
import Derived.Lib.SplitLaws
import Derived.Lib.Join
namespace Go.Proofs.YteeheapenfklcaaGreatDoor.Us
set_option linter.unusedVariables false
open Go.Proofs.YteeheapenfklcaaGreatDoor.Utf

def dl (s : ByteArray) : List UInt8 := s.data.toList
theorem dl_length (t : ByteArray) : (dl t).length = t.size := by unfold dl; simp
/-- An account. -/
structure Acc where
  name : ByteArray
  leader : ByteArray
  members : List ByteArray
  key : ByteArray
  deriving DecidableEq

/-- The pieces between. -/
def cutB (c : UInt8) (s : ByteArray) : List ByteArray := Lib.splitB ⟨#[c]⟩ 0 (Lib.countB s ⟨#[c]⟩) s
def nameByte (c : UInt8) : Bool := decide (32 < c.toNat) && !(c == 127 || c == 58 || c == 44 || c == 35 || c == 47)
/-- May somebody be called so? -/
def isName (s : ByteArray) : Bool := decide (1 ≤ s.size) && decide (s.size ≤ 32) && good s && (dl s).all nameByte
def keyByte (c : UInt8) : Bool := decide (32 < c.toNat) && decide (c.toNat ≤ 126) && !(c == 58)
/-- May a key be so? -/
def isKey (s : ByteArray) : Bool := (dl s).all keyByte && decide (s.size ≤ 32)
def leadOk (s : ByteArray) : Bool := decide (s.size = 0) || isName s
def form (a : Acc) : Bool := isName a.name && leadOk a.leader && a.members.all isName && isKey a.key
def membersOf (f : ByteArray) : List ByteArray := if f.size = 0 then [] else cutB 44 f
def accIf (a : Acc) : Option Acc := if form a = true then some a else none
/-- A line as an account. -/
def accOf (line : ByteArray) : Option Acc :=
  match cutB 58 line with
  | [n, l, m, k] => accIf ⟨n, l, membersOf m, k⟩
  | _ => none

def known (T : List Acc) (n : ByteArray) : Bool := T.any fun a => decide (a.name = n)
def memB (x : ByteArray) (l : List ByteArray) : Bool := l.any fun m => decide (m = x)
theorem memB_iff {x : ByteArray} {l : List ByteArray} : memB x l = true ↔ x ∈ l := by simp [memB]
theorem memB_append (x : ByteArray) (l m : List ByteArray) : memB x (l ++ m) = (memB x l || memB x m) := by simp [memB]
theorem memB_one (x y : ByteArray) : memB x [y] = decide (y = x) := by simp [memB]
/-- Each stands once. -/
def once (l : List ByteArray) : Bool := decide l.Nodup
theorem once_here {l : List ByteArray} {k : Nat} (h : k < l.length) (hm : memB l[k] (l.take k) = true) : once l = false := by
  unfold once
  rw [decide_eq_false_iff_not]
  intro hd
  obtain ⟨i, hi, e⟩ := List.getElem_of_mem (memB_iff.1 hm)
  rw [List.getElem_take] at e
  rw [List.length_take] at hi
  exact List.pairwise_iff_getElem.1 hd i k (by omega) h (by omega) e
theorem once_all {l : List ByteArray} (h : ∀ k (hk : k < l.length), memB l[k] (l.take k) = false) : once l = true := by
  unfold once
  rw [decide_eq_true_iff]
  refine List.pairwise_iff_getElem.2 ?_
  intro i k hi hk hik e
  have := h k hk
  rw [Bool.eq_false_iff] at this
  apply this
  rw [memB_iff, List.mem_iff_getElem]
  refine ⟨i, by rw [List.length_take]; omega, ?_⟩
  rw [List.getElem_take]
  exact e
def addOk (T : List Acc) (a : Acc) : Bool := !known T a.name && once a.members
def knows (T : List Acc) (a : Acc) : Bool := (decide (a.leader.size = 0) || known T a.leader) && a.members.all (known T)
def says (line : ByteArray) : Bool := !(dl line == []) && !Lib.hasPrefix (dl line) [35]

/-- The first time through the lines. -/
def pass1 : List ByteArray → Nat → List Acc → Sum (Nat × Nat) (List Acc)
  | [], _, T => .inr T
  | l :: ls, i, T => if says l = true then
      match accOf l with
      | none => .inl (60, i + 1)
      | some a => if addOk T a = true then pass1 ls (i + 1) (T ++ [a]) else .inl (61, i + 1)
    else pass1 ls (i + 1) T
/-- The second time: whom an account names. -/
def pass2 (T : List Acc) : List ByteArray → Nat → Sum (Nat × Nat) Unit
  | [], _ => .inr ()
  | l :: ls, i => if says l = true then
      match accOf l with
      | none => .inl (60, i + 1)
      | some a => if knows T a = true then pass2 T ls (i + 1) else .inl (62, i + 1)
    else pass2 T ls (i + 1)
def lineL (a : Acc) : List UInt8 := Lib.join [dl a.name, dl a.leader, Lib.join (a.members.map dl) [44], dl a.key] [58]
def textL (T : List Acc) : List UInt8 := T.flatMap fun a => lineL a ++ [10]
/-- What Parse tells: the accounts if it is a table, the error, the line. -/
def parse (s : ByteArray) : Option (List Acc) × Nat × Nat :=
  if 65536 < s.size then (none, 1, 0) else
  match pass1 (cutB 10 s) 0 [] with
  | .inl (e, i) => (none, e, i)
  | .inr T => match pass2 T (cutB 10 s) 0 with
    | .inl (e, i) => (none, e, i)
    | .inr () => if 65536 < (textL T).length then (none, 1, 0) else (some T, 0, 0)

/-! ### The two maps -/
/-- Where each name's account stands. -/
def placeOf : List Acc → Nat → ByteArray → Option Nat
  | [], _, _ => none
  | a :: T, i, n => if a.name = n then some i else placeOf T (i + 1) n
theorem placeOf_append (a : Acc) (n : ByteArray) : ∀ (T : List Acc) (i : Nat), placeOf (T ++ [a]) i n = match placeOf T i n with | some k => some k | none => if a.name = n then some (i + T.length) else none
  | [], i => by simp [placeOf]
  | b :: T, i => by
    simp only [List.cons_append, placeOf]
    split
    · rfl
    · rw [placeOf_append a n T (i + 1)]
      simp only [List.length_cons]
      have : i + 1 + T.length = i + (T.length + 1) := by omega
      rw [this]
theorem placeOf_known (n : ByteArray) : ∀ (T : List Acc) (i : Nat), (placeOf T i n).isSome = known T n
  | [], i => rfl
  | b :: T, i => by
    unfold placeOf known
    simp only [List.any_cons]
    by_cases h : b.name = n
    · simp [h]
    · have := placeOf_known n T (i + 1)
      unfold known at this
      simp [h, this]
theorem placeOf_some (n : ByteArray) : ∀ (T : List Acc) (i k : Nat), placeOf T i n = some k → ∃ h : k - i < T.length, i ≤ k ∧ T[k - i].name = n
  | [], i, k, h => by simp [placeOf] at h
  | b :: T, i, k, h => by
    unfold placeOf at h
    split at h
    · rename_i hb
      cases h
      exact ⟨by simp, Nat.le_refl _, by simpa using hb⟩
    · obtain ⟨h1, h2, h3⟩ := placeOf_some n T (i + 1) k h
      have e : k - i = (k - (i + 1)) + 1 := by omega
      refine ⟨by simp; omega, by omega, ?_⟩
      simp only [e, List.getElem_cons_succ]
      exact h3
/-- Does somebody stand among a group's members? -/
def bel (T : List Acc) (x : ByteArray × ByteArray) : Bool := T.any fun a => decide (a.name = x.2) && memB x.1 a.members
theorem bel_append (T : List Acc) (a : Acc) (x : ByteArray × ByteArray) : bel (T ++ [a]) x = (bel T x || (decide (a.name = x.2) && memB x.1 a.members)) := by simp [bel]
theorem bel_unknown {T : List Acc} {g : ByteArray} (h : known T g = false) (u : ByteArray) : bel T (u, g) = false := by
  unfold known at h
  unfold bel
  rw [List.any_eq_false] at h ⊢
  intro a ha
  have := h a ha
  simp at this ⊢
  intro e
  exact absurd e this
/-- The account of a name. -/
def find (T : List Acc) (n : ByteArray) : Option Acc := T.find? fun a => decide (a.name = n)
def member (T : List Acc) (u g : ByteArray) : Bool := bel T (u, g) || (decide (u = g) && known T u)
def leads (T : List Acc) (u g : ByteArray) : Bool :=
  match placeOf T 0 g with
  | none => member T u g
  | some k => if ((T[k]?).elim true fun a => decide (a.leader.size = 0)) = true then member T u g else (T[k]?).elim false fun a => decide (u = a.leader)
/-! ### Characters -/
theorem gb_dl (s : ByteArray) (k : Nat) (h : k < s.size) : (dl s)[k]'(by rw [dl_length]; exact h) = UInt8.ofNat (gb s k) := by
  have e : (dl s)[k]'(by rw [dl_length]; exact h) = s[k] := rfl
  rw [e]
  unfold gb
  have : s.get! k = s[k] := by
    show s.data[k]! = s.data[k]
    exact getElem!_pos s.data k h
  rw [this, UInt8.ofNat_toNat]
theorem char_facts (s : ByteArray) (a : Nat) (h : a < s.size) :
    (gb s a < 128 ∧ (Utf8.decode s a).1 = gb s a ∧ (Utf8.decode s a).2 = 1) ∨
    (128 ≤ gb s a ∧ 128 ≤ (Utf8.decode s a).1 ∧ (Utf8.decode s a).1 ≤ 1114111 ∧ 1 ≤ (Utf8.decode s a).2 ∧ ∀ k, a ≤ k → k < a + (Utf8.decode s a).2 → k < s.size ∧ 128 ≤ gb s k) := by
  have k0 := gb_lt s a; have k1 := gb_lt s (a + 1); have k2 := gb_lt s (a + 2); have k3 := gb_lt s (a + 3)
  have H := dec_cases (gb s a) (gb s (a + 1)) (gb s (a + 2)) (gb s (a + 3)) (decide (a + 1 < s.size)) (decide (a + 2 < s.size)) (decide (a + 3 < s.size)) k0 k1 k2 k3
  rw [decode_dec]
  generalize dec (gb s a) (gb s (a + 1)) (gb s (a + 2)) (gb s (a + 3)) (decide (a + 1 < s.size)) (decide (a + 2 < s.size)) (decide (a + 3 < s.size)) = D at *
  simp only [decide_eq_true_eq] at H
  have one : ∀ k, a ≤ k → k < a + 1 → k = a := fun k h1 h2 => by omega
  rcases H with ⟨p, rfl⟩ | ⟨p1, p2, p3, p4, p5, rfl⟩ | ⟨p1, p2, p3, p4, p5, p6, p7, p8, p9, p10, rfl⟩ | ⟨p1, p2, p3, p4, p5, p6, p7, p8, p9, p10, p11, p12, p13, rfl⟩ | ⟨p0, p1, p2, p3, rfl⟩
  · exact Or.inl ⟨p, rfl, rfl⟩
  · refine Or.inr ⟨by omega, by simp only []; omega, by simp only []; omega, by simp only []; omega, fun k q1 q2 => ?_⟩
    simp only [] at q2
    have : k = a ∨ k = a + 1 := by omega
    rcases this with rfl | rfl <;> omega
  · refine Or.inr ⟨by omega, by simp only []; omega, by simp only []; omega, by simp only []; omega, fun k q1 q2 => ?_⟩
    simp only [] at q2
    have : k = a ∨ k = a + 1 ∨ k = a + 2 := by omega
    rcases this with rfl | rfl | rfl <;> omega
  · refine Or.inr ⟨by omega, by simp only []; omega, by simp only []; omega, by simp only []; omega, fun k q1 q2 => ?_⟩
    simp only [] at q2
    have : k = a ∨ k = a + 1 ∨ k = a + 2 ∨ k = a + 3 := by omega
    rcases this with rfl | rfl | rfl | rfl <;> omega
  · refine Or.inr ⟨p0, by simp only []; omega, by simp only []; omega, by simp only []; omega, fun k q1 q2 => ?_⟩
    simp only [] at q2
    obtain rfl : k = a := by omega
    exact ⟨h, p0⟩
theorem all_step {p : UInt8 → Bool} {l : List UInt8} {a n : Nat} (h : (l.take a).all p = true) (hn : ∀ k, a ≤ k → k < a + n → ∃ hk : k < l.length, p l[k] = true) : (l.take (a + n)).all p = true := by
  rw [List.all_eq_true] at h ⊢
  intro x hx
  obtain ⟨i, hi, rfl⟩ := List.getElem_of_mem hx
  rw [List.length_take] at hi
  rw [List.getElem_take]
  by_cases hia : i < a
  · refine h _ ?_
    rw [List.mem_iff_getElem]
    exact ⟨i, by rw [List.length_take]; omega, by rw [List.getElem_take]⟩
  · obtain ⟨_, hp⟩ := hn i (by omega) (by omega)
    exact hp
theorem all_no {p : UInt8 → Bool} {l : List UInt8} {k : Nat} (hk : k < l.length) (h : p l[k] = false) : l.all p = false := by
  rw [List.all_eq_false]
  exact ⟨l[k], List.getElem_mem hk, by rw [h]; decide⟩
theorem nameByte_high {n : Nat} (h : 128 ≤ n) (h2 : n < 256) : nameByte (UInt8.ofNat n) = true := by
  have : ∀ m : Fin 256, 128 ≤ m.val → nameByte (UInt8.ofNat m.val) = true := by decide +kernel
  exact this ⟨n, h2⟩ h
theorem keyByte_high {n : Nat} (h : 128 ≤ n) (h2 : n < 256) : keyByte (UInt8.ofNat n) = false := by
  have : ∀ m : Fin 256, 128 ≤ m.val → keyByte (UInt8.ofNat m.val) = false := by decide +kernel
  exact this ⟨n, h2⟩ h
def sepb : ByteArray := ⟨#[58, 44, 35, 47]⟩
theorem nameByte_low {n : Nat} (h : n < 128) : nameByte (UInt8.ofNat n) = (decide (32 < n) && !(n == 127) && !decide (0 ≤ Lib.indexByte sepb.data.toList (UInt8.ofNat n))) := by
  have : ∀ m : Fin 128, nameByte (UInt8.ofNat m.val) = (decide (32 < m.val) && !(m.val == 127) && !decide (0 ≤ Lib.indexByte sepb.data.toList (UInt8.ofNat m.val))) := by decide +kernel
  exact this ⟨n, h⟩
theorem keyByte_low {n : Nat} (h : n < 128) : keyByte (UInt8.ofNat n) = (decide (32 < n) && decide (n ≤ 126) && !(n == 58)) := by
  have : ∀ m : Fin 128, keyByte (UInt8.ofNat m.val) = (decide (32 < m.val) && decide (m.val ≤ 126) && !(m.val == 58)) := by decide +kernel
  exact this ⟨n, h⟩

/-! ### Pieces -/
theorem splitB_sizes (sep : ByteArray) : ∀ (k : Nat) (s : ByteArray), ∀ p ∈ Lib.splitB sep 0 k s, p.size ≤ s.size
  | 0, s, p, hp => by simp [Lib.splitB] at hp; rw [hp]; exact Nat.le_refl _
  | k + 1, s, p, hp => by
    unfold Lib.splitB at hp
    split at hp
    · simp at hp; rw [hp]; exact Nat.le_refl _
    · rcases List.mem_cons.1 hp with rfl | hp
      · simp [ByteArray.size_extract]; omega
      · have := splitB_sizes sep k _ p hp
        rw [ByteArray.size_extract] at this
        omega
theorem cutB_sizes (c : UInt8) (s : ByteArray) : ∀ p ∈ cutB c s, p.size ≤ s.size := splitB_sizes _ _ _
theorem cutB_length (c : UInt8) (s : ByteArray) : (cutB c s).length = Lib.countB s ⟨#[c]⟩ + 1 := Lib.splitB_all ⟨#[c]⟩ (Nat.le_refl 1) 0 _ s rfl
theorem cutB_le (c : UInt8) (s : ByteArray) : (cutB c s).length ≤ s.size + 1 := by
  have := Lib.countB_le ⟨#[c]⟩ (Nat.le_refl 1) s.size s (Nat.le_refl _)
  rw [cutB_length]; omega
end Go.Proofs.YteeheapenfklcaaGreatDoor.Us
