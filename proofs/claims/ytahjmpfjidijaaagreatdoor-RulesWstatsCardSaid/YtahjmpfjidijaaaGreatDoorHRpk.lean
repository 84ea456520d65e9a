/- users, the reference's: Known, Member, Leads. -/
import Derived.Lib.IndexLaws
import Derived.Deep.RegionHeld3
import Derived.Deep.Cut
import Derived.Deep.CutRange
import Derived.Test.YtahjmpfjidijaaaGreatDoorGab
import Derived.Test.YtahjmpfjidijaaaGreatDoorGac
import Derived.Test.YtahjmpfjidijaaaGreatDoorGaf
import Derived.Test.YtahjmpfjidijaaaGreatDoorGah
import Derived.Test.YtahjmpfjidijaaaGreatDoorHUtx

section
namespace Go.Proofs.YtahjmpfjidijaaaGreatDoor.Us
set_option linter.unusedVariables false
open Go.Proofs.YtahjmpfjidijaaaGreatDoor.Utf
theorem occ_one (l : List UInt8) (c : UInt8) (k : Nat) : Lib.occAt l [c] k = decide (l[k]? = some c) := by
  unfold Lib.occAt
  by_cases h : k < l.length
  · rw [List.drop_eq_getElem_cons h, List.getElem?_eq_getElem h]
    by_cases e : l[k] = c
    · rw [e]; simp [List.isPrefixOf]
    · rw [decide_eq_false (fun q => e (Option.some.inj q))]
      have : (c == l[k]) = false := by rw [beq_eq_false_iff_ne]; exact fun q => e q.symm
      simp [List.isPrefixOf, this]
  · rw [List.drop_eq_nil_of_le (by omega), List.getElem?_eq_none (by omega)]
    simp [List.isPrefixOf]
theorem index_one {l : List UInt8} {c : UInt8} {j : Nat} (h : l[j]? = some c) (hn : ∀ k, k < j → l[k]? ≠ some c) : Lib.index l [c] = j := by
  refine Lib.index_hit (fun k hk => ?_) ?_ ?_
  · rw [occ_one]; exact decide_eq_false (hn k hk)
  · have := (List.getElem?_eq_some_iff.1 h).1; omega
  · rw [occ_one]; exact decide_eq_true h
theorem index_none {l : List UInt8} {c : UInt8} (hn : ∀ k, k < l.length → l[k]? ≠ some c) : Lib.index l [c] = -1 := by
  refine Lib.index_past (i := l.length) (by simp) (fun k hk => ?_) (by simp)
  rw [occ_one]; exact decide_eq_false (hn k hk)
theorem get_dl? (s : ByteArray) (k : Nat) (h : k < s.size) : (dl s)[k]? = some s[k] := by
  have : k < (dl s).length := by unfold dl; simpa using h
  rw [List.getElem?_eq_getElem this]
  rfl
theorem dl_sub (s : ByteArray) (a k : Nat) (h : a + k < s.size) : (dl (s.extract a s.size))[k]? = some s[a + k] := by
  rw [get_dl? _ _ (by rw [ByteArray.size_extract]; omega)]
  rw [ByteArray.getElem_extract]
/-- A piece ends. -/
theorem cut_next {c : UInt8} {s : ByteArray} {a i : Nat} (ha : a ≤ i) (hi : i < s.size) (hc : s[i] = c) (hn : ∀ k (h : k < s.size), a ≤ k → k < i → s[k] ≠ c) :
    cutB c (s.extract a s.size) = s.extract a i :: cutB c (s.extract (i + 1) s.size) := by
  have hd : Lib.index (dl (s.extract a s.size)) [c] = ((i - a : Nat) : Int) := by
    refine index_one ?_ ?_
    · rw [dl_sub s a (i - a) (by omega)]
      congr 1
      rw [← hc]
      congr 1; omega
    · intro k hk
      rw [dl_sub s a k (by omega)]
      intro e
      exact hn (a + k) (by omega) (by omega) (by omega) (Option.some.inj e)
  have hx : Lib.indexB (s.extract a s.size) ⟨#[c]⟩ = ((i - a : Nat) : Int) := hd
  have hcnt : Lib.countB (s.extract a s.size) ⟨#[c]⟩ = Lib.countB (s.extract (i + 1) s.size) ⟨#[c]⟩ + 1 := by
    show Lib.count (dl (s.extract a s.size)) [c] = Lib.count (dl (s.extract (i + 1) s.size)) [c] + 1
    rw [Lib.count_hit (by simp) hd]
    have e : (dl (s.extract a s.size)).drop (i - a + [c].length) = dl (s.extract (i + 1) s.size) := by
      unfold dl
      simp only [ByteArray.data_extract, Array.toList_extract, List.extract_eq_take_drop, List.length_cons, List.length_nil]
      rw [List.drop_take, List.drop_drop]
      congr 1
      · omega
      · congr 1; omega
    rw [e]; omega
  unfold cutB
  rw [hcnt, Lib.splitB_hit _ _ _ _ _ hx]
  have e1 : (s.extract a s.size).extract 0 (i - a + 0) = s.extract a i := by
    rw [ByteArray.extract_extract]
    congr 1 <;> omega
  have e2 : (s.extract a s.size).extract (i - a + (⟨#[c]⟩ : ByteArray).size) (s.extract a s.size).size = s.extract (i + 1) s.size := by
    rw [ByteArray.extract_extract, ByteArray.size_extract]
    have : (⟨#[c]⟩ : ByteArray).size = 1 := rfl
    rw [this]
    congr 1 <;> omega
  rw [e1, e2]
/-- The last piece. -/
theorem cut_last {c : UInt8} {s : ByteArray} {a : Nat} (hn : ∀ k (h : k < s.size), a ≤ k → s[k] ≠ c) : cutB c (s.extract a s.size) = [s.extract a s.size] := by
  have hd : Lib.indexB (s.extract a s.size) ⟨#[c]⟩ = -1 := by
    show Lib.index (dl (s.extract a s.size)) [c] = -1
    refine index_none ?_
    intro k hk
    have : k < s.size - a := by
      have : (dl (s.extract a s.size)).length = (s.extract a s.size).size := by unfold dl; simp
      rw [this, ByteArray.size_extract] at hk
      omega
    rw [dl_sub s a k (by omega)]
    intro e
    exact hn (a + k) (by omega) (by omega) (Option.some.inj e)
  unfold cutB
  exact Lib.splitB_miss _ _ _ _ hd
theorem extract_all (s : ByteArray) : s.extract 0 s.size = s := ByteArray.extract_zero_size

/-- The lines that say something, each with its number. -/
def spots : List ByteArray → Nat → List (Acc × Nat)
  | [], _ => []
  | l :: ls, i => if says l = true then (match accOf l with | none => spots ls (i + 1) | some a => (a, i + 1) :: spots ls (i + 1)) else spots ls (i + 1)
theorem spots_snoc (x : ByteArray) : ∀ (ls : List ByteArray) (i : Nat), spots (ls ++ [x]) i = spots ls i ++ spots [x] (i + ls.length)
  | [], i => by simp [spots]
  | l :: ls, i => by
    have ih := spots_snoc x ls (i + 1)
    have e : i + 1 + ls.length = i + (l :: ls).length := by simp only [List.length_cons]; omega
    rw [e] at ih
    simp only [List.cons_append, spots]
    split
    · split
      · exact ih
      · rw [ih]; rfl
    · exact ih
theorem pass1_all : ∀ (ls : List ByteArray) (i : Nat) (T T' : List Acc), pass1 ls i T = .inr T' → T' = T ++ (spots ls i).map (·.1)
  | [], i, T, T', h => by simp [pass1] at h; simp [spots, h]
  | l :: ls, i, T, T', h => by
    unfold pass1 at h
    unfold spots
    split at h
    · rename_i hs
      rw [if_pos hs]
      split at h
      · cases h
      · rename_i a ha
        split at h
        · have := pass1_all ls (i + 1) _ _ h
          rw [ha]
          simpa using this
        · cases h
    · rename_i hs
      rw [if_neg hs]
      exact pass1_all ls (i + 1) _ _ h
theorem pass2_spots (T : List Acc) : ∀ (ls : List ByteArray) (i : Nat) (T0 T' : List Acc), pass1 ls i T0 = .inr T' →
    pass2 T ls i = match (spots ls i).find? (fun x => !knows T x.1) with | some x => .inl (62, x.2) | none => .inr ()
  | [], i, T0, T', h => by simp [pass2, spots]
  | l :: ls, i, T0, T', h => by
    unfold pass1 at h
    unfold spots pass2
    split at h
    · rename_i hs
      rw [if_pos hs, if_pos hs]
      split at h
      · cases h
      · rename_i a ha
        split at h
        · have ih := pass2_spots T ls (i + 1) _ _ h
          rw [ha]
          simp only [List.find?_cons]
          cases hk : knows T a with
          | true => simp; exact ih
          | false => simp
        · cases h
    · rename_i hs
      rw [if_neg hs, if_neg hs]
      exact pass2_spots T ls (i + 1) _ _ h
section
variable {ps : List ByteArray} {k : Nat} (hk : k < ps.length)
theorem pass1_skip {T : List Acc} (h : says ps[k] = false) : pass1 (ps.drop k) k T = pass1 (ps.drop (k + 1)) (k + 1) T := by
  rw [List.drop_eq_getElem_cons hk]
  conv => lhs; unfold pass1
  rw [if_neg (by simp [h])]
theorem pass1_bad {T : List Acc} (h : says ps[k] = true) (ha : accOf ps[k] = none) : pass1 (ps.drop k) k T = .inl (60, k + 1) := by
  rw [List.drop_eq_getElem_cons hk]
  unfold pass1
  rw [if_pos h, ha]
theorem pass1_dup {T : List Acc} {a : Acc} (h : says ps[k] = true) (ha : accOf ps[k] = some a) (hb : addOk T a = false) : pass1 (ps.drop k) k T = .inl (61, k + 1) := by
  rw [List.drop_eq_getElem_cons hk]
  unfold pass1
  rw [if_pos h, ha]
  simp [hb]
theorem pass1_add {T : List Acc} {a : Acc} (h : says ps[k] = true) (ha : accOf ps[k] = some a) (hb : addOk T a = true) : pass1 (ps.drop k) k T = pass1 (ps.drop (k + 1)) (k + 1) (T ++ [a]) := by
  rw [List.drop_eq_getElem_cons hk]
  conv => lhs; unfold pass1
  rw [if_pos h, ha]
  simp [hb]
theorem spots_skip (h : says ps[k] = false) : spots (ps.take (k + 1)) 0 = spots (ps.take k) 0 := by
  rw [List.take_succ_eq_append_getElem hk, spots_snoc]
  simp [spots, h]
theorem spots_add {a : Acc} (h : says ps[k] = true) (ha : accOf ps[k] = some a) : spots (ps.take (k + 1)) 0 = spots (ps.take k) 0 ++ [(a, k + 1)] := by
  have hl : (ps.take k).length = k := by rw [List.length_take]; omega
  rw [List.take_succ_eq_append_getElem hk, spots_snoc, hl]
  simp [spots, h, ha]
end
/-- How far the first pass has come. -/
structure P1 (ps : List ByteArray) (k : Nat) (T : List Acc) (at' : List Nat) : Prop where
  le : k ≤ ps.length
  go : pass1 (ps.drop k) k T = pass1 ps 0 []
  len : at'.length = T.length
  sp : T.zip at' = spots (ps.take k) 0
  few : T.length ≤ k
theorem P1.start (ps : List ByteArray) : P1 ps 0 [] [] := ⟨Nat.zero_le _, rfl, rfl, rfl, Nat.le_refl _⟩
theorem P1.skip {ps : List ByteArray} {k : Nat} {T : List Acc} {at' : List Nat} (h : P1 ps k T at') (hk : k < ps.length) (hs : says ps[k] = false) : P1 ps (k + 1) T at' :=
  ⟨hk, by rw [← h.go, pass1_skip hk hs], h.len, by rw [h.sp, spots_skip hk hs], by have := h.few; omega⟩
theorem P1.add {ps : List ByteArray} {k : Nat} {T : List Acc} {at' : List Nat} {a : Acc} (h : P1 ps k T at') (hk : k < ps.length) (hs : says ps[k] = true) (ha : accOf ps[k] = some a) (hb : addOk T a = true) : P1 ps (k + 1) (T ++ [a]) (at' ++ [k + 1]) :=
  ⟨hk, by rw [← h.go, pass1_add hk hs ha hb], by simp [h.len], by rw [List.zip_append h.len.symm, h.sp, spots_add hk hs ha]; rfl, by have := h.few; simp; omega⟩
section
variable {s : ByteArray} {k : Nat} {T : List Acc} {at' : List Nat}
theorem parse_big (h : 65536 < s.size) : parse s = (none, 1, 0) := by unfold parse; rw [if_pos h]
theorem parse_none (h : P1 (cutB 10 s) k T at') (hb : ¬ 65536 < s.size) (hk : k < (cutB 10 s).length) (hs : says (cutB 10 s)[k] = true) (ha : accOf (cutB 10 s)[k] = none) : parse s = (none, 60, k + 1) := by
  have := h.go
  rw [pass1_bad hk hs ha] at this
  unfold parse
  rw [if_neg hb, ← this]
theorem parse_twice {a : Acc} (h : P1 (cutB 10 s) k T at') (hb : ¬ 65536 < s.size) (hk : k < (cutB 10 s).length) (hs : says (cutB 10 s)[k] = true) (ha : accOf (cutB 10 s)[k] = some a) (hc : addOk T a = false) : parse s = (none, 61, k + 1) := by
  have := h.go
  rw [pass1_dup hk hs ha hc] at this
  unfold parse
  rw [if_neg hb, ← this]
theorem P1.done (h : P1 (cutB 10 s) k T at') (hk : ¬ k < (cutB 10 s).length) : pass1 (cutB 10 s) 0 [] = .inr T ∧ T.zip at' = spots (cutB 10 s) 0 := by
  have hl := h.le
  have e : k = (cutB 10 s).length := by omega
  subst e
  have h1 := h.go
  have h2 := h.sp
  rw [List.drop_length] at h1
  rw [List.take_length] at h2
  exact ⟨by rw [← h1]; rfl, h2⟩
theorem parse_who (h : pass1 (cutB 10 s) 0 [] = .inr T ∧ T.zip at' = spots (cutB 10 s) 0) (hl : at'.length = T.length) (hb : ¬ 65536 < s.size) {i : Nat} (hi : i < T.length) (hA : (T.take i).all (knows T) = true) (hn : knows T T[i] = false) :
    parse s = (none, 62, at'[i]'(by omega)) := by
  have hp := pass2_spots T (cutB 10 s) 0 [] T h.1
  have hz : i < (T.zip at').length := by rw [List.length_zip]; omega
  have hf : (spots (cutB 10 s) 0).find? (fun x => !knows T x.1) = some (T[i], at'[i]'(by omega)) := by
    rw [← h.2, List.find?_eq_some_iff_getElem]
    refine ⟨by simp [hn], i, hz, by rw [List.getElem_zip], fun j hj => ?_⟩
    rw [List.getElem_zip]
    rw [List.all_eq_true] at hA
    have := hA T[j] (List.mem_iff_getElem.2 ⟨j, by rw [List.length_take]; omega, by rw [List.getElem_take]⟩)
    simp [this]
  rw [hf] at hp
  unfold parse
  rw [if_neg hb, h.1]
  simp only
  rw [hp]
theorem parse_all (h : pass1 (cutB 10 s) 0 [] = .inr T ∧ T.zip at' = spots (cutB 10 s) 0) (hl : at'.length = T.length) (hb : ¬ 65536 < s.size) (hA : T.all (knows T) = true) :
    parse s = if 65536 < (textL T).length then (none, 1, 0) else (some T, 0, 0) := by
  have hp := pass2_spots T (cutB 10 s) 0 [] T h.1
  have hf : (spots (cutB 10 s) 0).find? (fun x => !knows T x.1) = none := by
    rw [← h.2, List.find?_eq_none]
    intro x hx
    obtain ⟨i, hi, rfl⟩ := List.getElem_of_mem hx
    rw [List.getElem_zip]
    rw [List.all_eq_true] at hA
    have hi2 : i < T.length := by rw [List.length_zip] at hi; omega
    have := hA T[i] (List.getElem_mem hi2)
    simp [this]
  rw [hf] at hp
  unfold parse
  rw [if_neg hb, h.1]
  simp only
  rw [hp]
end
/-- Where somebody is found. -/
def fi (T : List Acc) (n : ByteArray) : Int := match placeOf T 0 n with | some k => (k : Int) | none => -1
theorem placeOf_here : ∀ (T : List Acc) (i k : Nat) (n : ByteArray) (hk : k < T.length), T[k].name = n → (∀ j (h : j < T.length), j < k → T[j].name ≠ n) → placeOf T i n = some (i + k)
  | [], i, k, n, hk, h, hn => by simp at hk
  | b :: T, i, 0, n, hk, h, hn => by
    unfold placeOf
    rw [if_pos (by simpa using h)]
    rfl
  | b :: T, i, k + 1, n, hk, h, hn => by
    unfold placeOf
    rw [if_neg (by have := hn 0 (by simp) (by omega); simpa using this)]
    rw [placeOf_here T (i + 1) k n (by simpa using hk) (by simpa using h) (fun j hj hjk => by have := hn (j + 1) (by simpa using hj) (by omega); simpa using this)]
    congr 1; omega
theorem placeOf_no : ∀ (T : List Acc) (i : Nat) (n : ByteArray), (∀ j (h : j < T.length), T[j].name ≠ n) → placeOf T i n = none
  | [], i, n, hn => rfl
  | b :: T, i, n, hn => by
    unfold placeOf
    rw [if_neg (by have := hn 0 (by simp); simpa using this)]
    exact placeOf_no T (i + 1) n (fun j hj => by have := hn (j + 1) (by simpa using hj); simpa using this)
theorem fi_here {T : List Acc} {k : Nat} {n : ByteArray} (hk : k < T.length) (h : T[k].name = n) (hn : ∀ j (h : j < T.length), j < k → T[j].name ≠ n) : fi T n = k := by
  unfold fi
  rw [placeOf_here T 0 k n hk h hn]
  simp
theorem fi_no {T : List Acc} {n : ByteArray} (hn : ∀ j (h : j < T.length), T[j].name ≠ n) : fi T n = -1 := by
  unfold fi
  rw [placeOf_no T 0 n hn]
theorem fi_known (T : List Acc) (n : ByteArray) : (0 ≤ fi T n ↔ known T n = true) := by
  rw [← placeOf_known n T 0]
  unfold fi
  cases placeOf T 0 n with
  | none => simp
  | some k => simp
theorem fi_range (T : List Acc) (n : ByteArray) : -1 ≤ fi T n ∧ fi T n < T.length := by
  unfold fi
  cases h : placeOf T 0 n with
  | none => simp; omega
  | some k => obtain ⟨h1, -, -⟩ := placeOf_some n T 0 k h; simp; omega
end Go.Proofs.YtahjmpfjidijaaaGreatDoor.Us
end

section
namespace Go.Proofs.YtahjmpfjidijaaaGreatDoor
set_option linter.unusedVariables false
open Go.RowKit Go.Shelf
attribute [local go_sem] Oper.semAt_some
namespace Us
open Go.Proofs.YtahjmpfjidijaaaGreatDoor.Utf Go.Proofs.YtahjmpfjidijaaaGreatDoor.Txt Go.PlainAid Go.Proofs.YtahjmpfjidijaaaGreatDoor.Mpf

/-- Accounts in memory, or none. -/
structure Rows (w : World) (sl : Value) (L : List (Acc × Value)) : Prop where
  row : w.ownsRow 0 79 4 sl L.length (L.flatMap accC)
  mem : ∀ x ∈ L, Mem w x.2 x.1.members
theorem Rows.kept {S : List Nat} {w w' : World} {sl : Value} {L : List (Acc × Value)} (h : Rows w sl L) (k : Kept S w w') (hS : ∀ b ∈ S, ∀ cs, w.heap[b]? ≠ some (.cells cs 79 (0, 0)) ∧ w.heap[b]? ≠ some (.cells cs 9 (0, 0))) : Rows w' sl L :=
  ⟨own_kept h.row k (fun b hb hm => by obtain ⟨cs, hc⟩ := own_type h.row b hb; exact (hS b hm cs).1 hc), fun x hx => own_kept (h.mem x hx) k (fun b hb hm => by obtain ⟨cs, hc⟩ := own_type (h.mem x hx) b hb; exact (hS b hm cs).2 hc)⟩
theorem Rows.kept0 {w w' : World} {sl : Value} {L : List (Acc × Value)} (h : Rows w sl L) (k : Kept [] w w') : Rows w' sl L := h.kept k (fun b hb => by cases hb)
theorem Rows.nil (w : World) : Rows w (.slice none 0 0) [] := ⟨World.ownsRow_nil _ _ _ _, fun x hx => by cases hx⟩
theorem Rows.at' {w : World} {a : Option Addr} {c : Nat} {L : List (Acc × Value)} (h : Rows w (.slice a L.length c) L) {k : Nat} (hk : k < L.length) : ∃ g, a = some ⟨g, 0, none⟩ ∧ w.cell? ⟨g, k * 4, none⟩ = some (.string L[k].1.name) ∧ w.cell? ⟨g, k * 4 + 1, none⟩ = some (.string L[k].1.leader) ∧ w.cell? ⟨g, k * 4 + 2, none⟩ = some L[k].2 ∧ w.cell? ⟨g, k * 4 + 3, none⟩ = some (.string L[k].1.key) := by
  have hrow := h.row
  rcases hrow.2 with ⟨_, h0⟩ | ⟨g, cap, cur, e, -⟩
  · omega
  cases e
  obtain ⟨f0, f1, f2, f3⟩ := flat_at L k hk
  exact ⟨g, rfl, (World.ownsRow.cellAt hrow (k * 4) (by omega)).trans f0, (World.ownsRow.cellAt hrow (k * 4 + 1) (by omega)).trans f1, (World.ownsRow.cellAt hrow (k * 4 + 2) (by omega)).trans f2, (World.ownsRow.cellAt hrow (k * 4 + 3) (by omega)).trans f3⟩
theorem Mem.cap {w : World} {a : Option Addr} {n c : Nat} {ms : List ByteArray} (h : Mem w (.slice a n c) ms) : ms.length ≤ c := by
  rcases h.2 with ⟨e, h0⟩ | ⟨g, cap, cur, e, _, _, hc, _⟩
  · omega
  · cases e; exact hc
theorem accs_get {L : List (Acc × Value)} {k : Nat} (hk : k < L.length) : (accs L)[k]'(by rw [accs_length]; exact hk) = L[k].1 := by unfold accs; rw [List.getElem_map]

set_option maxHeartbeats 4000000 in
set_option maxRecDepth 100000 in
theorem rfind_any (w : World) (sl : Value) (L : List (Acc × Value)) (n : ByteArray) (h : Rows w sl L) (hL : L.length ≤ 1048576) :
    Calls Tryz.prog 44 #[sl, .string n] w fun e w' => e = .returned (.int .i64 (fi (accs L) n)) ∧ w' = w := by
  obtain ⟨a, c, rfl⟩ := own_sl h.row
  obtain ⟨r, hr⟩ : ∃ r, r = fi (accs L) n := ⟨_, rfl⟩
  rw [← hr]
  have HR := Lib.hid hr
  have HH := Lib.hid h
  clear hr h
  go_enter Tryz.func44, Tryz.ntmps44
  go_wp2_with fail
  go_loopw [5] (fun iv wr => ∃ k : Nat, iv = .int .i64 k ∧ k ≤ L.length ∧ wr = w ∧ Hid (∀ j (h : j < (accs L).length), j < k → (accs L)[j].name ≠ n)) (fun iv _ => L.length - (intOf iv).toNat)
  case atStart => exact ⟨0, rfl, by omega, rfl, fun j _ h => by omega⟩
  case round =>
    obtain ⟨k, rfl, hk, rfl, hN⟩ := hrel
    by_cases hlt : k < L.length
    · have j1 : (k : Int) < (L.length : Int) := by omega
      obtain ⟨g, rfl, c0, -⟩ := HH.out.at' hlt
      have HG : Hid ((accs L)[k]'(by rw [accs_length]; exact hlt) = L[k].1) := accs_get hlt
      obtain ⟨x, hx⟩ : ∃ x, x = L[k].1.name := ⟨_, rfl⟩
      rw [← hx] at c0
      have HX := Lib.hid hx
      have BQ := beq_str x n
      obtain ⟨q, hq⟩ : ∃ q, q = decide (x = n) := ⟨_, rfl⟩
      rw [← hq] at BQ
      have HQ := Lib.hid hq
      clear hx hq
      cases q with
      | true =>
        have hv : (k : Int) = r := by
          rw [HR.out, fi_here (k := k) (by rw [accs_length]; exact hlt) ?_ hN.out]
          rw [HG.out, ← HX.out]
          exact of_decide_eq_true HQ.out.symm
        have HV := Lib.hid hv
        clear hv HR
        go_wp2_with fail
        go_ret
        exact ⟨congrArg (fun z => Ending.returned (.int .i64 z)) HV.out, rfl⟩
      | false =>
        have HN2 : Hid (∀ j (h : j < (accs L).length), j < k + 1 → (accs L)[j].name ≠ n) := fun j h hj => by
          by_cases hjk : j = k
          · subst hjk
            rw [HG.out, ← HX.out]
            exact of_decide_eq_false HQ.out.symm
          · exact hN.out j h (by omega)
        go_wp2_with fail
        go_roundw
        case rel => exact ⟨k + 1, by go_num, by omega, trivial, HN2.out⟩
        case measure => simp [intOf]; omega
    · have j1 : ¬ (k : Int) < (L.length : Int) := by omega
      have hv : (-1 : Int) = r := by
        rw [HR.out, fi_no (fun j hj => hN.out j hj (by rw [accs_length] at hj; omega))]
      have HV := Lib.hid hv
      clear hv HR
      go_wp2_with fail
      go_ret
      exact ⟨congrArg (fun z => Ending.returned (.int .i64 z)) HV.out, rfl⟩
set_option maxHeartbeats 4000000 in
set_option maxRecDepth 100000 in
/-- Of the first ones of a list. -/
theorem rhas_any (w : World) (a : Option Addr) (c : Nat) (ms : List ByteArray) (m : Nat) (s : ByteArray) (h : Mem w (.slice a ms.length c) ms) (hm : m ≤ ms.length) (cc : Nat) (hl : ms.length ≤ 1048576) :
    Calls Tryz.prog 93 #[.slice a m cc, .string s] w fun e w' => e = .returned (.bool (memB s (ms.take m))) ∧ w' = w := by
  obtain ⟨r, hr⟩ : ∃ r, r = memB s (ms.take m) := ⟨_, rfl⟩
  rw [← hr]
  have HR := Lib.hid hr
  have HH := Lib.hid h
  clear hr h
  go_enter Tryz.func93, Tryz.ntmps93
  go_wp2_with fail
  go_loopw [5] (fun iv wr => ∃ k : Nat, iv = .int .i64 k ∧ k ≤ m ∧ wr = w ∧ Hid (memB s (ms.take k) = false)) (fun iv _ => m - (intOf iv).toNat)
  case atStart => exact ⟨0, rfl, by omega, rfl, rfl⟩
  case round =>
    obtain ⟨k, rfl, hk, rfl, hN⟩ := hrel
    by_cases hlt : k < m
    · have j1 : (k : Int) < (m : Int) := by omega
      have hlt2 : k < ms.length := by omega
      obtain ⟨g, rfl, c0, -⟩ := HH.out.at' hlt2
      have HT : Hid (memB s (ms.take (k + 1)) = (memB s (ms.take k) || decide (ms[k] = s))) := by show _ = _; rw [List.take_succ_eq_append_getElem hlt2, memB_append, memB_one]
      obtain ⟨x, hx⟩ : ∃ x, x = ms[k] := ⟨_, rfl⟩
      rw [← hx] at c0 HT
      have BQ := beq_str x s
      obtain ⟨q, hq⟩ : ∃ q, q = decide (x = s) := ⟨_, rfl⟩
      rw [← hq] at BQ HT
      clear hx hq
      cases q with
      | true =>
        have hv : r = true := by
          rw [HR.out]
          have h1 := HT.out
          rw [Bool.or_true] at h1
          rw [memB_iff] at h1 ⊢
          exact List.mem_of_mem_take (i := k + 1) (by rw [List.take_take, Nat.min_eq_left (by omega)]; exact h1)
        subst hv
        clear HR
        go_wp2_with fail
        go_ret
        exact ⟨rfl, rfl⟩
      | false =>
        have HN2 : Hid (memB s (ms.take (k + 1)) = false) := by show _ = _; rw [HT.out, hN.out]; rfl
        go_wp2_with fail
        go_roundw
        case rel => exact ⟨k + 1, by go_num, by omega, trivial, HN2.out⟩
        case measure => simp [intOf]; omega
    · have j1 : ¬ (k : Int) < (m : Int) := by omega
      obtain rfl : k = m := by omega
      have hv : r = false := by rw [HR.out]; exact hN.out
      subst hv
      clear HR
      go_wp2_with fail
      go_ret
      exact ⟨rfl, rfl⟩
set_option maxHeartbeats 4000000 in
set_option maxRecDepth 100000 in
theorem rtwice_any (w : World) (v : Value) (ms : List ByteArray) (h : Mem w v ms) (hl : ms.length ≤ 1048576) :
    Calls Tryz.prog 45 #[v] w fun e w' => e = .returned (.bool (!once ms)) ∧ Kept [] w w' := by
  obtain ⟨a, c, rfl⟩ := h.slice
  obtain ⟨r, hr⟩ : ∃ r, r = !once ms := ⟨_, rfl⟩
  rw [← hr]
  have HR := Lib.hid hr
  have HH := Lib.hid h
  have hcap := h.cap
  have HAS := Lib.hid (fun w' m s (k : Kept [] w w') hm cc => rhas_any w' a c ms m s (h.kept0 k) hm cc hl)
  clear hr h
  go_enter Tryz.func45, Tryz.ntmps45
  go_wp2_with fail
  go_loopw [3] (fun iv wr => ∃ k : Nat, iv = .int .i64 k ∧ k ≤ ms.length ∧ Hid (Kept [] w wr) ∧ Hid (∀ j (h : j < ms.length), j < k → memB ms[j] (ms.take j) = false)) (fun iv _ => ms.length - (intOf iv).toNat)
  case atStart => exact ⟨0, rfl, by omega, Kept.refl _ _, fun j _ h => by omega⟩
  case round =>
    obtain ⟨k, rfl, hk, hK, hN⟩ := hrel
    by_cases hlt : k < ms.length
    · have j1 : (k : Int) < (ms.length : Int) := by omega
      have HM := HH.out.kept0 hK.out
      obtain ⟨g, rfl, c0, -⟩ := HM.at' hlt
      have c0d : wr.drew.cell? ⟨g, k, none⟩ = some (.string ms[k]) := c0
      have j2 : (0 : Int) ≤ (k : Int) := by omega
      have j3 : (k : Int) ≤ (c : Int) := by omega
      have HC := Lib.hid (fun cc => HAS.out wr.drew k ms[k] hK.out.drew (by omega) cc)
      have DUP := Lib.hid (fun h => once_here hlt h)
      have HN2 : Hid (memB ms[k] (ms.take k) = false → ∀ j (h : j < ms.length), j < k + 1 → memB ms[j] (ms.take j) = false) := fun h0 j hj hjk => by
        rcases Nat.lt_or_ge j k with q | q
        · exact hN.out j hj q
        · obtain rfl : j = k := by omega
          exact h0
      obtain ⟨x, hx⟩ : ∃ x, x = ms[k] := ⟨_, rfl⟩
      rw [← hx] at c0 c0d HC DUP HN2
      obtain ⟨q, hq⟩ : ∃ q, q = memB x (ms.take k) := ⟨_, rfl⟩
      rw [← hq] at HC DUP HN2
      clear hx hq HM
      go_upto_region 4 with fail
      go_region_held3 (fun w' => w'.cell? ⟨g, k, none⟩ = some (Value.string x)) (first | exact c0d) (first | (go_at_call 93; refine (HC.out _).mono ?_; rintro e w4 ⟨rfl, rfl⟩))
      cases q with
      | true =>
        have hv : r = true := by rw [HR.out, DUP.out rfl]; rfl
        subst hv
        go_wp2_with fail
        go_ret
        exact ⟨rfl, hK.out.drew⟩
      | false =>
        go_wp2_with fail
        go_roundw
        case rel => exact ⟨k + 1, by go_num, by omega, hK.out.drew, HN2.out rfl⟩
        case measure => simp [intOf]; omega
    · have j1 : ¬ (k : Int) < (ms.length : Int) := by omega
      obtain rfl : k = ms.length := by omega
      have hv : r = false := by rw [HR.out, once_all (fun j hj => hN.out j hj hj)]; rfl
      subst hv
      go_wp2_with fail
      go_ret
      exact ⟨rfl, hK.out⟩
end Us
end Go.Proofs.YtahjmpfjidijaaaGreatDoor
end

section
namespace Go.Proofs.YtahjmpfjidijaaaGreatDoor
set_option linter.unusedVariables false
open Go.RowKit Go.Shelf
attribute [local go_sem] Oper.semAt_some
namespace Us
open Go.Proofs.YtahjmpfjidijaaaGreatDoor.Utf Go.Proofs.YtahjmpfjidijaaaGreatDoor.Txt Go.PlainAid Go.Proofs.YtahjmpfjidijaaaGreatDoor.Mpf

theorem info_str2 : (Tryz.prog.info? 9).map (fun i => (i.zero, i.size, i.bytes)) = some (some (.string ⟨#[]⟩), 1, 16) := by kernel_rfl
theorem own_zero {w : World} {base : Nat} {e : TypeId} {size : Nat} {v : Value} {n : Nat} {xs : List Value} (h : w.ownsRow base e size v n xs) : w.ownsRow 0 e size v n xs := by
  refine ⟨h.1, ?_⟩
  rcases h.2 with h2 | ⟨g, cap, cur, rfl, a1, a2, a3, a4, a5, a6⟩
  · exact Or.inl h2
  · exact Or.inr ⟨g, cap, cur, rfl, Nat.zero_le _, a2, a3, a4, a5, a6⟩
/-- What the pieces come to. -/
structure Cu (w wr : World) (s : ByteArray) (c : UInt8) (v : Value) (xs : List ByteArray) (a k : Nat) : Prop where
  row : wr.ownsRow w.heap.size 9 1 v xs.length (xs.map sv)
  kept : Kept [] w wr
  eq : xs ++ cutB c (s.extract a s.size) = cutB c s
  no : ∀ j (h : j < s.size), a ≤ j → j < k → s[j] ≠ c
theorem Cu.skip {w wr : World} {s : ByteArray} {c : UInt8} {v : Value} {xs : List ByteArray} {a k : Nat} (h : Cu w wr s c v xs a k) (hk : k < s.size) (hc : s[k] ≠ c) : Cu w wr s c v xs a (k + 1) :=
  ⟨h.row, h.kept, h.eq, fun j hj h1 h2 => by
    by_cases e : j = k
    · subst e; exact hc
    · exact h.no j hj h1 (by omega)⟩
theorem Cu.push {w wr w2 : World} {s : ByteArray} {c : UInt8} {v v2 : Value} {xs : List ByteArray} {a k : Nat} (h : Cu w wr s c v xs a k) (ha : a ≤ k) (hk : k < s.size) (hc : s[k] = c) (o : Obj)
    (hown : w2.ownsRow w.heap.size 9 1 v2 (xs.length + 1) (xs.map sv ++ [.string (s.extract a k)])) (hg : (wr.alloc o).grownBy w2 v.ownBlock) : Cu w w2 s c v2 (xs ++ [s.extract a k]) (k + 1) (k + 1) :=
  ⟨by simpa [sv] using hown, (h.kept.alloc o).grown hg (fun b hb => Or.inr (h.row.lt b hb).1), by rw [← h.eq, cut_next ha hk hc h.no, List.append_assoc]; rfl, fun j hj h1 h2 => by omega⟩
theorem Cu.last {w wr w2 : World} {s : ByteArray} {c : UInt8} {v v2 : Value} {xs : List ByteArray} {a k : Nat} (h : Cu w wr s c v xs a k) (hk : ¬ k < s.size) (o : Obj)
    (hown : w2.ownsRow w.heap.size 9 1 v2 (xs.length + 1) (xs.map sv ++ [.string (s.extract a s.size)])) (hg : (wr.alloc o).grownBy w2 v.ownBlock) :
    Mem w2 v2 (cutB c s) ∧ Kept [] w w2 ∧ ∀ b, v2.ownBlock = some b → w.heap.size ≤ b := by
  have e : xs ++ [s.extract a s.size] = cutB c s := by rw [← h.eq, cut_last (fun j hj h1 => h.no j hj h1 (by omega))]
  refine ⟨?_, (h.kept.alloc o).grown hg (fun b hb => Or.inr (h.row.lt b hb).1), fun b hb => (hown.lt b hb).1⟩
  rw [← e]
  have := own_zero hown
  unfold Mem
  simpa [sv] using this
set_option maxHeartbeats 8000000 in
set_option maxRecDepth 100000 in
theorem rcuts_any (w : World) (s : ByteArray) (c : UInt8) (ci : Int) (hci : ci = (c.toNat : Int)) (hs : s.size ≤ 1048576) :
    Calls Tryz.prog 58 #[.string s, .int .u8 ci] w fun e w' => ∃ v, e = .returned v ∧ Mem w' v (cutB c s) ∧ Kept [] w w' ∧ ∀ b, v.ownBlock = some b → w.heap.size ≤ b := by
  obtain ⟨i0, hi0, hz00, hz01, hz02⟩ := info_parts info_str2
  have HCI := Lib.hid hci
  have C0 : Hid (Cu w w s c (.slice none 0 0) [] 0 0) := ⟨World.ownsRow_nil _ _ _ _, Kept.refl _ _, by rw [extract_all]; rfl, fun j hj h1 h2 => by omega⟩
  clear hci
  go_enter Tryz.func58, Tryz.ntmps58
  go_wp2_with fail
  go_loopw [5, 6, 7] (fun ov av iv wr => ∃ (k a : Nat) (va : Option Addr) (vc : Nat) (xs : List ByteArray), ov = .slice va xs.length vc ∧ av = .int .i64 a ∧ iv = .int .i64 k ∧ k ≤ s.size ∧ a ≤ k ∧ xs.length ≤ k ∧ Hid (Cu w wr s c (.slice va xs.length vc) xs a k)) (fun _ _ iv _ => s.size - (intOf iv).toNat)
  case atStart => exact ⟨0, 0, none, 0, [], rfl, rfl, rfl, by omega, by omega, by simp, C0⟩
  case round =>
    obtain ⟨k, a, va, vc, xs, rfl, rfl, rfl, hk, ha, hx, hC⟩ := hrel
    obtain ⟨n, hn⟩ : ∃ n, n = xs.length := ⟨_, rfl⟩
    have HN := Lib.hid hn
    have hnk : n ≤ k := by omega
    rw [← hn] at hC ⊢
    clear hn hx
    by_cases hlt : k < s.size
    · have j1 : (k : Int) < (s.size : Int) := by omega
      by_cases hc : s[k] = c
      · have e1 : ((s[k].toNat : Int) == ci) = true := by rw [HCI.out, hc]; exact beq_self_eq_true _
        have HC := Lib.hid hc
        clear hc
        go_wp2_with (at_builtin; refine wpList_append_src (wr.alloc (.cells #[.string (s.extract a k)] 9)) rfl (.tmp 19) (.tmp 24) 34 rfl w.heap.size 9 i0 (.string ⟨#[]⟩) 1 16 Tryz.underlying34 hi0 hz00 hz01 hz02 rfl (by decide) (.slice va n vc) n (xs.map sv) rfl (by have := hC.out.row; rw [← HN.out] at this; exact this.alloc _) (.slice (some ⟨wr.heap.size, 0, none⟩) 1 1) 1 [.string (s.extract a k)] rfl (Or.inr ⟨_, _, rfl, World.news_of_block (cs := #[.string (s.extract a k)]) (by exact (MapKept.heap_alloc wr _).1)⟩) rfl (by intro u hu; simp at hu; subst hu; rfl) (by unfold maxLen; omega) (by omega) (by have := hC.out.kept.size; simp; omega) ?_; intro v2 w2 hown hgrow hat; have NX := Lib.hid (hC.out.push ha hlt HC.out _ (by rw [← HN.out]; exact hown) hgrow); obtain ⟨a2, c2, rfl⟩ := own_sl hown; clear hown hgrow hat)
        go_roundw
        case rel =>
          have e : (xs ++ [s.extract a k]).length = n + 1 := by rw [List.length_append, ← HN.out]; rfl
          exact ⟨k + 1, k + 1, a2, c2, xs ++ [s.extract a k], by rw [e], by go_num, by go_num, by omega, by omega, by rw [e]; omega, by rw [e]; exact NX.out⟩
        case measure => simp [intOf]; omega
      · have e1 : ((s[k].toNat : Int) == ci) = false := by
          rw [HCI.out, beq_eq_false_iff_ne]
          intro e
          exact hc (UInt8.toNat_inj.1 (by omega))
        have NX := Lib.hid (hC.out.skip hlt hc)
        clear hc
        go_wp2_with fail
        go_roundw
        case rel => exact ⟨k + 1, a, va, vc, xs, by rw [HN.out], rfl, by go_num, by omega, by omega, by rw [← HN.out]; omega, by rw [← HN.out]; exact NX.out⟩
        case measure => simp [intOf]; omega
    · have j1 : ¬ (k : Int) < (s.size : Int) := by omega
      go_wp2_with (at_builtin; refine wpList_append_src (wr.alloc (.cells #[.string (s.extract a s.size)] 9)) rfl (.tmp 28) (.tmp 32) 34 rfl w.heap.size 9 i0 (.string ⟨#[]⟩) 1 16 Tryz.underlying34 hi0 hz00 hz01 hz02 rfl (by decide) (.slice va n vc) n (xs.map sv) rfl (by have := hC.out.row; rw [← HN.out] at this; exact this.alloc _) (.slice (some ⟨wr.heap.size, 0, none⟩) 1 1) 1 [.string (s.extract a s.size)] rfl (Or.inr ⟨_, _, rfl, World.news_of_block (cs := #[.string (s.extract a s.size)]) (by exact (MapKept.heap_alloc wr _).1)⟩) rfl (by intro u hu; simp at hu; subst hu; rfl) (by unfold maxLen; omega) (by omega) (by have := hC.out.kept.size; simp; omega) ?_; intro v2 w2 hown hgrow hat; have NX := Lib.hid (hC.out.last hlt _ (by rw [← HN.out]; exact hown) hgrow); clear hown hgrow hat)
      go_ret
      exact ⟨_, rfl, NX.out⟩
end Us
end Go.Proofs.YtahjmpfjidijaaaGreatDoor
end

section
namespace Go.Proofs.YtahjmpfjidijaaaGreatDoor
set_option linter.unusedVariables false
open Go.RowKit Go.Shelf
attribute [local go_sem] Oper.semAt_some
namespace Us
open Go.Proofs.YtahjmpfjidijaaaGreatDoor.Utf Go.Proofs.YtahjmpfjidijaaaGreatDoor.Txt Go.PlainAid Go.Proofs.YtahjmpfjidijaaaGreatDoor.Mpf

theorem all_take_next {p : UInt8 → Bool} {s : ByteArray} {k : Nat} (hk : k < s.size) (h : ((dl s).take k).all p = true) (h2 : p s[k] = true) : ((dl s).take (k + 1)).all p = true := by
  have hl : k < (dl s).length := by rw [dl_length]; exact hk
  have e : p (dl s)[k] = true := h2
  rw [List.take_succ_eq_append_getElem hl, List.all_append, h, List.all_cons, e]
  rfl
theorem all_take_no {p : UInt8 → Bool} {s : ByteArray} {k : Nat} (hk : k < s.size) (h2 : p s[k] = false) : (dl s).all p = false :=
  all_no (k := k) (by rw [dl_length]; exact hk) h2
theorem all_take_all {p : UInt8 → Bool} {s : ByteArray} {k : Nat} (hk : ¬ k < s.size) (h : ((dl s).take k).all p = true) : (dl s).all p = true := by
  rwa [List.take_of_length_le (by rw [dl_length]; omega)] at h
theorem name_no {c : UInt8} (h : nameByte c = false) : (c.toNat : Int) < 33 ∨ (c.toNat : Int) = 127 ∨ (c.toNat : Int) = 58 ∨ (c.toNat : Int) = 44 ∨ (c.toNat : Int) = 35 ∨ (c.toNat : Int) = 47 := by
  have : ∀ m : Fin 256, nameByte (UInt8.ofNat m.val) = false → m.val < 33 ∨ m.val = 127 ∨ m.val = 58 ∨ m.val = 44 ∨ m.val = 35 ∨ m.val = 47 := by decide +kernel
  have := this ⟨c.toNat, c.toNat_lt⟩ (by rw [UInt8.ofNat_toNat]; exact h)
  simp only at this
  omega
theorem name_yes {c : UInt8} (h : nameByte c = true) : ¬ (c.toNat : Int) < 33 ∧ ((c.toNat : Int) == 127) = false ∧ ((c.toNat : Int) == 58) = false ∧ ((c.toNat : Int) == 44) = false ∧ ((c.toNat : Int) == 35) = false ∧ ((c.toNat : Int) == 47) = false := by
  have : ∀ m : Fin 256, nameByte (UInt8.ofNat m.val) = true → ¬ m.val < 33 ∧ m.val ≠ 127 ∧ m.val ≠ 58 ∧ m.val ≠ 44 ∧ m.val ≠ 35 ∧ m.val ≠ 47 := by decide +kernel
  have := this ⟨c.toNat, c.toNat_lt⟩ (by rw [UInt8.ofNat_toNat]; exact h)
  simp only at this
  simp only [beq_eq_false_iff_ne]
  refine ⟨by omega, by omega, by omega, by omega, by omega, by omega⟩
theorem key_no {c : UInt8} (h : keyByte c = false) : (c.toNat : Int) < 33 ∨ (¬ (c.toNat : Int) < 33 ∧ (126 : Int) < (c.toNat : Int)) ∨ (c.toNat : Int) = 58 := by
  have : ∀ m : Fin 256, keyByte (UInt8.ofNat m.val) = false → m.val < 33 ∨ (¬ m.val < 33 ∧ 126 < m.val) ∨ m.val = 58 := by decide +kernel
  have := this ⟨c.toNat, c.toNat_lt⟩ (by rw [UInt8.ofNat_toNat]; exact h)
  simp only at this
  omega
theorem key_yes {c : UInt8} (h : keyByte c = true) : ¬ (c.toNat : Int) < 33 ∧ ¬ (126 : Int) < (c.toNat : Int) ∧ ((c.toNat : Int) == 58) = false := by
  have : ∀ m : Fin 256, keyByte (UInt8.ofNat m.val) = true → ¬ m.val < 33 ∧ ¬ 126 < m.val ∧ m.val ≠ 58 := by decide +kernel
  have := this ⟨c.toNat, c.toNat_lt⟩ (by rw [UInt8.ofNat_toNat]; exact h)
  simp only at this
  simp only [beq_eq_false_iff_ne]
  refine ⟨by omega, by omega, by omega⟩

set_option maxHeartbeats 8000000 in
set_option maxRecDepth 100000 in
theorem rname_any (w : World) (s : ByteArray) (hs : s.size ≤ 140737488355328) :
    Calls Tryz.prog 91 #[.string s] w fun e w' => e = .returned (.bool (isName s)) ∧ w' = w := by
  obtain ⟨z, hz⟩ : ∃ z, z = isName s := ⟨_, rfl⟩
  have HZ := Lib.hid hz
  rw [← hz]
  have GOOD := Lib.hid (rgood_any s w hs)
  clear hz
  by_cases h1 : s.size < 1
  · have hv : z = false := by rw [HZ.out]; unfold isName; rw [decide_eq_false (by omega : ¬ 1 ≤ s.size)]; rfl
    subst hv
    have j1 : (s.size : Int) < 1 := by omega
    clear HZ h1
    go_enter Tryz.func91, Tryz.ntmps91
    go_wp2_with fail
    go_ret
    exact ⟨rfl, rfl⟩
  have j1 : ¬ (s.size : Int) < 1 := by omega
  by_cases h2 : 32 < s.size
  · have hv : z = false := by rw [HZ.out]; unfold isName; rw [decide_eq_false (by omega : ¬ s.size ≤ 32)]; simp
    subst hv
    have j2 : (32 : Int) < (s.size : Int) := by omega
    clear HZ h1 h2
    go_enter Tryz.func91, Tryz.ntmps91
    go_wp2_with fail
    go_ret
    exact ⟨rfl, rfl⟩
  have j2 : ¬ (32 : Int) < (s.size : Int) := by omega
  obtain ⟨g, hg⟩ : ∃ g, g = good s := ⟨_, rfl⟩
  rw [← hg] at GOOD
  have HZ2 : Hid (z = (g && (dl s).all nameByte)) := by
    show _ = _
    rw [HZ.out]; unfold isName; rw [decide_eq_true (by omega : 1 ≤ s.size), decide_eq_true (by omega : s.size ≤ 32), ← hg]; simp
  clear HZ hg h1 h2
  cases g with
  | false =>
    have hv : z = false := HZ2.out
    subst hv
    go_enter Tryz.func91, Tryz.ntmps91
    go_wp2_with (go_at_call 136; refine GOOD.out.mono ?_; rintro e w1 ⟨rfl, rfl⟩)
    go_ret
    exact ⟨rfl, rfl⟩
  | true =>
    go_enter Tryz.func91, Tryz.ntmps91
    go_wp2_with (go_at_call 136; refine GOOD.out.mono ?_; rintro e w1 ⟨rfl, rfl⟩)
    go_loopw [3] (fun iv wr => ∃ k : Nat, iv = .int .i64 k ∧ k ≤ s.size ∧ wr = w ∧ Hid (((dl s).take k).all nameByte = true)) (fun iv _ => s.size - (intOf iv).toNat)
    case atStart => exact ⟨0, rfl, by omega, rfl, rfl⟩
    case round =>
      obtain ⟨k, rfl, hk, rfl, hA⟩ := hrel
      by_cases hlt : k < s.size
      · have j3 : (k : Int) < (s.size : Int) := by omega
        have NX := Lib.hid (fun h => all_take_next (p := nameByte) hlt hA.out h)
        have NO := Lib.hid (fun h => all_take_no (p := nameByte) hlt h)
        cases hb : nameByte s[k] with
        | false =>
          have hv : z = false := by rw [HZ2.out, NO.out hb]; rfl
          subst hv
          have hc := name_no hb
          clear HZ2 NX NO hb
          rcases hc with hc | hc | hc | hc | hc | hc
          all_goals
            go_wp2_with fail
            go_ret
            exact ⟨rfl, rfl⟩
        | true =>
          obtain ⟨q0, q1, q2, q3, q4, q5⟩ := name_yes hb
          have NX2 := Lib.hid (NX.out hb)
          clear NX NO hb
          go_wp2_with fail
          go_roundw
          case rel => exact ⟨k + 1, by go_num, by omega, trivial, NX2.out⟩
          case measure => simp [intOf]; omega
      · have j3 : ¬ (k : Int) < (s.size : Int) := by omega
        have hv : z = true := by rw [HZ2.out, all_take_all hlt hA.out]; rfl
        subst hv
        go_wp2_with fail
        go_ret
        exact ⟨rfl, rfl⟩
set_option maxHeartbeats 8000000 in
set_option maxRecDepth 100000 in
theorem rkey_any (w : World) (s : ByteArray) (hs : s.size ≤ 140737488355328) :
    Calls Tryz.prog 92 #[.string s] w fun e w' => e = .returned (.bool (isKey s)) ∧ w' = w := by
  obtain ⟨z, hz⟩ : ∃ z, z = isKey s := ⟨_, rfl⟩
  have HZ := Lib.hid hz
  rw [← hz]
  clear hz
  by_cases h2 : 32 < s.size
  · have hv : z = false := by rw [HZ.out]; unfold isKey; rw [decide_eq_false (by omega : ¬ s.size ≤ 32)]; simp
    subst hv
    have j2 : (32 : Int) < (s.size : Int) := by omega
    clear HZ h2
    go_enter Tryz.func92, Tryz.ntmps92
    go_wp2_with fail
    go_ret
    exact ⟨rfl, rfl⟩
  have j2 : ¬ (32 : Int) < (s.size : Int) := by omega
  have HZ2 : Hid (z = (dl s).all keyByte) := by
    show _ = _
    rw [HZ.out]; unfold isKey; rw [decide_eq_true (by omega : s.size ≤ 32)]; simp
  clear HZ h2
  go_enter Tryz.func92, Tryz.ntmps92
  go_wp2_with fail
  go_loopw [3] (fun iv wr => ∃ k : Nat, iv = .int .i64 k ∧ k ≤ s.size ∧ wr = w ∧ Hid (((dl s).take k).all keyByte = true)) (fun iv _ => s.size - (intOf iv).toNat)
  case atStart => exact ⟨0, rfl, by omega, rfl, rfl⟩
  case round =>
    obtain ⟨k, rfl, hk, rfl, hA⟩ := hrel
    by_cases hlt : k < s.size
    · have j3 : (k : Int) < (s.size : Int) := by omega
      have NX := Lib.hid (fun h => all_take_next (p := keyByte) hlt hA.out h)
      have NO := Lib.hid (fun h => all_take_no (p := keyByte) hlt h)
      cases hb : keyByte s[k] with
      | false =>
        have hv : z = false := by rw [HZ2.out, NO.out hb]
        subst hv
        have hc := key_no hb
        clear HZ2 NX NO hb
        rcases hc with hc | ⟨hc, hd⟩ | hc
        all_goals
          go_wp2_with fail
          go_ret
          exact ⟨rfl, rfl⟩
      | true =>
        obtain ⟨q0, q1, q2⟩ := key_yes hb
        have NX2 := Lib.hid (NX.out hb)
        clear NX NO hb
        go_wp2_with fail
        go_roundw
        case rel => exact ⟨k + 1, by go_num, by omega, trivial, NX2.out⟩
        case measure => simp [intOf]; omega
    · have j3 : ¬ (k : Int) < (s.size : Int) := by omega
      have hv : z = true := by rw [HZ2.out, all_take_all hlt hA.out]
      subst hv
      go_wp2_with fail
      go_ret
      exact ⟨rfl, rfl⟩
end Us
end Go.Proofs.YtahjmpfjidijaaaGreatDoor
end

section
namespace Go.Proofs.YtahjmpfjidijaaaGreatDoor
set_option linter.unusedVariables false
open Go.RowKit Go.Shelf
attribute [local go_sem] Oper.semAt_some
namespace Us
open Go.Proofs.YtahjmpfjidijaaaGreatDoor.Utf Go.Proofs.YtahjmpfjidijaaaGreatDoor.Txt Go.PlainAid Go.Proofs.YtahjmpfjidijaaaGreatDoor.Mpf

set_option maxHeartbeats 8000000 in
set_option maxRecDepth 100000 in
theorem rright_any (w : World) (a : Acc) (v : Value) (hm : Mem w v a.members) (hn : a.name.size ≤ 1048576) (hl : a.leader.size ≤ 1048576) (hk : a.key.size ≤ 1048576) (hz : ∀ m ∈ a.members, m.size ≤ 1048576) (hlen : a.members.length ≤ 1048576) :
    Calls Tryz.prog 43 #[accV a.name a.leader a.key v] w fun e w' => e = .returned (.bool (form a)) ∧ Kept [] w w' := by
  obtain ⟨name, leader, ms, key⟩ := a
  simp only at hm hn hl hk hz hlen ⊢
  obtain ⟨va, vc, rfl⟩ := hm.slice
  unfold accV
  obtain ⟨z, hz0⟩ : ∃ z, z = form ⟨name, leader, ms, key⟩ := ⟨_, rfl⟩
  have FZ : Hid (z = (isName name && leadOk leader && ms.all isName && isKey key)) := hz0
  rw [← hz0]
  obtain ⟨w1, hw1⟩ : ∃ w1, w1 = w.alloc (.cells #[.string name, .string leader, .slice va ms.length vc, .string key] 79) := ⟨_, rfl⟩
  obtain ⟨R1, hR1⟩ : ∃ R, R = w.heap.size := ⟨_, rfl⟩
  have B1 : Hid (w1.heap[R1]? = some (.cells #[.string name, .string leader, .slice va ms.length vc, .string key] 79 (0, 0))) := by rw [hw1, hR1]; exact (MapKept.heap_alloc w _).1
  have K1 : Hid (Kept [] w w1) := by rw [hw1]; exact (Kept.refl _ _).alloc _
  have HW1 := Lib.hid hw1
  have HR1 := Lib.hid hR1
  have HM := Lib.hid (hm.kept0 K1.out)
  have HZ : Hid (∀ x ∈ ms, x.size ≤ 140737488355328) := fun x hx => by have := hz x hx; omega
  have NN := Lib.hid (rname_any w1 name (by omega))
  have NL := Lib.hid (rname_any w1 leader (by omega))
  have NK := Lib.hid (rkey_any w1 key (by omega))
  have NM := Lib.hid (fun x hx => rname_any w1 x hx)
  obtain ⟨q1, hq1⟩ : ∃ q, q = isName name := ⟨_, rfl⟩
  obtain ⟨q3, hq3⟩ : ∃ q, q = isKey key := ⟨_, rfl⟩
  rw [← hq1] at NN FZ
  rw [← hq3] at NK FZ
  obtain ⟨c0, c1, c2, c3, -⟩ := four B1.out
  clear hw1 hR1 hz0 hm hz hq1 hq3
  cases q1 with
  | false =>
    have hv : z = false := by rw [FZ.out]; rfl
    subst hv
    go_enter Tryz.func43, Tryz.ntmps43
    rw [HW1.out, HR1.out] at c0 c1 c2 c3
    go_wp2_with (go_at_call 91; rw [← HW1.out]; refine NN.out.mono ?_; rintro e w2 ⟨rfl, rfl⟩; rw [← HR1.out]; rw [← HW1.out, ← HR1.out] at c0 c1 c2 c3)
    go_ret
    exact ⟨rfl, K1.out⟩
  | true =>
  cases q3 with
  | false =>
    have hv : z = false := by rw [FZ.out]; simp
    subst hv
    clear FZ
    by_cases h0 : leader.size = 0
    · have h1 := lead_eq h0
      clear h0
      go_enter Tryz.func43, Tryz.ntmps43
      rw [HW1.out, HR1.out] at c0 c1 c2 c3
      go_wp2_with (first | (go_at_call 91; rw [← HW1.out]; refine NN.out.mono ?_; rintro e w2 ⟨rfl, rfl⟩; rw [← HR1.out]; rw [← HW1.out, ← HR1.out] at c0 c1 c2 c3) | (go_at_call 92; refine NK.out.mono ?_; rintro e w2 ⟨rfl, rfl⟩))
      go_ret
      exact ⟨rfl, K1.out⟩
    · have h1 := lead_ne h0
      have b1 : leader.toList.isEmpty = false := by rw [List.isEmpty_eq_false_iff]; exact h1
      have b0 : (leader.toList == []) = false := by rw [beq_eq_false_iff_ne]; exact h1
      obtain ⟨q2, hq2⟩ : ∃ q, q = isName leader := ⟨_, rfl⟩
      rw [← hq2] at NL
      clear h0 h1 hq2
      cases q2
      all_goals
        go_enter Tryz.func43, Tryz.ntmps43
        rw [HW1.out, HR1.out] at c0 c1 c2 c3
        go_wp2_with (first | (go_at_call 91; rw [← HW1.out]; ((with_reducible refine NN.out.mono ?_)); rintro e w2 ⟨rfl, rfl⟩; rw [← HR1.out]; rw [← HW1.out, ← HR1.out] at c0 c1 c2 c3) | (go_at_call 91; ((with_reducible refine NL.out.mono ?_)); rintro e w2 ⟨rfl, rfl⟩) | (go_at_call 92; refine NK.out.mono ?_; rintro e w2 ⟨rfl, rfl⟩))
        go_ret
        exact ⟨rfl, K1.out⟩
  | true =>
  have FZ2 : Hid (z = (leadOk leader && ms.all isName)) := by show _ = _; rw [FZ.out]; simp
  clear FZ
  have LOOP : Hid (leadOk leader = true → ∀ (k : Nat), k ≤ ms.length → ((ms.take k).all isName = true) → (k < ms.length → isName ms[k]! = false → z = false) ∧ (¬ k < ms.length → z = true)) := fun hl k hk hA => by
    rw [FZ2.out, hl]
    refine ⟨fun h1 h2 => ?_, fun h1 => ?_⟩
    · rw [getElem!_pos ms k h1] at h2
      rw [not_all (p := isName) h1 h2]; rfl
    · rw [List.take_of_length_le (by omega)] at hA
      rw [hA]; rfl
  by_cases h0 : leader.size = 0
  · have h1 := lead_eq h0
    have hld : leadOk leader = true := by unfold leadOk; rw [decide_eq_true h0]; rfl
    have LP := Lib.hid (LOOP.out hld)
    clear h0 hld FZ2 LOOP
    go_enter Tryz.func43, Tryz.ntmps43
    rw [HW1.out, HR1.out] at c0 c1 c2 c3
    go_wp2_with (first | (go_at_call 91; rw [← HW1.out]; refine NN.out.mono ?_; rintro e w2 ⟨rfl, rfl⟩; rw [← HR1.out]; rw [← HW1.out, ← HR1.out] at c0 c1 c2 c3) | (go_at_call 92; refine NK.out.mono ?_; rintro e w2 ⟨rfl, rfl⟩))
    go_loopw [3] (fun iv wr => ∃ k : Nat, iv = .int .i64 k ∧ k ≤ ms.length ∧ Hid ((ms.take k).all isName = true) ∧ wr = w2) (fun iv _ => ms.length - (intOf iv).toNat)
    case atStart => exact ⟨0, rfl, by omega, rfl, rfl⟩
    case round =>
      obtain ⟨k, rfl, hkl, hA, rfl⟩ := hrel
      by_cases hlt : k < ms.length
      · have j1 : (k : Int) < (ms.length : Int) := by omega
        obtain ⟨g, hg, cg, hgl⟩ := HM.out.at' hlt
        subst hg
        have hs1 := HZ.out ms[k] (List.getElem_mem hlt)
        have TK := Lib.hid (fun h => take_all (p := isName) hlt hA.out h)
        have NO : Hid (isName ms[k] = false → z = false) := fun h => (LP.out k hkl hA.out).1 hlt (by rw [getElem!_pos ms k hlt]; exact h)
        obtain ⟨x, hx⟩ : ∃ x, x = ms[k] := ⟨_, rfl⟩
        rw [← hx] at cg hs1 TK NO
        have KX := Lib.hid (NM.out x hs1)
        obtain ⟨q, hq⟩ : ∃ q, q = isName x := ⟨_, rfl⟩
        rw [← hq] at KX TK NO
        clear hx hq
        cases q with
        | false =>
          have hv := NO.out rfl
          subst hv
          clear TK NO
          go_wp2_with (go_at_call 91; refine KX.out.mono ?_; rintro e w3 ⟨rfl, rfl⟩)
          go_ret
          exact ⟨rfl, K1.out⟩
        | true =>
          have TK2 := Lib.hid (TK.out rfl)
          clear TK NO
          go_wp2_with (go_at_call 91; refine KX.out.mono ?_; rintro e w3 ⟨rfl, rfl⟩)
          go_roundw
          case rel => exact ⟨k + 1, by go_num, by omega, TK2.out, trivial⟩
          case measure => simp [intOf]; omega
      · have j1 : ¬ (k : Int) < (ms.length : Int) := by omega
        have hv := (LP.out k hkl hA.out).2 hlt
        subst hv
        go_wp2_with fail
        go_ret
        exact ⟨rfl, K1.out⟩
  · have h1 := lead_ne h0
    have b1 : leader.toList.isEmpty = false := by rw [List.isEmpty_eq_false_iff]; exact h1
    have b0 : (leader.toList == []) = false := by rw [beq_eq_false_iff_ne]; exact h1
    obtain ⟨q2, hq2⟩ : ∃ q, q = isName leader := ⟨_, rfl⟩
    have hld : leadOk leader = q2 := by unfold leadOk; rw [decide_eq_false h0, hq2]; rfl
    rw [← hq2] at NL
    clear h0 h1 hq2
    cases q2 with
    | false =>
      have hv : z = false := by rw [FZ2.out, hld]; rfl
      subst hv
      clear FZ2 LOOP hld
      go_enter Tryz.func43, Tryz.ntmps43
      rw [HW1.out, HR1.out] at c0 c1 c2 c3
      go_wp2_with (first | (go_at_call 91; rw [← HW1.out]; ((with_reducible refine NN.out.mono ?_)); rintro e w2 ⟨rfl, rfl⟩; rw [← HR1.out]; rw [← HW1.out, ← HR1.out] at c0 c1 c2 c3) | (go_at_call 91; ((with_reducible refine NL.out.mono ?_)); rintro e w2 ⟨rfl, rfl⟩) | (go_at_call 92; refine NK.out.mono ?_; rintro e w2 ⟨rfl, rfl⟩))
      go_ret
      exact ⟨rfl, K1.out⟩
    | true =>
    have LP := Lib.hid (LOOP.out hld)
    clear FZ2 LOOP hld
    go_enter Tryz.func43, Tryz.ntmps43
    rw [HW1.out, HR1.out] at c0 c1 c2 c3
    go_wp2_with (first | (go_at_call 91; rw [← HW1.out]; ((with_reducible refine NN.out.mono ?_)); rintro e w2 ⟨rfl, rfl⟩; rw [← HR1.out]; rw [← HW1.out, ← HR1.out] at c0 c1 c2 c3) | (go_at_call 91; ((with_reducible refine NL.out.mono ?_)); rintro e w2 ⟨rfl, rfl⟩) | (go_at_call 92; refine NK.out.mono ?_; rintro e w2 ⟨rfl, rfl⟩))
    go_loopw [3] (fun iv wr => ∃ k : Nat, iv = .int .i64 k ∧ k ≤ ms.length ∧ Hid ((ms.take k).all isName = true) ∧ wr = w2) (fun iv _ => ms.length - (intOf iv).toNat)
    case atStart => exact ⟨0, rfl, by omega, rfl, rfl⟩
    case round =>
      obtain ⟨k, rfl, hkl, hA, rfl⟩ := hrel
      by_cases hlt : k < ms.length
      · have j1 : (k : Int) < (ms.length : Int) := by omega
        obtain ⟨g, hg, cg, hgl⟩ := HM.out.at' hlt
        subst hg
        have hs1 := HZ.out ms[k] (List.getElem_mem hlt)
        have TK := Lib.hid (fun h => take_all (p := isName) hlt hA.out h)
        have NO : Hid (isName ms[k] = false → z = false) := fun h => (LP.out k hkl hA.out).1 hlt (by rw [getElem!_pos ms k hlt]; exact h)
        obtain ⟨x, hx⟩ : ∃ x, x = ms[k] := ⟨_, rfl⟩
        rw [← hx] at cg hs1 TK NO
        have KX := Lib.hid (NM.out x hs1)
        obtain ⟨q, hq⟩ : ∃ q, q = isName x := ⟨_, rfl⟩
        rw [← hq] at KX TK NO
        clear hx hq
        cases q with
        | false =>
          have hv := NO.out rfl
          subst hv
          clear TK NO
          go_wp2_with (go_at_call 91; refine KX.out.mono ?_; rintro e w3 ⟨rfl, rfl⟩)
          go_ret
          exact ⟨rfl, K1.out⟩
        | true =>
          have TK2 := Lib.hid (TK.out rfl)
          clear TK NO
          go_wp2_with (go_at_call 91; refine KX.out.mono ?_; rintro e w3 ⟨rfl, rfl⟩)
          go_roundw
          case rel => exact ⟨k + 1, by go_num, by omega, TK2.out, trivial⟩
          case measure => simp [intOf]; omega
      · have j1 : ¬ (k : Int) < (ms.length : Int) := by omega
        have hv := (LP.out k hkl hA.out).2 hlt
        subst hv
        go_wp2_with fail
        go_ret
        exact ⟨rfl, K1.out⟩
end Us
end Go.Proofs.YtahjmpfjidijaaaGreatDoor
end

section
namespace Go.Proofs.YtahjmpfjidijaaaGreatDoor
set_option linter.unusedVariables false
open Go.RowKit Go.Shelf
attribute [local go_sem] Oper.semAt_some
namespace Us
open Go.Proofs.YtahjmpfjidijaaaGreatDoor.Utf Go.Proofs.YtahjmpfjidijaaaGreatDoor.Txt Go.PlainAid Go.Proofs.YtahjmpfjidijaaaGreatDoor.Mpf

def zeroAV : Value := .agg #[.string ⟨#[]⟩, .string ⟨#[]⟩, .slice none 0 0, .string ⟨#[]⟩]
/-- What comes of a line. -/
def OutR (w : World) (line : ByteArray) (e : Ending) (w' : World) : Prop :=
  (∃ a v, accOf line = some a ∧ e = .returned (.tuple #[accV a.name a.leader a.key v, .bool true]) ∧ Hid (Mem w' v a.members) ∧ Hid (∀ b, v.ownBlock = some b → w.heap.size ≤ b) ∧ Hid (Kept [] w w')) ∨ (accOf line = none ∧ e = .returned (.tuple #[zeroAV, .bool false]) ∧ Hid (Kept [] w w'))
set_option maxHeartbeats 8000000 in
set_option maxRecDepth 100000 in
theorem raccount_any (w : World) (line : ByteArray) (hs : line.size ≤ 65536) :
    Calls Tryz.prog 59 #[.string line] w (OutR w line) := by
  have SP := Lib.hid (fun w' => rcuts_any w' line 58 58 rfl (by omega))
  have SZ := Lib.hid (cutB_sizes 58 line)
  have LE := cutB_le 58 line
  obtain ⟨ps, hps⟩ : ∃ ps, ps = cutB 58 line := ⟨_, rfl⟩
  have HPS := Lib.hid hps
  rw [← hps] at SP SZ LE
  obtain ⟨w1, hw1⟩ : ∃ w1, w1 = w.alloc (.cells #[.string ⟨#[]⟩, .string ⟨#[]⟩, .slice none 0 0, .string ⟨#[]⟩] 79) := ⟨_, rfl⟩
  obtain ⟨R2, hR2⟩ : ∃ R, R = w.heap.size := ⟨_, rfl⟩
  have K1 : Hid (Kept [] w w1) := by rw [hw1]; exact (Kept.refl _ _).alloc _
  have B2 : Hid (w1.heap[R2]? = some (.cells #[.string ⟨#[]⟩, .string ⟨#[]⟩, .slice none 0 0, .string ⟨#[]⟩] 79 (0, 0))) := by rw [hw1, hR2]; exact (MapKept.heap_alloc w _).1
  have ZR : Hid (w.heap.size ≤ R2) := by show _ ≤ _; omega
  have HW1 := Lib.hid hw1
  have HR2 := Lib.hid hR2
  clear hw1 hR2
  by_cases h4 : ps.length = 4
  · obtain ⟨n, l, m, k, rfl⟩ : ∃ n l m k, ps = [n, l, m, k] := by
      match ps, h4 with
      | [n, l, m, k], _ => exact ⟨n, l, m, k, rfl⟩
    have sn := SZ.out n (by simp)
    have sl := SZ.out l (by simp)
    have sm := SZ.out m (by simp)
    have sk := SZ.out k (by simp)
    have HA : Hid (accOf line = accIf ⟨n, l, membersOf m, k⟩) := by show _ = _; unfold accOf; rw [← hps]
    have MS : Hid ((∀ x ∈ membersOf m, x.size ≤ 65536) ∧ (membersOf m).length ≤ 65537) := by
      unfold membersOf
      split
      · exact ⟨fun x hx => by simp at hx, by simp⟩
      · exact ⟨fun x hx => by have := cutB_sizes 44 m x hx; omega, by have := cutB_le 44 m; omega⟩
    have MO := Lib.hid (fun w' => rcuts_any w' m 44 44 rfl (by omega))
    have HMM : Hid (membersOf m = if m.size = 0 then [] else cutB 44 m) := rfl
    obtain ⟨ms, hms⟩ : ∃ ms, ms = membersOf m := ⟨_, rfl⟩
    rw [← hms] at HA MS HMM
    have FM : Hid (∀ w v, Mem w v ms → Calls Tryz.prog 43 #[accV n l k v] w fun e w' => e = .returned (.bool (form ⟨n, l, ms, k⟩)) ∧ Kept [] w w') := fun w v h => rright_any w ⟨n, l, ms, k⟩ v h (by show n.size ≤ _; omega) (by show l.size ≤ _; omega) (by show k.size ≤ _; omega) (fun x hx => by have := MS.out.1 x hx; omega) (by show ms.length ≤ _; have := MS.out.2; omega)
    obtain ⟨z, hz⟩ : ∃ z, z = form ⟨n, l, ms, k⟩ := ⟨_, rfl⟩
    have HA2 : Hid (accOf line = if z = true then some ⟨n, l, ms, k⟩ else none) := by rw [hz]; exact HA.out
    rw [← hz] at FM
    unfold accV at FM
    clear HPS hps h4 LE SZ hms hz HA MS
    go_enter Tryz.func59, Tryz.ntmps59
    go_upto_region 4 with (go_at_call 58; rw [← HW1.out]; refine (SP.out w1).mono ?_; rintro e w2 ⟨v2, rfl, hm2, k2, f2⟩; obtain ⟨a2, c2, rfl⟩ := hm2.slice; simp only [List.length_cons, List.length_nil, Nat.reduceAdd] at hm2 f2 ⊢; rw [← HR2.out])
    obtain ⟨G, rfl, -, GL⟩ := hm2.at' (k := 0) (by simp)
    have K2 : Hid (Kept [] w w2) := K1.out.trans k2 (fun i hi => by simp at hi)
    have B22 := Lib.hid ((k2.block _ (block_lt B2.out) (by simp)).trans B2.out)
    have CELLS : Hid (∀ wr, Kept [] w2 wr → wr.cell? ⟨G, 0, none⟩ = some (.string n) ∧ wr.cell? ⟨G, 1, none⟩ = some (.string l) ∧ wr.cell? ⟨G, 2, none⟩ = some (.string m) ∧ wr.cell? ⟨G, 3, none⟩ = some (.string k)) := fun wr kk => by
      have hr := hm2.kept0 kk
      refine ⟨?_, ?_, ?_, ?_⟩
      · exact World.ownsRow.cellAt hr 0 (by decide)
      · exact World.ownsRow.cellAt hr 1 (by decide)
      · exact World.ownsRow.cellAt hr 2 (by decide)
      · exact World.ownsRow.cellAt hr 3 (by decide)
    clear hm2 k2 SP f2 HW1 HR2 B2 K1
    obtain ⟨c0, c1, c2', c3⟩ := CELLS.out w2 (Kept.refl _ _)
    have kd : Kept [] w2 w2.drew := (Kept.refl [] w2).drew
    have ka : Kept [] w2 (w2.alloc (.cells #[.string ⟨#[]⟩, .string ⟨#[]⟩, .slice none 0 0, .string ⟨#[]⟩] 79)).drew := ((Kept.refl [] w2).alloc _).drew
    go_cut [5] from 12 to 21 (fun s5 wx => ∃ (A : Nat), s5 = .pointer (some ⟨A, 0, none⟩) ∧ Hid (wx.heap[A]? = some (.cells #[.string n, .string l, .slice none 0 0, .string k] 79 (0, 0))) ∧ Hid (w2.heap.size ≤ A) ∧ Hid (Kept [] w2 wx))
    case first =>
      go_region_held3 (fun w' => w'.cell? ⟨G, 0, none⟩ = some (Value.string n) ∧ w'.cell? ⟨G, 1, none⟩ = some (Value.string l) ∧ w'.cell? ⟨G, 3, none⟩ = some (Value.string k)) (first | (obtain ⟨x0, x1, -, x3⟩ := CELLS.out _ kd; exact ⟨x0, x1, x3⟩) | (obtain ⟨x0, x1, -, x3⟩ := CELLS.out _ ka; exact ⟨x0, x1, x3⟩) | (obtain ⟨x0, x1, -, x3⟩ := CELLS.out _ (kd.alloc _); exact ⟨x0, x1, x3⟩) | (obtain ⟨x0, x1, -, x3⟩ := CELLS.out _ (set4 (kd.alloc _) (Nat.le_refl _) _ _ _ _); exact ⟨x0, x1, x3⟩) | (obtain ⟨x0, x1, -, x3⟩ := CELLS.out _ (set4 ka (Nat.le_refl _) _ _ _ _); exact ⟨x0, x1, x3⟩)) (fail)
      go_wp2_with fail
      go_meet
      exact ⟨w2.heap.size, rfl, (MapKept.heap_alloc w2 _).1, Nat.le_refl _, ((Kept.refl [] w2).alloc _).drew⟩
    case rest =>
      obtain ⟨A, rfl, hA, hF, hK⟩ := hcut
      have cm := (CELLS.out wc hK.out).2.2.1
      have bRc := (hK.out.block _ (block_lt B22.out) (by simp)).trans B22.out
      have Kc : Hid (Kept [] w wc) := K2.out.trans hK.out (fun i hi => by simp at hi)
      obtain ⟨y0, y1, y2, y3, yf⟩ := four hA.out
      clear c0 c1 c2' c3 kd ka CELLS
      by_cases h0 : m.size = 0
      · have h1 := lead_eq h0
        have hms : ms = [] := by rw [HMM.out, if_pos h0]
        subst hms
        clear h0 HMM MO
        have bW : Hid (wc.heap[A]? = some (.cells #[.string n, .string l, .slice none 0 0, .string k] 79 (0, 0))) := hA
        have bRW : Hid (wc.heap[R2]? = some (.cells #[.string ⟨#[]⟩, .string ⟨#[]⟩, .slice none 0 0, .string ⟨#[]⟩] 79 (0, 0))) := bRc
        have KW := Kc
        have hMW : Hid (Mem wc (.slice none 0 0) []) := World.ownsRow_nil _ _ _ _
        have hFR : Hid (∀ b, (Value.slice none 0 0).ownBlock = some b → w.heap.size ≤ b) := fun b hb => by cases hb
        have ALLW : Hid (∀ wr, Kept [] wc wr → (wr.cell? ⟨A, 0, none⟩ = some (.string n) ∧ wr.cell? ⟨A, 1, none⟩ = some (.string l) ∧ wr.cell? ⟨A, 2, none⟩ = some (.slice none 0 0) ∧ wr.cell? ⟨A, 3, none⟩ = some (.string k)) ∧ wr.heap[R2]? = some (.cells #[.string ⟨#[]⟩, .string ⟨#[]⟩, .slice none 0 0, .string ⟨#[]⟩] 79 (0, 0)) ∧ Kept [] w wr ∧ Mem wr (.slice none 0 0) []) := fun wr kk => by
          have b := (kk.block _ (block_lt bW) (by simp)).trans bW
          have br := (kk.block _ (block_lt bRW) (by simp)).trans bRW
          obtain ⟨q0, q1, q2, q3, -⟩ := four b
          exact ⟨⟨q0, q1, q2, q3⟩, br, KW.out.trans kk (fun i hi => by simp at hi), hMW.out.kept0 kk⟩
        obtain ⟨⟨q0, q1, q2, q3⟩, -, -, hMc⟩ := ALLW.out wc (Kept.refl _ _)
        have FMc := Lib.hid (FM.out wc _ hMc)
        clear FM bW bRW KW hMW hMc
        cases z with
        | false =>
          have FN : Hid (Calls Tryz.prog 43 #[.agg #[.string n, .string l, .slice none 0 0, .string k]] wc fun e w' => e = .returned (.bool false) ∧ Kept [] wc w') := FMc.out
          go_wp2_with (go_at_call 43; refine FN.out.mono ?_; rintro e w5 ⟨rfl, k5⟩; obtain ⟨⟨r0, r1, r2, r3⟩, bR, kW, hM5⟩ := ALLW.out w5 k5; obtain ⟨p0, p1, p2, p3, pf⟩ := four bR)
          obtain ⟨wf, hwf⟩ : ∃ wf, wf = ((((w5.setCell ⟨R2, 0, none⟩ (.string ⟨#[]⟩)).setCell ⟨R2, 1, none⟩ (.string ⟨#[]⟩)).setCell ⟨R2, 2, none⟩ (.slice none 0 0)).setCell ⟨R2, 3, none⟩ (.string ⟨#[]⟩)) := ⟨_, rfl⟩
          have bF : wf.heap[R2]? = some (.cells #[.string ⟨#[]⟩, .string ⟨#[]⟩, .slice none 0 0, .string ⟨#[]⟩] 79 (0, 0)) := by
            rw [hwf, heap_set (i := 3) (Value.string ⟨#[]⟩) (heap_set (i := 2) (Value.slice none 0 0) (heap_set (i := 1) (Value.string ⟨#[]⟩) (heap_set (i := 0) (Value.string ⟨#[]⟩) bR)))]
            simp
          have kF : Kept [R2] w5 wf := by
            rw [hwf]
            exact ((((Kept.refl [R2] w5).setCell (p := ⟨R2, 0, none⟩) (Or.inl (by simp)) _).setCell (p := ⟨R2, 1, none⟩) (Or.inl (by simp)) _).setCell (p := ⟨R2, 2, none⟩) (Or.inl (by simp)) _).setCell (p := ⟨R2, 3, none⟩) (Or.inl (by simp)) _
          have kWF : Kept [] w wf := kW.trans kF (fun i hi => by simp at hi; subst hi; exact Or.inr ZR.out)
          obtain ⟨g0, g1, g2, g3, -⟩ := four bF
          rw [← hwf]
          clear hwf bR p0 p1 p2 p3 pf r0 r1 r2 r3
          refine bodyPost_ret (v := .tuple #[.agg #[.string ⟨#[]⟩, .string ⟨#[]⟩, .slice none 0 0, .string ⟨#[]⟩], .bool false]) (by simp [results, Tryz.results59, go_sem, g0, g1, g2, g3]) rfl ?_
          exact Or.inr ⟨HA2.out, rfl, kWF⟩
        | true =>
          have FN : Hid (Calls Tryz.prog 43 #[.agg #[.string n, .string l, .slice none 0 0, .string k]] wc fun e w' => e = .returned (.bool true) ∧ Kept [] wc w') := FMc.out
          go_wp2_with (go_at_call 43; refine FN.out.mono ?_; rintro e w5 ⟨rfl, k5⟩; obtain ⟨⟨r0, r1, r2, r3⟩, bR, kW, hM5⟩ := ALLW.out w5 k5; obtain ⟨p0, p1, p2, p3, pf⟩ := four bR)
          obtain ⟨wf, hwf⟩ : ∃ wf, wf = ((((w5.setCell ⟨R2, 0, none⟩ (.string n)).setCell ⟨R2, 1, none⟩ (.string l)).setCell ⟨R2, 2, none⟩ (.slice none 0 0)).setCell ⟨R2, 3, none⟩ (.string k)) := ⟨_, rfl⟩
          have bF : wf.heap[R2]? = some (.cells #[.string n, .string l, .slice none 0 0, .string k] 79 (0, 0)) := by
            rw [hwf, heap_set (i := 3) (Value.string k) (heap_set (i := 2) (Value.slice none 0 0) (heap_set (i := 1) (Value.string l) (heap_set (i := 0) (Value.string n) bR)))]
            simp
          have kF : Kept [R2] w5 wf := by
            rw [hwf]
            exact ((((Kept.refl [R2] w5).setCell (p := ⟨R2, 0, none⟩) (Or.inl (by simp)) _).setCell (p := ⟨R2, 1, none⟩) (Or.inl (by simp)) _).setCell (p := ⟨R2, 2, none⟩) (Or.inl (by simp)) _).setCell (p := ⟨R2, 3, none⟩) (Or.inl (by simp)) _
          have nR : ∀ b, (Value.slice none 0 0).ownBlock = some b → b ∉ [R2] := fun b hb hm => by
            simp at hm
            subst hm
            obtain ⟨cs, hc⟩ := own_type hM5 _ hb
            rw [bR] at hc
            cases hc
          have kWF : Kept [] w wf := kW.trans kF (fun i hi => by simp at hi; subst hi; exact Or.inr ZR.out)
          obtain ⟨g0, g1, g2, g3, -⟩ := four bF
          rw [← hwf]
          clear hwf bR p0 p1 p2 p3 pf r0 r1 r2 r3
          refine bodyPost_ret (v := .tuple #[.agg #[.string n, .string l, .slice none 0 0, .string k], .bool true]) (by simp [results, Tryz.results59, go_sem, g0, g1, g2, g3]) rfl ?_
          exact Or.inl ⟨⟨n, l, [], k⟩, .slice none 0 0, HA2.out, rfl, hM5.kept kF nR, hFR, kWF⟩
      · have h1 := lead_ne h0
        have b1 : m.toList.isEmpty = false := by rw [List.isEmpty_eq_false_iff]; exact h1
        have b0 : (m.toList == []) = false := by rw [beq_eq_false_iff_ne]; exact h1
        have hms : ms = cutB 44 m := by rw [HMM.out, if_neg h0]
        rw [← hms] at MO
        clear h0 h1 HMM hms
        go_upto_region 6 with fail
        go_upto_region 7 with (go_at_call 58; refine (MO.out wc).mono ?_; rintro e w3 ⟨v3, rfl, hm3, k3, f3⟩; obtain ⟨a3, c3, rfl⟩ := hm3.slice; have bA3 := (k3.block _ (block_lt hA.out) (by simp)).trans hA.out; obtain ⟨t0, t1, t2, t3, tf⟩ := four bA3)
        obtain ⟨w4, hw4⟩ : ∃ w4, w4 = w3.setCell ⟨A, 2, none⟩ (.slice a3 ms.length c3) := ⟨_, rfl⟩
        have bW : Hid (w4.heap[A]? = some (.cells #[.string n, .string l, .slice a3 ms.length c3, .string k] 79 (0, 0))) := by show _ = _; rw [hw4]; have := heap_set (i := 2) (Value.slice a3 ms.length c3) bA3; simpa using this
        have k34 : Kept [A] w3 w4 := by rw [hw4]; exact (Kept.refl [A] w3).setCell (p := ⟨A, 2, none⟩) (Or.inl (by simp)) _
        have nA : R2 ≠ A := fun e => by have h1 := hF.out; have h2 := block_lt B22.out; omega
        have bR3 := (k3.block _ (block_lt bRc) (by simp)).trans bRc
        have bRW : Hid (w4.heap[R2]? = some (.cells #[.string ⟨#[]⟩, .string ⟨#[]⟩, .slice none 0 0, .string ⟨#[]⟩] 79 (0, 0))) := (k34.block _ (block_lt bR3) (by simpa using nA)).trans bR3
        have KW : Hid (Kept [] w w4) := (Kc.out.trans k3 (fun i hi => by simp at hi)).trans k34 (fun i hi => Or.inr (by have h1 := hF.out; have h2 := K2.out.size; simp at hi; omega))
        have hMW : Hid (Mem w4 (.slice a3 ms.length c3) ms) := hm3.kept k34 (fun b hb hm => by
          simp at hm; subst hm
          obtain ⟨cs, hc⟩ := own_type hm3 _ hb
          rw [bA3] at hc
          cases hc)
        have hFR : Hid (∀ b, (Value.slice a3 ms.length c3).ownBlock = some b → w.heap.size ≤ b) := fun b hb => by have h1 := f3 b hb; have h2 := Kc.out.size; omega
        rw [← hw4]
        clear hw4 k34 hm3 k3 f3 bA3 t0 t1 t2 t3 tf bR3 bRc hA y0 y1 y2 y3 yf
        have ALLW : Hid (∀ wr, Kept [] w4 wr → (wr.cell? ⟨A, 0, none⟩ = some (.string n) ∧ wr.cell? ⟨A, 1, none⟩ = some (.string l) ∧ wr.cell? ⟨A, 2, none⟩ = some (.slice a3 ms.length c3) ∧ wr.cell? ⟨A, 3, none⟩ = some (.string k)) ∧ wr.heap[R2]? = some (.cells #[.string ⟨#[]⟩, .string ⟨#[]⟩, .slice none 0 0, .string ⟨#[]⟩] 79 (0, 0)) ∧ Kept [] w wr ∧ Mem wr (.slice a3 ms.length c3) ms) := fun wr kk => by
          have b := (kk.block _ (block_lt bW) (by simp)).trans bW
          have br := (kk.block _ (block_lt bRW) (by simp)).trans bRW
          obtain ⟨q0, q1, q2, q3, -⟩ := four b
          exact ⟨⟨q0, q1, q2, q3⟩, br, KW.out.trans kk (fun i hi => by simp at hi), hMW.out.kept0 kk⟩
        obtain ⟨⟨q0, q1, q2, q3⟩, -, -, hMc⟩ := ALLW.out w4 (Kept.refl _ _)
        have FMc := Lib.hid (FM.out w4 _ hMc)
        clear FM bW bRW KW hMW hMc
        cases z with
        | false =>
          have FN : Hid (Calls Tryz.prog 43 #[.agg #[.string n, .string l, .slice a3 ms.length c3, .string k]] w4 fun e w' => e = .returned (.bool false) ∧ Kept [] w4 w') := FMc.out
          go_wp2_with (go_at_call 43; refine FN.out.mono ?_; rintro e w5 ⟨rfl, k5⟩; obtain ⟨⟨r0, r1, r2, r3⟩, bR, kW, hM5⟩ := ALLW.out w5 k5; obtain ⟨p0, p1, p2, p3, pf⟩ := four bR)
          obtain ⟨wf, hwf⟩ : ∃ wf, wf = ((((w5.setCell ⟨R2, 0, none⟩ (.string ⟨#[]⟩)).setCell ⟨R2, 1, none⟩ (.string ⟨#[]⟩)).setCell ⟨R2, 2, none⟩ (.slice none 0 0)).setCell ⟨R2, 3, none⟩ (.string ⟨#[]⟩)) := ⟨_, rfl⟩
          have bF : wf.heap[R2]? = some (.cells #[.string ⟨#[]⟩, .string ⟨#[]⟩, .slice none 0 0, .string ⟨#[]⟩] 79 (0, 0)) := by
            rw [hwf, heap_set (i := 3) (Value.string ⟨#[]⟩) (heap_set (i := 2) (Value.slice none 0 0) (heap_set (i := 1) (Value.string ⟨#[]⟩) (heap_set (i := 0) (Value.string ⟨#[]⟩) bR)))]
            simp
          have kF : Kept [R2] w5 wf := by
            rw [hwf]
            exact ((((Kept.refl [R2] w5).setCell (p := ⟨R2, 0, none⟩) (Or.inl (by simp)) _).setCell (p := ⟨R2, 1, none⟩) (Or.inl (by simp)) _).setCell (p := ⟨R2, 2, none⟩) (Or.inl (by simp)) _).setCell (p := ⟨R2, 3, none⟩) (Or.inl (by simp)) _
          have kWF : Kept [] w wf := kW.trans kF (fun i hi => by simp at hi; subst hi; exact Or.inr ZR.out)
          obtain ⟨g0, g1, g2, g3, -⟩ := four bF
          rw [← hwf]
          clear hwf bR p0 p1 p2 p3 pf r0 r1 r2 r3
          refine bodyPost_ret (v := .tuple #[.agg #[.string ⟨#[]⟩, .string ⟨#[]⟩, .slice none 0 0, .string ⟨#[]⟩], .bool false]) (by simp [results, Tryz.results59, go_sem, g0, g1, g2, g3]) rfl ?_
          exact Or.inr ⟨HA2.out, rfl, kWF⟩
        | true =>
          have FN : Hid (Calls Tryz.prog 43 #[.agg #[.string n, .string l, .slice a3 ms.length c3, .string k]] w4 fun e w' => e = .returned (.bool true) ∧ Kept [] w4 w') := FMc.out
          go_wp2_with (go_at_call 43; refine FN.out.mono ?_; rintro e w5 ⟨rfl, k5⟩; obtain ⟨⟨r0, r1, r2, r3⟩, bR, kW, hM5⟩ := ALLW.out w5 k5; obtain ⟨p0, p1, p2, p3, pf⟩ := four bR)
          obtain ⟨wf, hwf⟩ : ∃ wf, wf = ((((w5.setCell ⟨R2, 0, none⟩ (.string n)).setCell ⟨R2, 1, none⟩ (.string l)).setCell ⟨R2, 2, none⟩ (.slice a3 ms.length c3)).setCell ⟨R2, 3, none⟩ (.string k)) := ⟨_, rfl⟩
          have bF : wf.heap[R2]? = some (.cells #[.string n, .string l, .slice a3 ms.length c3, .string k] 79 (0, 0)) := by
            rw [hwf, heap_set (i := 3) (Value.string k) (heap_set (i := 2) (Value.slice a3 ms.length c3) (heap_set (i := 1) (Value.string l) (heap_set (i := 0) (Value.string n) bR)))]
            simp
          have kF : Kept [R2] w5 wf := by
            rw [hwf]
            exact ((((Kept.refl [R2] w5).setCell (p := ⟨R2, 0, none⟩) (Or.inl (by simp)) _).setCell (p := ⟨R2, 1, none⟩) (Or.inl (by simp)) _).setCell (p := ⟨R2, 2, none⟩) (Or.inl (by simp)) _).setCell (p := ⟨R2, 3, none⟩) (Or.inl (by simp)) _
          have nR : ∀ b, (Value.slice a3 ms.length c3).ownBlock = some b → b ∉ [R2] := fun b hb hm => by
            simp at hm
            subst hm
            obtain ⟨cs, hc⟩ := own_type hM5 _ hb
            rw [bR] at hc
            cases hc
          have kWF : Kept [] w wf := kW.trans kF (fun i hi => by simp at hi; subst hi; exact Or.inr ZR.out)
          obtain ⟨g0, g1, g2, g3, -⟩ := four bF
          rw [← hwf]
          clear hwf bR p0 p1 p2 p3 pf r0 r1 r2 r3
          refine bodyPost_ret (v := .tuple #[.agg #[.string n, .string l, .slice a3 ms.length c3, .string k], .bool true]) (by simp [results, Tryz.results59, go_sem, g0, g1, g2, g3]) rfl ?_
          exact Or.inl ⟨⟨n, l, ms, k⟩, .slice a3 ms.length c3, HA2.out, rfl, hM5.kept kF nR, hFR, kWF⟩
  · have HN : Hid (accOf line = none) := accOf_not (by rw [← HPS.out]; exact h4)
    obtain ⟨L, hL⟩ : ∃ L, L = ps.length := ⟨_, rfl⟩
    have h4b : ((L : Int) == 4) = false := by rw [beq_eq_false_iff_ne]; omega
    have SP1 : Hid (∀ w', Calls Tryz.prog 58 #[.string line, .int .u8 58] w' fun e w'_1 => (∃ a c, e = .returned (.slice a L c)) ∧ Kept [] w' w'_1) := fun w' => by
      refine (SP.out w').mono ?_
      rintro e w2 ⟨v, rfl, hm, k2, -⟩
      obtain ⟨a, c, rfl⟩ := hm.slice
      rw [hL]
      exact ⟨⟨a, c, rfl⟩, k2⟩
    clear SP HPS hps h4 LE SZ hL
    go_enter Tryz.func59, Tryz.ntmps59
    go_wp2_with (go_at_call 58; rw [← HW1.out]; refine (SP1.out w1).mono ?_; rintro e w2 ⟨⟨a2, c2, rfl⟩, k2⟩; rw [← HR2.out]; have bR := (k2.block _ (block_lt B2.out) (by simp)).trans B2.out; obtain ⟨p0, p1, p2, p3, pf⟩ := four bR)
    obtain ⟨wf, hwf⟩ : ∃ wf, wf = ((((w2.setCell ⟨R2, 0, none⟩ (.string ⟨#[]⟩)).setCell ⟨R2, 1, none⟩ (.string ⟨#[]⟩)).setCell ⟨R2, 2, none⟩ (.slice none 0 0)).setCell ⟨R2, 3, none⟩ (.string ⟨#[]⟩)) := ⟨_, rfl⟩
    have bF : wf.heap[R2]? = some (.cells #[.string ⟨#[]⟩, .string ⟨#[]⟩, .slice none 0 0, .string ⟨#[]⟩] 79 (0, 0)) := by
      rw [hwf, heap_set (i := 3) (Value.string ⟨#[]⟩) (heap_set (i := 2) (Value.slice none 0 0) (heap_set (i := 1) (Value.string ⟨#[]⟩) (heap_set (i := 0) (Value.string ⟨#[]⟩) bR)))]
      simp
    have kF : Kept [R2] w2 wf := by
      rw [hwf]
      exact ((((Kept.refl [R2] w2).setCell (p := ⟨R2, 0, none⟩) (Or.inl (by simp)) _).setCell (p := ⟨R2, 1, none⟩) (Or.inl (by simp)) _).setCell (p := ⟨R2, 2, none⟩) (Or.inl (by simp)) _).setCell (p := ⟨R2, 3, none⟩) (Or.inl (by simp)) _
    have kWF : Kept [] w wf := (K1.out.trans k2 (fun i hi => by simp at hi)).trans kF (fun i hi => by simp at hi; subst hi; exact Or.inr ZR.out)
    obtain ⟨g0, g1, g2, g3, -⟩ := four bF
    rw [← hwf]
    clear hwf bR p0 p1 p2 p3 pf
    refine bodyPost_ret (v := .tuple #[.agg #[.string ⟨#[]⟩, .string ⟨#[]⟩, .slice none 0 0, .string ⟨#[]⟩], .bool false]) (by simp [results, Tryz.results59, go_sem, g0, g1, g2, g3]) rfl ?_
    exact Or.inr ⟨HN.out, rfl, kWF⟩
end Us
end Go.Proofs.YtahjmpfjidijaaaGreatDoor
end

section
namespace Go.Proofs.YtahjmpfjidijaaaGreatDoor
set_option linter.unusedVariables false
open Go.RowKit Go.Shelf
attribute [local go_sem] Oper.semAt_some
namespace Us
open Go.Proofs.YtahjmpfjidijaaaGreatDoor.Utf Go.Proofs.YtahjmpfjidijaaaGreatDoor.Txt Go.PlainAid Go.Proofs.YtahjmpfjidijaaaGreatDoor.Mpf

theorem fi_no_lt {T : List Acc} {n : ByteArray} (h : known T n = false) : fi T n < 0 := by
  have := fi_known T n
  rw [h] at this
  have h2 : ¬ 0 ≤ fi T n := fun q => by have := this.1 q; cases this
  omega
theorem fi_yes_ge {T : List Acc} {n : ByteArray} (h : known T n = true) : ¬ fi T n < 0 := by
  have := (fi_known T n).2 h
  omega
set_option maxHeartbeats 8000000 in
set_option maxRecDepth 100000 in
theorem rknows_any (w : World) (sl : Value) (L : List (Acc × Value)) (h : Rows w sl L) (hL : L.length ≤ 1048576) (a : Acc) (v : Value) (hm : Mem w v a.members) (hlen : a.members.length ≤ 1048576) :
    Calls Tryz.prog 46 #[sl, accV a.name a.leader a.key v] w fun e w' => e = .returned (.bool (knows (accs L) a)) ∧ Kept [] w w' := by
  obtain ⟨name, leader, ms, key⟩ := a
  simp only at hm hlen ⊢
  obtain ⟨va, vc, rfl⟩ := hm.slice
  obtain ⟨sa, sc, rfl⟩ := own_sl h.row
  unfold accV
  obtain ⟨z, hz0⟩ : ∃ z, z = knows (accs L) ⟨name, leader, ms, key⟩ := ⟨_, rfl⟩
  have FZ : Hid (z = ((decide (leader.size = 0) || known (accs L) leader) && ms.all (known (accs L)))) := hz0
  rw [← hz0]
  obtain ⟨w1, hw1⟩ : ∃ w1, w1 = w.alloc (.cells #[.string name, .string leader, .slice va ms.length vc, .string key] 79) := ⟨_, rfl⟩
  obtain ⟨R1, hR1⟩ : ∃ R, R = w.heap.size := ⟨_, rfl⟩
  have B1 : Hid (w1.heap[R1]? = some (.cells #[.string name, .string leader, .slice va ms.length vc, .string key] 79 (0, 0))) := by rw [hw1, hR1]; exact (MapKept.heap_alloc w _).1
  have K1 : Hid (Kept [] w w1) := by rw [hw1]; exact (Kept.refl _ _).alloc _
  have HW1 := Lib.hid hw1
  have HR1 := Lib.hid hR1
  have HM := Lib.hid (hm.kept0 K1.out)
  have FI := Lib.hid (fun n => rfind_any w1 (.slice sa L.length sc) L n (h.kept0 K1.out) hL)
  have LOOP : Hid ((decide (leader.size = 0) || known (accs L) leader) = true → ∀ (k : Nat), k ≤ ms.length → ((ms.take k).all (known (accs L)) = true) → (k < ms.length → known (accs L) ms[k]! = false → z = false) ∧ (¬ k < ms.length → z = true)) := fun hl k hk hA => by
    rw [FZ.out, hl]
    refine ⟨fun h1 h2 => ?_, fun h1 => ?_⟩
    · rw [getElem!_pos ms k h1] at h2
      rw [not_all (p := known (accs L)) h1 h2]; rfl
    · rw [List.take_of_length_le (by omega)] at hA
      rw [hA]; rfl
  obtain ⟨c0, c1, c2, c3, -⟩ := four B1.out
  clear hw1 hR1 hz0 hm h
  by_cases h0 : leader.size = 0
  · have h1 := lead_eq h0
    have hld : (decide (leader.size = 0) || known (accs L) leader) = true := by rw [decide_eq_true h0]; rfl
    have LP := Lib.hid (LOOP.out hld)
    clear h0 hld FZ LOOP
    go_enter Tryz.func46, Tryz.ntmps46
    rw [HW1.out, HR1.out] at c0 c1 c2 c3
    go_upto_region 3 with fail
    rw [← HW1.out, ← HR1.out]
    rw [← HW1.out, ← HR1.out] at c0 c1 c2 c3
    clear HW1 HR1
    go_wp2_with fail
    go_loopw [5] (fun iv wr => ∃ k : Nat, iv = .int .i64 k ∧ k ≤ ms.length ∧ Hid ((ms.take k).all (known (accs L)) = true) ∧ wr = w1) (fun iv _ => ms.length - (intOf iv).toNat)
    case atStart => exact ⟨0, rfl, by omega, rfl, rfl⟩
    case round =>
      obtain ⟨k, rfl, hkl, hA, rfl⟩ := hrel
      by_cases hlt : k < ms.length
      · have j1 : (k : Int) < (ms.length : Int) := by omega
        obtain ⟨g, hg, cg, hgl⟩ := HM.out.at' hlt
        subst hg
        have TK := Lib.hid (fun h => take_all (p := known (accs L)) hlt hA.out h)
        have NO : Hid (known (accs L) ms[k] = false → z = false) := fun h => (LP.out k hkl hA.out).1 hlt (by rw [getElem!_pos ms k hlt]; exact h)
        obtain ⟨x, hx⟩ : ∃ x, x = ms[k] := ⟨_, rfl⟩
        rw [← hx] at cg TK NO
        have KX := Lib.hid (FI.out x)
        cases hkx : known (accs L) x with
        | false =>
          have hv := NO.out hkx
          have j2 := fi_no_lt hkx
          obtain ⟨r2, hr2⟩ : ∃ r, r = fi (accs L) x := ⟨_, rfl⟩
          rw [← hr2] at KX j2
          subst hv
          clear TK NO hx hkx hr2
          go_wp2_with (go_at_call 44; refine KX.out.mono ?_; rintro e w3 ⟨rfl, rfl⟩)
          go_ret
          exact ⟨rfl, K1.out⟩
        | true =>
          have TK2 := Lib.hid (TK.out hkx)
          have j2 := fi_yes_ge hkx
          obtain ⟨r2, hr2⟩ : ∃ r, r = fi (accs L) x := ⟨_, rfl⟩
          rw [← hr2] at KX j2
          clear TK NO hx hkx hr2
          go_wp2_with (go_at_call 44; refine KX.out.mono ?_; rintro e w3 ⟨rfl, rfl⟩)
          go_roundw
          case rel => exact ⟨k + 1, by go_num, by omega, TK2.out, trivial⟩
          case measure => simp [intOf]; omega
      · have j1 : ¬ (k : Int) < (ms.length : Int) := by omega
        have hv := (LP.out k hkl hA.out).2 hlt
        subst hv
        go_wp2_with fail
        go_ret
        exact ⟨rfl, K1.out⟩
  · have h1 := lead_ne h0
    have b1 : leader.toList.isEmpty = false := by rw [List.isEmpty_eq_false_iff]; exact h1
    have b0 : (leader.toList == []) = false := by rw [beq_eq_false_iff_ne]; exact h1
    have FL := Lib.hid (FI.out leader)
    cases hkl : known (accs L) leader with
    | false =>
      have hv : z = false := by rw [FZ.out, hkl, decide_eq_false h0]; rfl
      subst hv
      have j0 := fi_no_lt hkl
      obtain ⟨r, hr⟩ : ∃ r, r = fi (accs L) leader := ⟨_, rfl⟩
      rw [← hr] at FL j0
      clear FZ LOOP hkl h0 h1 hr
      go_enter Tryz.func46, Tryz.ntmps46
      rw [HW1.out, HR1.out] at c0 c1 c2 c3
      go_wp2_with (go_at_call 44; rw [← HW1.out]; refine FL.out.mono ?_; rintro e w2 ⟨rfl, rfl⟩)
      go_ret
      exact ⟨rfl, K1.out⟩
    | true =>
      have hld : (decide (leader.size = 0) || known (accs L) leader) = true := by rw [hkl]; simp
      have LP := Lib.hid (LOOP.out hld)
      have j0 := fi_yes_ge hkl
      obtain ⟨r, hr⟩ : ∃ r, r = fi (accs L) leader := ⟨_, rfl⟩
      rw [← hr] at FL j0
      clear FZ LOOP hkl h0 h1 hr hld
      go_enter Tryz.func46, Tryz.ntmps46
      rw [HW1.out, HR1.out] at c0 c1 c2 c3
      go_upto_region 3 with (go_at_call 44; rw [← HW1.out]; refine FL.out.mono ?_; rintro e w2 ⟨rfl, rfl⟩)
      rw [← HR1.out]
      rw [← HW1.out, ← HR1.out] at c0 c1 c2 c3
      clear j0 FL
      clear HW1 HR1
      go_wp2_with fail
      go_loopw [5] (fun iv wr => ∃ k : Nat, iv = .int .i64 k ∧ k ≤ ms.length ∧ Hid ((ms.take k).all (known (accs L)) = true) ∧ wr = w2) (fun iv _ => ms.length - (intOf iv).toNat)
      case atStart => exact ⟨0, rfl, by omega, rfl, rfl⟩
      case round =>
        obtain ⟨k, rfl, hkl, hA, rfl⟩ := hrel
        by_cases hlt : k < ms.length
        · have j1 : (k : Int) < (ms.length : Int) := by omega
          obtain ⟨g, hg, cg, hgl⟩ := HM.out.at' hlt
          subst hg
          have TK := Lib.hid (fun h => take_all (p := known (accs L)) hlt hA.out h)
          have NO : Hid (known (accs L) ms[k] = false → z = false) := fun h => (LP.out k hkl hA.out).1 hlt (by rw [getElem!_pos ms k hlt]; exact h)
          obtain ⟨x, hx⟩ : ∃ x, x = ms[k] := ⟨_, rfl⟩
          rw [← hx] at cg TK NO
          have KX := Lib.hid (FI.out x)
          cases hkx : known (accs L) x with
          | false =>
            have hv := NO.out hkx
            have j2 := fi_no_lt hkx
            obtain ⟨r2, hr2⟩ : ∃ r, r = fi (accs L) x := ⟨_, rfl⟩
            rw [← hr2] at KX j2
            subst hv
            clear TK NO hx hkx hr2
            go_wp2_with (go_at_call 44; refine KX.out.mono ?_; rintro e w3 ⟨rfl, rfl⟩)
            go_ret
            exact ⟨rfl, K1.out⟩
          | true =>
            have TK2 := Lib.hid (TK.out hkx)
            have j2 := fi_yes_ge hkx
            obtain ⟨r2, hr2⟩ : ∃ r, r = fi (accs L) x := ⟨_, rfl⟩
            rw [← hr2] at KX j2
            clear TK NO hx hkx hr2
            go_wp2_with (go_at_call 44; refine KX.out.mono ?_; rintro e w3 ⟨rfl, rfl⟩)
            go_roundw
            case rel => exact ⟨k + 1, by go_num, by omega, TK2.out, trivial⟩
            case measure => simp [intOf]; omega
        · have j1 : ¬ (k : Int) < (ms.length : Int) := by omega
          have hv := (LP.out k hkl hA.out).2 hlt
          subst hv
          go_wp2_with fail
          go_ret
          exact ⟨rfl, K1.out⟩
end Us
end Go.Proofs.YtahjmpfjidijaaaGreatDoor
end

section
namespace Go.Proofs.YtahjmpfjidijaaaGreatDoor
set_option linter.unusedVariables false
open Go.RowKit Go.Shelf
attribute [local go_sem] Oper.semAt_some
namespace Us
open Go.Proofs.YtahjmpfjidijaaaGreatDoor.Utf Go.Proofs.YtahjmpfjidijaaaGreatDoor.Txt Go.PlainAid Go.Proofs.YtahjmpfjidijaaaGreatDoor.Mpf

theorem dl_app (x y : ByteArray) : dl (x ++ y) = dl x ++ dl y := by unfold dl; simp
theorem jl_zero (ms : List ByteArray) (c : UInt8) : jl (ms.take 0) c = [] := by simp [jl, Lib.join_nil]
theorem jl_first {ms : List ByteArray} (c : UInt8) (h : 0 < ms.length) : jl (ms.take 1) c = dl ms[0] := by
  cases ms with
  | nil => simp at h
  | cons x r => simp [jl, Lib.join_one]
theorem jl_next {ms : List ByteArray} (c : UInt8) {k : Nat} (h0 : 0 < k) (h : k < ms.length) : jl (ms.take (k + 1)) c = jl (ms.take k) c ++ [c] ++ dl ms[k] := by
  cases ms with
  | nil => simp at h
  | cons x r =>
    obtain ⟨j, rfl⟩ : ∃ j, k = j + 1 := ⟨k - 1, by omega⟩
    have hj : j < r.length := by simpa using h
    unfold jl
    simp only [List.take_succ_cons, List.map_cons, List.getElem_cons_succ, List.map_take]
    rw [Lib.join_cons, Lib.join_cons, Lib.joinTail_take_succ [c] (r.map dl) j (dl r[j]) (by rw [List.getElem?_map, List.getElem?_eq_getElem hj]; rfl)]
    simp [List.append_assoc]
theorem line_eq (a : Acc) : lineL a = dl a.name ++ [58] ++ dl a.leader ++ [58] ++ jl a.members 44 ++ [58] ++ dl a.key := by
  unfold lineL jl
  rw [Lib.join_cons]
  simp [Lib.joinTail, List.append_assoc]
set_option maxHeartbeats 8000000 in
set_option maxRecDepth 100000 in
theorem rline_any (w : World) (a : Acc) (v : Value) (hm : Mem w v a.members) (hn : a.name.size ≤ 32) (hl : a.leader.size ≤ 32) (hk : a.key.size ≤ 32) (hz : ∀ m ∈ a.members, m.size ≤ 32) (hlen : a.members.length ≤ 65537) :
    Calls Tryz.prog 94 #[accV a.name a.leader a.key v] w fun e w' => ∃ s, e = .returned (.string s) ∧ dl s = lineL a ++ [10] ∧ Kept [] w w' := by
  have HE := Lib.hid (line_eq a)
  obtain ⟨name, leader, ms, key⟩ := a
  simp only at hm hn hl hk hz hlen HE ⊢
  obtain ⟨va, vc, rfl⟩ := hm.slice
  unfold accV
  obtain ⟨ll, hll⟩ : ∃ l, l = lineL ⟨name, leader, ms, key⟩ := ⟨_, rfl⟩
  rw [← hll] at HE ⊢
  obtain ⟨w1, hw1⟩ : ∃ w1, w1 = w.alloc (.cells #[.string name, .string leader, .slice va ms.length vc, .string key] 79) := ⟨_, rfl⟩
  obtain ⟨R1, hR1⟩ : ∃ R, R = w.heap.size := ⟨_, rfl⟩
  have B1 : Hid (w1.heap[R1]? = some (.cells #[.string name, .string leader, .slice va ms.length vc, .string key] 79 (0, 0))) := by rw [hw1, hR1]; exact (MapKept.heap_alloc w _).1
  have K1 : Hid (Kept [] w w1) := by rw [hw1]; exact (Kept.refl _ _).alloc _
  have HW1 := Lib.hid hw1
  have HR1 := Lib.hid hR1
  have HM := Lib.hid (hm.kept0 K1.out)
  have HZ := Lib.hid hz
  obtain ⟨c0, c1, c2, c3, -⟩ := four B1.out
  have S0 : Hid (dl (name ++ ⟨#[58]⟩ ++ leader ++ ⟨#[58]⟩) = dl name ++ [58] ++ dl leader ++ [58] ++ jl (ms.take 0) 44 ∧ (name ++ ⟨#[58]⟩ ++ leader ++ ⟨#[58]⟩).size ≤ 66) := by
    refine ⟨?_, ?_⟩
    · simp only [dl_app, jl_zero, List.append_nil]; rfl
    · rw [← dl_length]
      simp only [dl_app, List.length_append, dl_length]
      have : (⟨#[58]⟩ : ByteArray).size = 1 := rfl
      omega
  clear hw1 hR1 hm hll hz
  go_enter Tryz.func94, Tryz.ntmps94
  rw [HW1.out, HR1.out] at c0 c1 c2 c3
  go_upto_region 2 with fail
  rw [← HW1.out, ← HR1.out]
  rw [← HW1.out, ← HR1.out] at c0 c1 c2 c3
  clear HW1 HR1
  go_wp2_with fail
  go_loopw [3, 4] (fun sv iv wr => ∃ (k : Nat) (s : ByteArray), sv = .string s ∧ iv = .int .i64 k ∧ k ≤ ms.length ∧ s.size ≤ 66 + 33 * k ∧ wr = w1 ∧ Hid (dl s = dl name ++ [58] ++ dl leader ++ [58] ++ jl (ms.take k) 44)) (fun _ iv _ => ms.length - (intOf iv).toNat)
  case atStart => exact ⟨0, _, rfl, rfl, by omega, by have := S0.out.2; omega, rfl, S0.out.1⟩
  case round =>
    obtain ⟨k, s, rfl, rfl, hkl, hsz, rfl, hS⟩ := hrel
    by_cases hlt : k < ms.length
    · have j1 : (k : Int) < (ms.length : Int) := by omega
      obtain ⟨g, hg, cg, hgl⟩ := HM.out.at' hlt
      subst hg
      have hs1 := HZ.out ms[k] (List.getElem_mem hlt)
      have NF : Hid (k = 0 → dl (s ++ ms[k]) = dl name ++ [58] ++ dl leader ++ [58] ++ jl (ms.take (k + 1)) 44 ∧ (s ++ ms[k]).size ≤ 66 + 33 * (k + 1)) := fun h0 => by
        subst h0
        refine ⟨?_, ?_⟩
        · rw [dl_app, hS.out, jl_zero, jl_first 44 hlt, List.append_nil]
        · rw [← dl_length, dl_app, List.length_append, dl_length, dl_length]; omega
      have NG : Hid (0 < k → dl (s ++ ⟨#[44]⟩ ++ ms[k]) = dl name ++ [58] ++ dl leader ++ [58] ++ jl (ms.take (k + 1)) 44 ∧ (s ++ ⟨#[44]⟩ ++ ms[k]).size ≤ 66 + 33 * (k + 1)) := fun h0 => by
        refine ⟨?_, ?_⟩
        · rw [dl_app, dl_app, hS.out, jl_next 44 h0 hlt]
          simp only [List.append_assoc]; rfl
        · have : (⟨#[44]⟩ : ByteArray).size = 1 := rfl
          rw [← dl_length, dl_app, dl_app, List.length_append, List.length_append, dl_length, dl_length, dl_length]; omega
      obtain ⟨x, hx⟩ : ∃ x, x = ms[k] := ⟨_, rfl⟩
      rw [← hx] at cg hs1 NF NG
      clear hx
      by_cases h0 : k = 0
      · have j2 : ¬ (0 : Int) < (k : Int) := by omega
        have NX := Lib.hid (NF.out h0)
        clear NF NG h0
        go_wp2_with fail
        go_roundw
        case rel => exact ⟨k + 1, _, rfl, by go_num, by omega, NX.out.2, trivial, NX.out.1⟩
        case measure => simp [intOf]; omega
      · have j2 : (0 : Int) < (k : Int) := by omega
        have NX := Lib.hid (NG.out (by omega))
        clear NF NG h0
        go_wp2_with fail
        go_roundw
        case rel => exact ⟨k + 1, _, rfl, by go_num, by omega, NX.out.2, trivial, NX.out.1⟩
        case measure => simp [intOf]; omega
    · have j1 : ¬ (k : Int) < (ms.length : Int) := by omega
      obtain rfl : k = ms.length := by omega
      have FIN : Hid (dl (s ++ ⟨#[58]⟩ ++ key ++ ⟨#[10]⟩) = ll ++ [10]) := by
        show _ = _
        rw [HE.out]
        simp only [dl_app, hS.out, List.take_length]
        rfl
      go_wp2_with fail
      go_ret
      exact ⟨_, rfl, FIN.out, K1.out⟩
end Us
end Go.Proofs.YtahjmpfjidijaaaGreatDoor
end

section
namespace Go.Proofs.YtahjmpfjidijaaaGreatDoor
set_option linter.unusedVariables false
open Go.RowKit Go.Shelf
attribute [local go_sem] Oper.semAt_some
namespace Us
open Go.Proofs.YtahjmpfjidijaaaGreatDoor.Utf Go.Proofs.YtahjmpfjidijaaaGreatDoor.Txt Go.PlainAid Go.Proofs.YtahjmpfjidijaaaGreatDoor.Mpf

theorem textL_take {T : List Acc} {k : Nat} (h : k < T.length) : (textL (T.take (k + 1))).length = (textL (T.take k)).length + ((lineL T[k]).length + 1) := by
  rw [List.take_succ_eq_append_getElem h]
  unfold textL
  rw [List.flatMap_append]
  simp
theorem textL_le (T : List Acc) (k : Nat) : (textL (T.take k)).length ≤ (textL T).length := by
  conv => rhs; rw [← List.take_append_drop k T]
  unfold textL
  rw [List.flatMap_append, List.length_append]
  omega
set_option maxHeartbeats 8000000 in
set_option maxRecDepth 100000 in
theorem rlength_any (w : World) (sl : Value) (L : List (Acc × Value)) (h : Rows w sl L) (hL : L.length ≤ 65537) (hF : ∀ a ∈ accs L, Fit a) :
    Calls Tryz.prog 47 #[sl] w fun e w' => ∃ n : Nat, e = .returned (.int .i64 n) ∧ (65536 < n ↔ 65536 < (textL (accs L)).length) ∧ Kept [] w w' := by
  obtain ⟨sa, sc, rfl⟩ := own_sl h.row
  have HH := Lib.hid h
  have HF := Lib.hid hF
  have LI := Lib.hid (fun (w' : World) (a : Acc) (v : Value) (hm : Mem w' v a.members) (f : Fit a) => rline_any w' a v hm f.1 f.2.1 f.2.2.1 f.2.2.2.1 f.2.2.2.2)
  clear h hF
  go_enter Tryz.func47, Tryz.ntmps47
  go_wp2_with fail
  go_loopw [3, 4] (fun nv iv wr => ∃ (k n : Nat), nv = .int .i64 n ∧ iv = .int .i64 k ∧ k ≤ L.length ∧ n ≤ 16777218 ∧ Hid (Kept [] w wr) ∧ Hid (n = (textL ((accs L).take k)).length)) (fun _ iv _ => L.length - (intOf iv).toNat)
  case atStart => exact ⟨0, 0, rfl, rfl, by omega, by omega, Kept.refl _ _, rfl⟩
  case round =>
    obtain ⟨k, n, rfl, rfl, hkl, hn, hK, hN⟩ := hrel
    by_cases hlt : k < L.length
    · have j1 : (k : Int) < (L.length : Int) := by omega
      by_cases hle : n ≤ 65536
      · have j2 : (n : Int) ≤ 65536 := by omega
        have HR := HH.out.kept0 hK.out
        obtain ⟨g, rfl, c0, c1, c2, c3⟩ := HR.at' hlt
        have hlt2 : k < (accs L).length := by rw [accs_length]; exact hlt
        have NX := Lib.hid (textL_take hlt2)
        have hfit := HF.out _ (List.getElem_mem hlt2)
        have hme := HR.mem _ (List.getElem_mem hlt)
        rw [accs_get hlt] at NX hfit
        have LX := Lib.hid (fun w' (kk : Kept [] wr w') => LI.out w' L[k].1 L[k].2 (hme.kept0 kk) hfit)
        have hll := lineL_len hfit
        obtain ⟨va, vc, hms⟩ := hme.slice
        obtain ⟨⟨⟨an, al, am, ak⟩, av⟩, hx⟩ : ∃ x, x = L[k] := ⟨_, rfl⟩
        rw [← hx] at c0 c1 c2 c3 NX LX hms hll
        simp only at c0 c1 c2 c3 NX LX hms hll
        subst hms
        unfold accV at LX
        have LX2 := Lib.hid (LX.out wr (Kept.refl _ _))
        clear hfit hme hx HR LX
        obtain ⟨ll, hl2⟩ : ∃ l, l = lineL ⟨an, al, am, ak⟩ := ⟨_, rfl⟩
        rw [← hl2] at LX2 hll NX
        have hll2 : ll.length ≤ 8388608 := hll
        clear hl2 hll
        go_wp2_with (go_at_call 94; refine LX2.out.mono ?_; rintro e w2 ⟨s, rfl, hs, k2⟩; have HS : Hid (s.size = ll.length + 1) := (by show _ = _; rw [← dl_length, hs]; simp); have hsz : s.size ≤ 8388609 := (by rw [HS.out]; omega); clear hs)
        go_roundw
        case rel => exact ⟨k + 1, n + s.size, by go_num, by go_num, by omega, by omega, hK.out.trans k2 (fun i hi => by simp at hi), by show _ = _; rw [NX.out, ← hN.out, HS.out]⟩
        case measure => simp [intOf]; omega
      · have j2 : ¬ (n : Int) ≤ 65536 := by omega
        have FIN : Hid (65536 < n ↔ 65536 < (textL (accs L)).length) := by
          have h1 := textL_le (accs L) k
          have h2 := hN.out
          show _ ↔ _
          omega
        go_wp2_with fail
        go_ret
        exact ⟨n, rfl, FIN.out, hK.out⟩
    · have j1 : ¬ (k : Int) < (L.length : Int) := by omega
      have FIN : Hid (65536 < n ↔ 65536 < (textL (accs L)).length) := by
        have h2 := hN.out
        rw [List.take_of_length_le (by rw [accs_length]; omega)] at h2
        show _ ↔ _
        omega
      go_wp2_with fail
      go_ret
      exact ⟨n, rfl, FIN.out, hK.out⟩
end Us
end Go.Proofs.YtahjmpfjidijaaaGreatDoor
end

section
namespace Go.Proofs.YtahjmpfjidijaaaGreatDoor
set_option linter.unusedVariables false
open Go.RowKit Go.Shelf
attribute [local go_sem] Oper.semAt_some
namespace Us
open Go.Proofs.YtahjmpfjidijaaaGreatDoor.Utf Go.Proofs.YtahjmpfjidijaaaGreatDoor.Txt Go.PlainAid Go.Proofs.YtahjmpfjidijaaaGreatDoor.Mpf

def nvI (n : Nat) : Value := .int .i64 n
theorem info_int2 : (Tryz.prog.info? 3).map (fun i => (i.zero, i.size, i.bytes)) = some (some (.int .i64 0), 1, 8) := by kernel_rfl
theorem grown_kept {w w' : World} {row : Option Nat} (hg : w.grownBy w' row) : Kept row.toList w w' := (Kept.refl _ w).grown hg (fun k hk => Or.inl (by simp [hk]))
/-- A row of another element type stays where one grows. -/
theorem own_other {w w' : World} {b1 b2 : Nat} {e1 e2 : TypeId} {s1 s2 : Nat} {v1 v2 : Value} {n1 n2 : Nat} {x1 x2 : List Value} (h1 : w.ownsRow b1 e1 s1 v1 n1 x1) (h2 : w.ownsRow b2 e2 s2 v2 n2 x2) (hg : w.grownBy w' v2.ownBlock) (ht : e1 ≠ e2) : w'.ownsRow b1 e1 s1 v1 n1 x1 :=
  own_kept h1 (grown_kept hg) (fun b hb hm => by
    obtain ⟨cs, hc⟩ := own_type h1 b hb
    obtain ⟨ds, hd⟩ := own_type h2 b (by simpa using hm)
    exact ne_type hc hd ht rfl)
/-- A table of the reference's. -/
def Rt (w : World) (p : Nat) (T : List Acc) : Prop := ∃ sl L, w.heap[p]? = some (.cells #[sl] 104 (0, 0)) ∧ Rows w sl L ∧ accs L = T ∧ L.length ≤ 65537 ∧ ∀ a ∈ accs L, Fit a
theorem Rt.kept {w w' : World} {p : Nat} {T : List Acc} (h : Rt w p T) (k : Kept [] w w') : Rt w' p T := by
  obtain ⟨sl, L, hb, hr, hT, hL, hF⟩ := h
  exact ⟨sl, L, (k.block _ (block_lt hb) (by simp)).trans hb, hr.kept0 k, hT, hL, hF⟩
/-- Between two lines. -/
structure PI (w wr : World) (lv : Value) (ps : List ByteArray) (k : Nat) (sl : Value) (L : List (Acc × Value)) (av : Value) (ats : List Nat) : Prop where
  lines : Mem wr lv ps
  row : wr.ownsRow w.heap.size 79 4 sl L.length (L.flatMap accC)
  mem : ∀ x ∈ L, Mem wr x.2 x.1.members
  nums : wr.ownsRow w.heap.size 3 1 av ats.length (ats.map nvI)
  kept : Kept [] w wr
  p1 : P1 ps k (accs L) ats
  fit : ∀ a ∈ accs L, Fit a
section
variable {w wr : World} {lv : Value} {ps : List ByteArray} {k : Nat} {sl : Value} {L : List (Acc × Value)} {av : Value} {ats : List Nat}
theorem PI.rows (h : PI w wr lv ps k sl L av ats) : Rows wr sl L := ⟨own_zero h.row, h.mem⟩
theorem PI.pure {w' : World} (h : PI w wr lv ps k sl L av ats) (kk : Kept [] wr w') : PI w w' lv ps k sl L av ats :=
  ⟨h.lines.kept0 kk, own_kept h.row kk (fun _ _ hm => by cases hm), fun x hx => (h.mem x hx).kept0 kk, own_kept h.nums kk (fun _ _ hm => by cases hm), h.kept.trans kk (fun i hi => by cases hi), h.p1, h.fit⟩
theorem PI.skip (h : PI w wr lv ps k sl L av ats) (hk : k < ps.length) (hs : says ps[k] = false) : PI w wr lv ps (k + 1) sl L av ats :=
  ⟨h.lines, h.row, h.mem, h.nums, h.kept, h.p1.skip hk hs, h.fit⟩
theorem PI.add {a : Acc} {v sl2 av2 : Value} {w6 w7 : World} (o1 o2 : Obj) (h : PI w wr lv ps k sl L av ats) (hk : k < ps.length) (hs : says ps[k] = true) (ha : accOf ps[k] = some a) (hb : addOk (accs L) a = true) (hf : Fit a) (hm : Mem wr v a.members)
    (hown1 : w6.ownsRow w.heap.size 79 4 sl2 (L.length + 1) (L.flatMap accC ++ [.string a.name, .string a.leader, v, .string a.key])) (hg1 : (wr.alloc o1).grownBy w6 sl.ownBlock)
    (hown2 : w7.ownsRow w.heap.size 3 1 av2 (ats.length + 1) (ats.map nvI ++ [.int .i64 ((k : Int) + 1)])) (hg2 : (w6.alloc o2).grownBy w7 av.ownBlock) : PI w w7 lv ps (k + 1) sl2 (L ++ [(a, v)]) av2 (ats ++ [k + 1]) := by
  have h1 := h.pure ((Kept.refl [] wr).alloc o1)
  have hm1 := hm.alloc o1
  have M6 : ∀ v l, Mem (wr.alloc o1) v l → Mem w6 v l := fun v l hh => own_other hh h1.row hg1 (by decide)
  have N6 := (own_other h1.nums h1.row hg1 (by decide)).alloc o2
  have M7 : ∀ v l, Mem (wr.alloc o1) v l → Mem w7 v l := fun v l hh => own_other ((M6 v l hh).alloc o2) N6 hg2 (by decide)
  have K6 : Kept [] w w6 := h1.kept.grown hg1 (fun b hb => Or.inr (h1.row.lt b hb).1)
  have e : (L ++ [(a, v)]).flatMap accC = L.flatMap accC ++ [.string a.name, .string a.leader, v, .string a.key] := by simp [accC]
  refine ⟨M7 _ _ h1.lines, ?_, ?_, ?_, (K6.alloc o2).grown hg2 (fun b hb => Or.inr (N6.lt b hb).1), ?_, ?_⟩
  · rw [e, List.length_append]
    exact own_other (hown1.alloc o2) N6 hg2 (by decide)
  · intro x hx
    rcases List.mem_append.1 hx with hx | hx
    · exact M7 _ _ (h1.mem x hx)
    · simp at hx; subst hx
      exact M7 _ _ hm1
  · rw [List.length_append, List.map_append]
    have e2 : [k + 1].map nvI = [.int .i64 ((k : Int) + 1)] := by simp [nvI]
    rw [e2]
    exact hown2
  · have : accs (L ++ [(a, v)]) = accs L ++ [a] := by simp [accs]
    rw [this]
    exact h.p1.add hk hs ha hb
  · intro b hb
    have : accs (L ++ [(a, v)]) = accs L ++ [a] := by simp [accs]
    rw [this] at hb
    rcases List.mem_append.1 hb with hb | hb
    · exact h.fit b hb
    · simp at hb; subst hb; exact hf
end
theorem says_empty {x : ByteArray} (h : x.size = 0) : says x = false := by
  have : dl x = [] := List.eq_nil_of_length_eq_zero (by rw [dl_length]; exact h)
  unfold says; rw [this]; rfl
theorem hp_one (b : UInt8) (t : List UInt8) : Lib.hasPrefix (b :: t) [35] = (b == 35) := by
  unfold Lib.hasPrefix
  by_cases e : b = 35
  · subst e; simp [List.isPrefixOf]
  · have h1 : ((35 : UInt8) == b) = false := by rw [beq_eq_false_iff_ne]; exact fun q => e q.symm
    have h2 : (b == 35) = false := by rw [beq_eq_false_iff_ne]; exact e
    simp [List.isPrefixOf, h1, h2]
theorem says_first {x : ByteArray} (h : 0 < x.size) : says x = !(x[0] == 35) := by
  have e : ∃ t, dl x = x[0] :: t := by
    have hl : 0 < (dl x).length := by rw [dl_length]; exact h
    have e0 : (dl x)[0] = x[0] := rfl
    exact ⟨(dl x).tail, (List.cons_head_tail (List.ne_nil_of_length_pos hl)).symm.trans (congrArg (· :: (dl x).tail) ((List.head_eq_getElem _).trans e0))⟩
  obtain ⟨t, e⟩ := e
  unfold says
  rw [e, hp_one]
  simp
/-- What comes of a text. -/
def OutQ (w : World) (s : ByteArray) (e : Ending) (w' : World) : Prop :=
  (∃ T p, parse s = (some T, 0, 0) ∧ e = .returned (.tuple #[.pointer (some ⟨p, 0, none⟩), .int .i64 0, .int .i64 0]) ∧ Rt w' p T ∧ Kept [] w w') ∨
  (∃ er ln : Nat, parse s = (none, er, ln) ∧ e = .returned (.tuple #[.pointer none, .int .i64 er, .int .i64 ln]) ∧ Kept [] w w')
set_option maxHeartbeats 16000000 in
set_option maxRecDepth 100000 in
theorem rparse_any (w : World) (s : ByteArray) (hs : s.size ≤ 140737488355328) :
    Calls Tryz.prog 17 #[.string s] w (OutQ w s) := by
  by_cases hbig : 65536 < s.size
  · have j0 : (65536 : Int) < (s.size : Int) := by omega
    have HP := Lib.hid (parse_big hbig)
    clear hbig
    go_enter Tryz.func17, Tryz.ntmps17
    go_wp2_with fail
    go_ret3
    exact Or.inr ⟨1, 0, HP.out, rfl, Kept.refl _ _⟩
  have j0 : ¬ (65536 : Int) < (s.size : Int) := by omega
  have HB := Lib.hid hbig
  have CU := Lib.hid (rcuts_any w s 10 10 rfl (by omega))
  have SZ : Hid (∀ p ∈ cutB 10 s, p.size ≤ 65536) := fun p hp => by have := cutB_sizes 10 s p hp; omega
  have LE := cutB_le 10 s
  obtain ⟨ps, hps⟩ : ∃ ps, ps = cutB 10 s := ⟨_, rfl⟩
  have HPS := Lib.hid hps
  rw [← hps] at CU SZ LE
  have hpl : ps.length ≤ 65537 := by omega
  have ACC := Lib.hid (fun w' x hx => raccount_any w' x hx)
  clear hps LE hbig
  go_enter Tryz.func17, Tryz.ntmps17
  go_wp2_with (go_at_call 58; refine CU.out.mono ?_; rintro e w1 ⟨v1, rfl, hm1, k1, f1⟩; obtain ⟨la, lc, rfl⟩ := hm1.slice)
  have P0 : Hid (PI w w1 (.slice la ps.length lc) ps 0 (.slice none 0 0) [] (.slice none 0 0) []) := ⟨hm1, World.ownsRow_nil _ _ _ _, fun x hx => (by cases hx), World.ownsRow_nil _ _ _ _, k1, P1.start ps, fun a ha => (by cases ha)⟩
  clear hm1 k1 f1 CU
  obtain ⟨N, hN⟩ : ∃ N, N = ps.length := ⟨_, rfl⟩
  have HN := Lib.hid hN
  rw [← hN] at P0 hpl ⊢
  clear hN
  go_loopw [6, 7, 8] (fun sv tv iv wr => ∃ (k : Nat) (sa : Option Addr) (sc : Nat) (L : List (Acc × Value)) (aa : Option Addr) (ac : Nat) (ats : List Nat) (m n : Nat), sv = .slice sa m sc ∧ tv = .slice aa n ac ∧ iv = .int .i64 k ∧ k ≤ N ∧ m ≤ k ∧ n ≤ k ∧ Hid (m = L.length) ∧ Hid (n = ats.length) ∧ Hid (PI w wr (.slice la N lc) ps k (.slice sa m sc) L (.slice aa n ac) ats)) (fun _ _ iv _ => N - (intOf iv).toNat)
  case atStart => exact ⟨0, none, 0, [], none, 0, [], 0, 0, rfl, rfl, rfl, by omega, by omega, by omega, rfl, rfl, P0⟩
  case round =>
    obtain ⟨k, sa, sc, L, aa, ac, ats, m, n, rfl, rfl, rfl, hk, hmk, hnk, hm, hn, hP⟩ := hrel
    clear P0
    by_cases hlt : k < N
    · have j1 : (k : Int) < (N : Int) := by omega
      have hlp : Hid (k < ps.length) := by show _; rw [← HN.out]; exact hlt
      have hML : Mem wr (.slice la ps.length lc) ps := by rw [← HN.out]; exact hP.out.lines
      obtain ⟨g, rfl, c0, -⟩ := hML.at' hlp.out
      have hxs := SZ.out (ps[k]'hlp.out) (List.getElem_mem hlp.out)
      have SK : Hid (says (ps[k]'hlp.out) = false → PI w wr (.slice (some ⟨g, 0, none⟩) N lc) ps (k + 1) (.slice sa m sc) L (.slice aa n ac) ats) := fun h => hP.out.skip hlp.out h
      obtain ⟨x, hx⟩ : ∃ x, x = ps[k]'hlp.out := ⟨_, rfl⟩
      have HXX := Lib.hid hx
      rw [← hx] at c0 hxs SK
      clear hML hx
      by_cases h0 : x.size = 0
      · have h1 := lead_eq h0
        have SK2 := Lib.hid (SK.out (says_empty h0))
        clear h0 SK
        go_wp2_with fail
        go_roundw
        case rel => exact ⟨k + 1, sa, sc, L, aa, ac, ats, m, n, rfl, rfl, by go_num, by omega, by omega, by omega, hm, hn, SK2⟩
        case measure => simp [intOf]; omega
      · have h1 := lead_ne h0
        have b1 : x.toList.isEmpty = false := by rw [List.isEmpty_eq_false_iff]; exact h1
        have b0 : (x.toList == []) = false := by rw [beq_eq_false_iff_ne]; exact h1
        have hpos : 0 < x.size := by omega
        have j2 : (0 : Int) < (x.size : Int) := by omega
        have SF := Lib.hid (says_first hpos)
        clear h0 h1
        by_cases hc : x[0] = 35
        · have e1 : ((x[0].toNat : Int) == 35) = true := by rw [hc]; rfl
          have SK2 := Lib.hid (SK.out (by rw [SF.out, hc]; rfl))
          clear hc SK SF
          go_wp2_with fail
          go_roundw
          case rel => exact ⟨k + 1, sa, sc, L, aa, ac, ats, m, n, rfl, rfl, by go_num, by omega, by omega, by omega, hm, hn, SK2⟩
          case measure => simp [intOf]; omega
        · have e1 : ((x[0].toNat : Int) == 35) = false := by
            rw [beq_eq_false_iff_ne]
            intro e
            exact hc (UInt8.toNat_inj.1 (by show _ = 35; omega))
          have SY : Hid (says (ps[k]'hlp.out) = true) := by
            show _ = _
            rw [← HXX.out, SF.out]
            have : (x[0] == 35) = false := by rw [beq_eq_false_iff_ne]; exact hc
            rw [this]; rfl
          have AX := Lib.hid (ACC.out wr x hxs)
          clear hc SK SF
          cases hacc : accOf x with
          | none =>
            have HPN : Hid (parse s = (none, 60, k + 1)) := by
              have hp1 := hP.out.p1
              rw [HPS.out] at hp1
              exact parse_none hp1 HB.out (by rw [← HPS.out]; exact hlp.out) (by have := SY.out; simp only [HPS.out] at this; exact this) (by rw [← hacc, HXX.out]; simp only [HPS.out])
            have AN : Hid (Calls Tryz.prog 59 #[.string x] wr fun e w' => e = .returned (.tuple #[.agg #[.string ⟨#[]⟩, .string ⟨#[]⟩, .slice none 0 0, .string ⟨#[]⟩], .bool false]) ∧ Kept [] wr w') := by
              refine AX.out.mono ?_
              rintro e w2 (⟨a, v, h, -⟩ | ⟨-, rfl, k2⟩)
              · rw [hacc] at h; cases h
              · exact ⟨rfl, k2⟩
            clear AX hacc SY
            go_wp2_with (go_at_call 59; refine AN.out.mono ?_; rintro e w2 ⟨rfl, k2⟩)
            go_ret3
            exact Or.inr ⟨60, k + 1, HPN.out, by simp, (hP.out.kept.trans k2 (fun i hi => by simp at hi)).alloc _⟩
          | some a =>
            have hfit := accOf_fit hacc hxs
            have AY : Hid (Calls Tryz.prog 59 #[.string x] wr fun e w' => ∃ v, e = .returned (.tuple #[accV a.name a.leader a.key v, .bool true]) ∧ Mem w' v a.members ∧ Kept [] wr w') := by
              refine AX.out.mono ?_
              rintro e w2 (⟨a', v, h, he, hmm, -, hkk⟩ | ⟨h, -, -⟩)
              · rw [hacc] at h; cases h
                exact ⟨v, he, hmm.out, hkk.out⟩
              · rw [hacc] at h; cases h
            have HACC : Hid (accOf (ps[k]'hlp.out) = some a) := by show _ = _; rw [← HXX.out]; exact hacc
            have TWI := Lib.hid (fun w' v (h : Mem w' v a.members) => rtwice_any w' v a.members h (by have := hfit.2.2.2.2; omega))
            have HFIT := Lib.hid hfit
            have hml : a.members.length ≤ 65537 := hfit.2.2.2.2
            have ADD : Hid (addOk (accs L) a = (!known (accs L) a.name && once a.members)) := rfl
            have TW1 : Hid (parse s = (none, 61, k + 1) ∨ addOk (accs L) a = true) := by
              show _ ∨ _
              cases hao : addOk (accs L) a with
              | true => exact Or.inr rfl
              | false =>
                left
                have hp1 := hP.out.p1
                rw [HPS.out] at hp1
                exact parse_twice hp1 HB.out (by rw [← HPS.out]; exact hlp.out) (by have := SY.out; simp only [HPS.out] at this; exact this) (by have := HACC.out; simp only [HPS.out] at this; exact this) hao
            have PADD := Lib.hid (fun wX (hX : PI w wX (.slice (some ⟨g, 0, none⟩) N lc) ps k (.slice sa m sc) L (.slice aa n ac) ats) v sl2 av2 w6 w7 o1 o2 hb => PI.add (a := a) (v := v) (sl2 := sl2) (av2 := av2) (w6 := w6) (w7 := w7) o1 o2 hX hlp.out SY.out HACC.out hb HFIT.out)
            obtain ⟨an, al, am, ak⟩ := a
            simp only at AY TWI ADD hml
            clear AX hacc SY hfit HACC
            unfold accV at AY
            go_upto_region 13 with (go_at_call 59; refine AY.out.mono ?_; rintro e w2 ⟨v2, rfl, hm2, k2⟩; obtain ⟨va, vc, rfl⟩ := hm2.slice)
            obtain ⟨w3, hw3⟩ : ∃ w3, w3 = w2.alloc (.cells #[.string an, .string al, .slice va am.length vc, .string ak] 79) := ⟨_, rfl⟩
            obtain ⟨R9, hR9⟩ : ∃ R, R = w2.heap.size := ⟨_, rfl⟩
            have B9 : Hid (w3.heap[R9]? = some (.cells #[.string an, .string al, .slice va am.length vc, .string ak] 79 (0, 0))) := by rw [hw3, hR9]; exact (MapKept.heap_alloc w2 _).1
            have K3 : Hid (Kept [] wr w3) := by rw [hw3]; exact k2.alloc _
            have M3 : Hid (Mem w3 (.slice va am.length vc) am) := by rw [hw3]; exact hm2.alloc _
            have P3 := Lib.hid (hP.out.pure K3.out)
            rw [← hw3, ← hR9]
            clear hw3 hR9 k2 hm2 AY
            have hLm : L.length ≤ 1048576 := by rw [← hm.out]; omega
            have FI := Lib.hid (rfind_any w3 (.slice sa m sc) L an P3.out.rows hLm)
            obtain ⟨y0, y1, y2, y3, -⟩ := four B9.out
            clear hLm
            cases hkn : known (accs L) an with
            | true =>
              have HPN : Hid (parse s = (none, 61, k + 1)) := by
                rcases TW1.out with h | h
                · exact h
                · rw [ADD.out, hkn] at h; cases h
              have j3 : (0 : Int) ≤ fi (accs L) an := (fi_known _ _).2 hkn
              obtain ⟨r, hr⟩ : ∃ r, r = fi (accs L) an := ⟨_, rfl⟩
              rw [← hr] at FI j3
              clear hkn hr TW1 PADD TWI ADD
              go_wp2_with (go_at_call 44; refine FI.out.mono ?_; rintro e w4 ⟨rfl, rfl⟩)
              go_ret3
              exact Or.inr ⟨61, k + 1, HPN.out, by simp, P3.out.kept⟩
            | false =>
              have j3 : ¬ (0 : Int) ≤ fi (accs L) an := fun h => by have := fi_no_lt hkn; omega
              obtain ⟨r, hr⟩ : ∃ r, r = fi (accs L) an := ⟨_, rfl⟩
              rw [← hr] at FI j3
              have TW3 := Lib.hid (TWI.out w3 _ M3.out)
              have ADD2 : Hid (addOk (accs L) ⟨an, al, am, ak⟩ = once am) := by show _ = _; rw [ADD.out, hkn]; rfl
              obtain ⟨q, hq⟩ : ∃ q, q = once am := ⟨_, rfl⟩
              rw [← hq] at TW3 ADD2
              clear hkn hr TWI ADD hq
              cases q with
              | false =>
                have HPN : Hid (parse s = (none, 61, k + 1)) := by
                  rcases TW1.out with h | h
                  · exact h
                  · rw [ADD2.out] at h; cases h
                have TW4 : Hid (Calls Tryz.prog 45 #[.slice va am.length vc] w3 fun e w' => e = .returned (.bool true) ∧ Kept [] w3 w') := TW3.out
                clear TW1 PADD TW3 ADD2
                go_wp2_with (first | (go_at_call 44; refine FI.out.mono ?_; rintro e w4 ⟨rfl, rfl⟩) | (go_at_call 45; refine TW4.out.mono ?_; rintro e w5 ⟨rfl, k5⟩))
                go_ret3
                exact Or.inr ⟨61, k + 1, HPN.out, by simp, P3.out.kept.trans k5 (fun i hi => by simp at hi)⟩
              | true =>
                have TW4 : Hid (Calls Tryz.prog 45 #[.slice va am.length vc] w3 fun e w' => e = .returned (.bool false) ∧ Kept [] w3 w') := TW3.out
                have HLN : Hid (m + 1 ≤ maxLen ∧ (m + 1) * 72 ≤ 140737488355328) := ⟨by unfold maxLen; omega, by omega⟩
                have HAN : Hid (n + 1 ≤ maxLen ∧ (n + 1) * 8 ≤ 140737488355328) := ⟨by unfold maxLen; omega, by omega⟩
                clear TW1 TW3
                go_upto_region 15 with (first | (go_at_call 44; refine FI.out.mono ?_; rintro e w4 ⟨rfl, rfl⟩) | (go_at_call 45; refine TW4.out.mono ?_; rintro e w5 ⟨rfl, k5⟩))
                clear y0 y1 y2 y3
                have B95 := (k5.block _ (block_lt B9.out) (by simp)).trans B9.out
                obtain ⟨y0, y1, y2, y3, -⟩ := four B95
                have P5 := Lib.hid (P3.out.pure k5)
                have M5 := Lib.hid (M3.out.kept0 k5)
                have row5 := P5.out.row
                have num5 := P5.out.nums
                rw [← hm.out] at row5
                rw [← hn.out] at num5
                have ROW5 := Lib.hid row5
                have NUM5 := Lib.hid num5
                have PADD5 := Lib.hid (PADD.out w5 P5.out (.slice va am.length vc))
                clear k5 B95 row5 num5 PADD FI TW4
                obtain ⟨i0, hi0, hz00, hz01, hz02⟩ := info_parts info_acc
                obtain ⟨i1, hi1, hz10, hz11, hz12⟩ := info_parts info_int2
                go_wp2_with (first
                  | (at_builtin; refine wpList_append_src (w5.alloc (.cells #[.string an, .string al, .slice va am.length vc, .string ak] 79)) rfl (.tmp 60) (.tmp 62) 22 rfl w.heap.size 79 i0 (.agg #[.string ⟨#[]⟩, .string ⟨#[]⟩, .slice none 0 0, .string ⟨#[]⟩]) 4 72 Tryz.underlying22 hi0 hz00 hz01 hz02 rfl (by decide) (.slice sa m sc) m (L.flatMap accC) rfl (ROW5.out.alloc _) (.slice (some ⟨w5.heap.size, 0, none⟩) 1 1) 1 [.string an, .string al, .slice va am.length vc, .string ak] rfl (Or.inr ⟨_, _, rfl, World.news_of_block (cs := #[.string an, .string al, .slice va am.length vc, .string ak]) (by exact (MapKept.heap_alloc w5 _).1)⟩) rfl (by intro u hu; simp at hu; rcases hu with rfl | rfl | rfl | rfl <;> rfl) HLN.out.1 HLN.out.2 (by have := P5.out.kept.size; simp; omega) ?_; intro v6 w6 hown1 hg1 hat1; have OWN1 := Lib.hid hown1; have HG1 := Lib.hid hg1; have NUM6 := Lib.hid ((own_other (NUM5.out.alloc _) (ROW5.out.alloc _) hg1 (by decide))); have Z6 : Hid (w.heap.size ≤ w6.heap.size) := (by have h1 := P5.out.kept.size; have h2 := hg1.size; simp at h2; show _ ≤ _; omega); obtain ⟨a6, c6, rfl⟩ := own_sl hown1; clear hown1 hg1 hat1)
                  | (at_builtin; refine wpList_append_src (w6.alloc (.cells #[.int .i64 ((k : Int) + 1)] 3)) rfl (.tmp 64) (.tmp 67) 100 rfl w.heap.size 3 i1 (.int .i64 0) 1 8 Tryz.underlying100 hi1 hz10 hz11 hz12 rfl (by decide) (.slice aa n ac) n (ats.map nvI) rfl (NUM6.out.alloc _) (.slice (some ⟨w6.heap.size, 0, none⟩) 1 1) 1 [.int .i64 ((k : Int) + 1)] rfl (Or.inr ⟨_, _, rfl, World.news_of_block (cs := #[.int .i64 ((k : Int) + 1)]) (by exact (MapKept.heap_alloc w6 _).1)⟩) rfl (by intro u hu; simp at hu; subst hu; rfl) HAN.out.1 HAN.out.2 (by have := Z6.out; simp; omega) ?_; intro v7 w7 hown2 hg2 hat2; have NX := Lib.hid (PADD5.out _ _ _ _ _ _ ADD2.out M5.out (by rw [← hm.out]; exact OWN1.out) HG1.out (by rw [← hn.out]; exact hown2) hg2); obtain ⟨a7, c7, rfl⟩ := own_sl hown2; clear hown2 hg2 hat2))
                go_roundw
                case rel => exact ⟨k + 1, a6, c6, L ++ [(⟨an, al, am, ak⟩, .slice va am.length vc)], a7, c7, ats ++ [k + 1], m + 1, n + 1, rfl, rfl, by go_num, by omega, by omega, by omega, by show _ = _; rw [List.length_append, ← hm.out]; rfl, by show _ = _; rw [List.length_append, ← hn.out]; rfl, NX⟩
                case measure => simp [intOf]; omega
    · have j1 : ¬ (k : Int) < (N : Int) := by omega
      obtain ⟨w9, rfl⟩ : ∃ w9, w9 = wr := ⟨_, rfl⟩
      have DONE : Hid ((pass1 (cutB 10 s) 0 [] = .inr (accs L) ∧ (accs L).zip ats = spots (cutB 10 s) 0) ∧ ats.length = (accs L).length) := by
        have hp1 := hP.out.p1
        have hl := HN.out
        rw [HPS.out] at hp1 hl
        exact ⟨hp1.done (by omega), hp1.len⟩
      have HL1 : Hid (L.length = (accs L).length) := accs_length.symm
      have hLm : L.length ≤ 65537 := by rw [← hm.out]; omega
      have WHO : Hid (∀ (i : Nat) (hi : i < L.length) (hA : ((accs L).take i).all (knows (accs L)) = true) (hn' : knows (accs L) L[i].1 = false), ∃ t : Nat, ats[i]? = some t ∧ parse s = (none, 62, t)) := fun i hi hA hn' => by
        have hi2 : i < (accs L).length := by rw [accs_length]; exact hi
        have hi3 : i < ats.length := by rw [DONE.out.2]; exact hi2
        rw [← accs_get hi] at hn'
        exact ⟨ats[i], List.getElem?_eq_getElem hi3, parse_who DONE.out.1 DONE.out.2 HB.out hi2 hA hn'⟩
      have ALLK : Hid (∀ (hA : (accs L).all (knows (accs L)) = true), parse s = if 65536 < (textL (accs L)).length then (none, 1, 0) else (some (accs L), 0, 0)) := fun hA => parse_all DONE.out.1 DONE.out.2 HB.out hA
      have P9 := hP
      have KN := Lib.hid (fun w' (kk : Kept [] w9 w') (a : Acc) v (h : Mem w' v a.members) (hl : a.members.length ≤ 1048576) => rknows_any w' (.slice sa m sc) L (P9.out.pure kk).rows (by omega) a v h hl)
      have LG := Lib.hid (fun w' (kk : Kept [] w9 w') => rlength_any w' (.slice sa m sc) L (P9.out.pure kk).rows hLm P9.out.fit)
      have AT : Hid (∀ w', Kept [] w9 w' → ∀ (i t : Nat), ats[i]? = some t → ∃ g, aa = some ⟨g, 0, none⟩ ∧ i < n ∧ w'.cell? ⟨g, i, none⟩ = some (.int .i64 (t : Int))) := fun w' kk i t ht => by
        have hr := (P9.out.pure kk).nums
        have hi := (List.getElem?_eq_some_iff.1 ht).1
        rcases hr.2 with ⟨e, h0⟩ | ⟨g, cap, cur, e, -⟩
        · omega
        · cases e
          refine ⟨g, rfl, by rw [hn.out]; exact hi, ?_⟩
          have := World.ownsRow.cellAt (n := ats.length) (cap := ac) (by rw [← hn.out] at hr ⊢; exact hr) i (by omega)
          rw [this]
          simp [ht, nvI]
      clear hP DONE ACC SZ HPS HB hlt hk hmk
      go_wp2_with fail
      go_loopw [11] (fun iv wx => ∃ i : Nat, iv = .int .i64 i ∧ i ≤ m ∧ Hid (((accs L).take i).all (knows (accs L)) = true) ∧ Hid (Kept [] w9 wx)) (fun iv _ => m - (intOf iv).toNat)
      case atStart => exact ⟨0, rfl, by omega, rfl, Kept.refl _ _⟩
      case round =>
        obtain ⟨i, rfl, hi, hA, hK⟩ := hrel
        by_cases hlt : i < m
        · have j2 : (i : Int) < (m : Int) := by omega
          have HR := (P9.out.pure hK.out).rows
          have hi2 : i < L.length := by rw [← hm.out]; exact hlt
          have HRM : Rows wr (.slice sa L.length sc) L := by rw [← hm.out]; exact HR
          obtain ⟨g, rfl, c0, c1, c2, c3⟩ := HRM.at' hi2
          have hme := HR.mem _ (List.getElem_mem hi2)
          have hfit := P9.out.fit _ (List.getElem_mem (show i < (accs L).length by rw [accs_length]; exact hi2))
          rw [accs_get hi2] at hfit
          have KX := Lib.hid (KN.out wr hK.out L[i].1 L[i].2 hme (by have := hfit.2.2.2.2; omega))
          have WX := Lib.hid (fun h => WHO.out i hi2 hA.out h)
          have TK : Hid (knows (accs L) L[i].1 = true → ((accs L).take (i + 1)).all (knows (accs L)) = true) := fun h => by
            rw [List.take_succ_eq_append_getElem (show i < (accs L).length by rw [accs_length]; exact hi2), List.all_append, hA.out, accs_get hi2]
            simp [h]
          have ATX := Lib.hid (AT.out wr hK.out)
          have ATD := Lib.hid (AT.out wr.drew hK.out.drew)
          obtain ⟨va, vc, hms⟩ := hme.slice
          obtain ⟨⟨⟨an, al, am, ak⟩, av⟩, hx⟩ : ∃ x, x = L[i] := ⟨_, rfl⟩
          rw [← hx] at c0 c1 c2 c3 KX WX TK hms
          simp only at c0 c1 c2 c3 KX WX TK hms
          subst hms
          unfold accV at KX
          obtain ⟨q, hq⟩ : ∃ q, q = knows (accs L) ⟨an, al, am, ak⟩ := ⟨_, rfl⟩
          rw [← hq] at KX WX TK
          clear hfit hme hx HR HRM hq
          cases q with
          | false =>
            obtain ⟨t, ht, hpt⟩ := WX.out rfl
            obtain ⟨ga, rfl, hin, cg⟩ := ATX.out i t ht
            have j3 : (i : Int) < (n : Int) := by omega
            have ATK : Hid (∀ w', Kept [] w9 w' → w'.cell? ⟨ga, i, none⟩ = some (.int .i64 (t : Int))) := fun w' kk => by
              obtain ⟨g', e, -, c⟩ := AT.out w' kk i t ht
              cases e
              exact c
            have HPT := Lib.hid hpt
            clear WX TK ATX ATD hpt ht hin cg
            go_upto_region 21 with (go_at_call 46; refine KX.out.mono ?_; rintro e w5 ⟨rfl, k5⟩; have K5 : Hid (Kept [] w9 w5) := hK.out.trans k5 (fun i hi => by simp at hi))
            have cg := ATK.out w5 K5.out
            have cgd := ATK.out w5.drew K5.out.drew
            go_region_held3 (fun w' => w'.cell? ⟨ga, i, none⟩ = some (Value.int .i64 (t : Int))) (first | exact cgd) (fail)
            go_wp2_with fail
            go_ret3
            exact Or.inr ⟨62, t, HPT.out, rfl, (P9.out.kept.trans K5.out (fun i hi => by simp at hi)).drew⟩
          | true =>
            have TK2 := Lib.hid (TK.out rfl)
            clear WX TK ATX ATD
            go_wp2_with (go_at_call 46; refine KX.out.mono ?_; rintro e w5 ⟨rfl, k5⟩; have K5 : Hid (Kept [] w9 w5) := hK.out.trans k5 (fun i hi => by simp at hi))
            go_roundw
            case rel => exact ⟨i + 1, by go_num, by omega, TK2, K5⟩
            case measure => simp [intOf]; omega
        · have j2 : ¬ (i : Int) < (m : Int) := by omega
          have hall : (accs L).all (knows (accs L)) = true := by
            have := hA.out
            rwa [List.take_of_length_le (by rw [accs_length, ← hm.out]; omega)] at this
          have FIN := Lib.hid (ALLK.out hall)
          have LX := Lib.hid (LG.out wr hK.out)
          clear hall ALLK WHO AT KN LG hA
          go_wp2_with (go_at_call 47; refine LX.out.mono ?_; rintro e w5 ⟨ln, rfl, hln, k5⟩; have K5 : Hid (Kept [] w9 w5) := hK.out.trans k5 (fun i hi => by simp at hi); have HLN := Lib.hid hln; clear hln)
          all_goals rename_i hq
          all_goals go_ret3
          · have hb : 65536 < (textL (accs L)).length := HLN.out.1 (by omega)
            exact Or.inr ⟨1, 0, by rw [FIN.out, if_pos hb], rfl, P9.out.kept.trans K5.out (fun i hi => by simp at hi)⟩
          · have hb : ¬ 65536 < (textL (accs L)).length := fun h => by have := HLN.out.2 h; omega
            refine Or.inl ⟨accs L, w5.heap.size, by rw [FIN.out, if_neg hb], rfl, ?_, (P9.out.kept.trans K5.out (fun i hi => by simp at hi)).alloc _⟩
            exact ⟨.slice sa m sc, L, (MapKept.heap_alloc w5 _).1, (P9.out.pure (K5.out.alloc _)).rows, rfl, hLm, P9.out.fit⟩
end Us
end Go.Proofs.YtahjmpfjidijaaaGreatDoor
end

section
namespace Go.Proofs.YtahjmpfjidijaaaGreatDoor.Us
set_option linter.unusedVariables false
open Go.Proofs.YtahjmpfjidijaaaGreatDoor.Utf

/-- No name stands twice, and everybody is there whom an account names. -/
structure Gd (T : List Acc) : Prop where
  once : (T.map (·.name)).Nodup
  all : T.all (knows T) = true
theorem known_mem (T : List Acc) (n : ByteArray) : known T n = true ↔ n ∈ T.map (·.name) := by
  unfold known
  rw [List.any_eq_true, List.mem_map]
  constructor
  · rintro ⟨a, ha, h⟩; exact ⟨a, ha, of_decide_eq_true h⟩
  · rintro ⟨a, ha, h⟩; exact ⟨a, ha, decide_eq_true h⟩
theorem pass1_once : ∀ (ls : List ByteArray) (i : Nat) (T T' : List Acc), pass1 ls i T = .inr T' → (T.map (·.name)).Nodup → (T'.map (·.name)).Nodup
  | [], i, T, T', h, hn => by simp [pass1] at h; subst h; exact hn
  | l :: ls, i, T, T', h, hn => by
    unfold pass1 at h
    split at h
    · split at h
      · cases h
      · rename_i a ha
        split at h
        · rename_i hb
          refine pass1_once ls (i + 1) _ _ h ?_
          rw [List.map_append]
          refine List.nodup_append.2 ⟨hn, by simp, ?_⟩
          intro x hx y hy e
          simp at hy
          subst hy
          subst e
          unfold addOk at hb
          have := (known_mem T a.name).2 hx
          rw [this] at hb
          simp at hb
        · cases h
    · exact pass1_once ls (i + 1) _ _ h hn
theorem parse_gd {s : ByteArray} {T : List Acc} (h : parse s = (some T, 0, 0)) : Gd T := by
  unfold parse at h
  split at h
  · cases h
  · split at h
    · cases h
    · rename_i T1 h1
      split at h
      · cases h
      · rename_i h2
        split at h
        · cases h
        · simp at h
          subst h
          refine ⟨pass1_once _ _ _ _ h1 (by simp), ?_⟩
          have hp := pass2_spots T1 _ 0 [] T1 h1
          rw [h2] at hp
          have ht := pass1_all _ _ _ _ h1
          rw [List.nil_append] at ht
          rw [List.all_eq_true]
          intro a ha
          rw [ht, List.mem_map] at ha
          obtain ⟨x, hx, rfl⟩ := ha
          cases hf : (spots (cutB 10 s) 0).find? (fun x => !knows T1 x.1) with
          | some y => rw [hf] at hp; cases hp
          | none =>
            rw [List.find?_eq_none] at hf
            have := hf x hx
            simpa using this
section
variable {T : List Acc} {u g : ByteArray}
theorem place_at {n : ByteArray} {k : Nat} (h : placeOf T 0 n = some k) : ∃ hk : k < T.length, T[k].name = n := by
  obtain ⟨h1, -, h3⟩ := placeOf_some n T 0 k h
  exact ⟨h1, h3⟩
theorem once_at (h : Gd T) {i j : Nat} (hi : i < T.length) (hj : j < T.length) (e : T[i].name = T[j].name) : i = j := by
  have := List.getElem_inj (h₀ := by rw [List.length_map]; exact hi) (h₁ := by rw [List.length_map]; exact hj) h.once
  rw [List.getElem_map, List.getElem_map] at this
  exact this.1 e
theorem bel_at (h : Gd T) {j : Nat} (hj : placeOf T 0 g = some j) : ∃ hk : j < T.length, bel T (u, g) = memB u T[j].members := by
  obtain ⟨hk, hn⟩ := place_at hj
  refine ⟨hk, ?_⟩
  rw [Bool.eq_iff_iff]
  unfold bel
  rw [List.any_eq_true]
  constructor
  · rintro ⟨a, ha, h2⟩
    rw [Bool.and_eq_true] at h2
    obtain ⟨i, hi, rfl⟩ := List.getElem_of_mem ha
    have e := of_decide_eq_true h2.1
    have := once_at h hi hk (by rw [hn]; exact e)
    subst this
    exact h2.2
  · intro h2
    exact ⟨T[j], List.getElem_mem hk, by rw [Bool.and_eq_true]; exact ⟨decide_eq_true hn, h2⟩⟩
theorem bel_known (h : Gd T) (hb : bel T (u, g) = true) : known T u = true := by
  unfold bel at hb
  rw [List.any_eq_true] at hb
  obtain ⟨a, ha, h2⟩ := hb
  rw [Bool.and_eq_true] at h2
  have hk := h.all
  rw [List.all_eq_true] at hk
  have := hk a ha
  unfold knows at this
  rw [Bool.and_eq_true, List.all_eq_true] at this
  exact this.2 u (memB_iff.1 h2.2)
theorem member_no_u (h : Gd T) (hu : known T u = false) : member T u g = false := by
  unfold member
  rw [hu, Bool.and_false, Bool.or_false]
  cases hb : bel T (u, g) with
  | false => rfl
  | true => rw [bel_known h hb] at hu; cases hu
theorem member_no_g (hg : known T g = false) : member T u g = false := by
  unfold member
  rw [bel_unknown hg]
  by_cases e : u = g
  · subst e; rw [hg]; simp
  · simp [e]
theorem member_at (h : Gd T) {i j : Nat} (hi : placeOf T 0 u = some i) (hj : placeOf T 0 g = some j) : ∃ hk : j < T.length, member T u g = (decide (i = j) || memB u T[j].members) := by
  obtain ⟨hk, hb⟩ := bel_at (u := u) h hj
  obtain ⟨hik, hin⟩ := place_at hi
  obtain ⟨hjk, hjn⟩ := place_at hj
  refine ⟨hk, ?_⟩
  unfold member
  rw [hb, Bool.or_comm]
  congr 1
  have hku : known T u = true := by rw [← placeOf_known u T 0, hi]; rfl
  rw [hku, Bool.and_true, decide_eq_decide]
  constructor
  · rintro rfl
    rw [hi] at hj
    cases hj; rfl
  · rintro rfl
    rw [← hin, ← hjn]
theorem leads_no_g (hg : known T g = false) : leads T u g = false := by
  unfold leads
  have : placeOf T 0 g = none := by
    have h := placeOf_known g T 0
    rw [hg] at h
    cases hp : placeOf T 0 g with
    | none => rfl
    | some k => rw [hp] at h; cases h
  rw [this]
  exact member_no_g hg
theorem leads_at {j : Nat} (hj : placeOf T 0 g = some j) : ∃ hk : j < T.length, leads T u g = if T[j].leader.size = 0 then member T u g else decide (u = T[j].leader) := by
  obtain ⟨hk, hn⟩ := place_at hj
  refine ⟨hk, ?_⟩
  unfold leads
  rw [hj]
  simp only
  rw [List.getElem?_eq_getElem hk]
  simp only [Option.elim_some]
  by_cases h0 : T[j].leader.size = 0
  · simp [h0]
  · simp [h0]
theorem known_place {n : ByteArray} (h : known T n = true) : ∃ k, placeOf T 0 n = some k := by
  have := placeOf_known n T 0
  rw [h] at this
  cases hp : placeOf T 0 n with
  | none => rw [hp] at this; cases this
  | some k => exact ⟨k, rfl⟩
theorem leads_no_u (h : Gd T) (hu : known T u = false) : leads T u g = false := by
  cases hg : known T g with
  | false => exact leads_no_g hg
  | true =>
    obtain ⟨k, hk⟩ := known_place hg
    obtain ⟨hk2, e⟩ := leads_at (u := u) hk
    rw [e]
    by_cases hl : T[k].leader.size = 0
    · rw [if_pos hl]
      exact member_no_u h hu
    · rw [if_neg hl, decide_eq_false_iff_not]
      rintro rfl
      have ha := h.all
      rw [List.all_eq_true] at ha
      have := ha T[k] (List.getElem_mem hk2)
      unfold knows at this
      rw [Bool.and_eq_true, Bool.or_eq_true] at this
      rcases this.1 with q | q
      · exact hl (of_decide_eq_true q)
      · rw [q] at hu; cases hu
theorem fi_some {n : ByteArray} {k : Nat} (h : placeOf T 0 n = some k) : fi T n = k := by unfold fi; rw [h]
end
end Go.Proofs.YtahjmpfjidijaaaGreatDoor.Us
end

namespace Go.Proofs.YtahjmpfjidijaaaGreatDoor
set_option linter.unusedVariables false
open Go.RowKit Go.Shelf
attribute [local go_sem] Oper.semAt_some
namespace Us
open Go.Proofs.YtahjmpfjidijaaaGreatDoor.Utf Go.Proofs.YtahjmpfjidijaaaGreatDoor.Txt Go.PlainAid Go.Proofs.YtahjmpfjidijaaaGreatDoor.Mpf

set_option maxHeartbeats 4000000 in
set_option maxRecDepth 100000 in
theorem rKnown_any {w : World} {p : Nat} {T : List Acc} (h : Rt w p T) (n : ByteArray) :
    Calls Tryz.prog 104 #[.pointer (some ⟨p, 0, none⟩), .string n] w fun e w' => e = .returned (.bool (known T n)) ∧ w' = w := by
  obtain ⟨sl, L, hb, hr, rfl, hL, hF⟩ := h
  have c0 : w.cell? ⟨p, 0, none⟩ = some sl := by rw [cell_of_row w p 0 _ _ (0, 0) hb]; rfl
  have FI := Lib.hid (rfind_any w sl L n hr (by omega))
  obtain ⟨sa, sc, rfl⟩ := own_sl hr.row
  have HK := Lib.hid (fi_known (accs L) n)
  obtain ⟨r, hr2⟩ : ∃ r, r = fi (accs L) n := ⟨_, rfl⟩
  rw [← hr2] at FI HK
  clear hr2 hr hb
  cases hk : known (accs L) n with
  | true =>
    have j : (0 : Int) ≤ r := HK.out.2 hk
    clear HK hk
    go_enter Tryz.func104, Tryz.ntmps104
    go_wp2_with (go_at_call 44; refine FI.out.mono ?_; rintro e w2 ⟨rfl, rfl⟩)
    go_ret
    exact ⟨rfl, rfl⟩
  | false =>
    have j : ¬ (0 : Int) ≤ r := fun q => by have := HK.out.1 q; rw [hk] at this; cases this
    have JD := Lib.hid (decide_eq_false j)
    clear HK hk j
    go_enter Tryz.func104, Tryz.ntmps104
    go_wp2_with (go_at_call 44; refine FI.out.mono ?_; rintro e w2 ⟨rfl, rfl⟩)
    go_ret
    exact ⟨congrArg (fun b => Ending.returned (.bool b)) JD.out, rfl⟩
set_option maxHeartbeats 8000000 in
set_option maxRecDepth 100000 in
theorem rMember_any {w : World} {p : Nat} {T : List Acc} (h : Rt w p T) (gd : Gd T) (u g : ByteArray) :
    Calls Tryz.prog 106 #[.pointer (some ⟨p, 0, none⟩), .string u, .string g] w fun e w' => e = .returned (.bool (member T u g)) ∧ w' = w := by
  obtain ⟨sl, L, hb, hr, rfl, hL, hF⟩ := h
  have c0 : w.cell? ⟨p, 0, none⟩ = some sl := by rw [cell_of_row w p 0 _ _ (0, 0) hb]; rfl
  have FU := Lib.hid (rfind_any w sl L u hr (by omega))
  have FG := Lib.hid (rfind_any w sl L g hr (by omega))
  obtain ⟨sa, sc, rfl⟩ := own_sl hr.row
  obtain ⟨z, hz⟩ : ∃ z, z = member (accs L) u g := ⟨_, rfl⟩
  rw [← hz]
  cases hku : known (accs L) u with
  | false =>
    rw [member_no_u gd hku] at hz
    subst hz
    have j := fi_no_lt hku
    obtain ⟨r, hr2⟩ : ∃ r, r = fi (accs L) u := ⟨_, rfl⟩
    obtain ⟨r3, hr3⟩ : ∃ r, r = fi (accs L) g := ⟨_, rfl⟩
    rw [← hr2] at FU j
    rw [← hr3] at FG
    clear hr2 hr3 hr hb hku gd
    go_enter Tryz.func106, Tryz.ntmps106
    go_wp2_with (first | (go_at_call 44; ((with_reducible refine FU.out.mono ?_)); rintro e w2 ⟨rfl, rfl⟩) | (go_at_call 44; refine FG.out.mono ?_; rintro e w2 ⟨rfl, rfl⟩))
    go_ret
    exact ⟨rfl, rfl⟩
  | true =>
  cases hkg : known (accs L) g with
  | false =>
    rw [member_no_g hkg] at hz
    subst hz
    have j := fi_no_lt hkg
    have j2 := fi_yes_ge hku
    obtain ⟨r, hr2⟩ : ∃ r, r = fi (accs L) u := ⟨_, rfl⟩
    obtain ⟨r3, hr3⟩ : ∃ r, r = fi (accs L) g := ⟨_, rfl⟩
    rw [← hr2] at FU j2
    rw [← hr3] at FG j
    clear hr2 hr3 hr hb hku hkg gd
    go_enter Tryz.func106, Tryz.ntmps106
    go_wp2_with (first | (go_at_call 44; ((with_reducible refine FU.out.mono ?_)); rintro e w2 ⟨rfl, rfl⟩) | (go_at_call 44; refine FG.out.mono ?_; rintro e w2 ⟨rfl, rfl⟩))
    go_ret
    exact ⟨rfl, rfl⟩
  | true =>
    obtain ⟨i, hi⟩ := known_place hku
    obtain ⟨j, hj⟩ := known_place hkg
    obtain ⟨hjk, he⟩ := member_at gd hi hj
    rw [fi_some hi] at FU
    rw [fi_some hj] at FG
    have hjl : j < L.length := by rw [accs_length] at hjk; exact hjk
    rw [accs_get hjl] at he
    obtain ⟨gb, rfl, d0, d1, d2, d3⟩ := hr.at' hjl
    have hme := hr.mem _ (List.getElem_mem hjl)
    obtain ⟨va, vc, hms⟩ := hme.slice
    have hml := (hF _ (List.getElem_mem hjk)).2.2.2.2
    rw [accs_get hjl] at hml
    have HASX : Hid (Calls Tryz.prog 93 #[L[j].2, .string u] w fun e w' => e = .returned (.bool (memB u L[j].1.members)) ∧ w' = w) := by
      rw [hms] at hme ⊢
      have := rhas_any w va vc L[j].1.members L[j].1.members.length u hme (Nat.le_refl _) vc (by omega)
      rwa [List.take_length] at this
    obtain ⟨⟨⟨an, al, am, ak⟩, av⟩, hx⟩ : ∃ x, x = L[j] := ⟨_, rfl⟩
    rw [← hx] at d0 d1 d2 d3 HASX he hms
    simp only at d0 d1 d2 d3 HASX he hms
    subst hms
    have e1 : ¬ (i : Int) < 0 := by omega
    have e2 : ¬ (j : Int) < 0 := by omega
    have e3 : (0 : Int) ≤ (j : Int) := by omega
    have e4 : (j : Int) < (L.length : Int) := by omega
    rw [← hz] at he
    clear hz hme hml hx hku hkg hi hj hjk hr hb hF gd
    by_cases hij : i = j
    · subst hij
      have hv : z = true := by rw [he]; simp
      subst hv
      clear he
      go_enter Tryz.func106, Tryz.ntmps106
      go_wp2_with (first | (go_at_call 44; ((with_reducible refine FU.out.mono ?_)); rintro e w2 ⟨rfl, rfl⟩) | (go_at_call 44; refine FG.out.mono ?_; rintro e w2 ⟨rfl, rfl⟩))
      go_ret
      exact ⟨rfl, rfl⟩
    · have hv : z = memB u am := by rw [he, decide_eq_false hij]; rfl
      rw [← hv] at HASX
      have b1 : ((i : Int) == (j : Int)) = false := by rw [beq_eq_false_iff_ne]; omega
      clear he hv hij
      go_enter Tryz.func106, Tryz.ntmps106
      go_wp2_with (first | (go_at_call 44; ((with_reducible refine FU.out.mono ?_)); rintro e w2 ⟨rfl, rfl⟩) | (go_at_call 44; refine FG.out.mono ?_; rintro e w2 ⟨rfl, rfl⟩) | (go_at_call 93; refine HASX.out.mono ?_; rintro e w2 ⟨rfl, rfl⟩))
      go_ret
      exact ⟨rfl, rfl⟩
end Us
end Go.Proofs.YtahjmpfjidijaaaGreatDoor
