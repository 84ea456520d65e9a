/- Lists of bytes in memory: those that can be read ('Src', 'Seg'), those that the call owns ('Own'); what slices.Clone does. -/
import Derived.Test.YthiojjmmcdoiiaaKept
import Derived.Test.YthiojjmmcdoiiaaProg
import Derived.RangeFuncFrom
import Derived.RegionTactic
import Derived.ChangeAlike
import Derived.Deep.RegionLaw
import Derived.Deep.AppendLies
import Derived.Maps.AppendAt
import Derived.Laws.AppendOwnNone
import Derived.Lib.SliceRun
import Derived.LoopTactic
import Derived.WalkKit
import Derived.WalkSmall
import Derived.Lib.Hide
import Derived.Deep.QuietTactic
import Derived.BigQuiet
import Derived.Deep.RegionWith
import Derived.Deep.Onto
namespace Go.Proofs.Ythiojjmmcdoiiaa
set_option linter.unusedVariables false
open Go.RowKit

def bv (b : UInt8) : Value := .int .u8 b.toNat
def iv (n : Nat) : Value := .int .i64 n
theorem ownsRow_kept {w w' : World} {S : List Nat} {base : Nat} {e : TypeId} {size : Nat} {v : Value} {n : Nat} {xs : List Value} (h : w.ownsRow base e size v n xs) (hk : Kept S w w') (hd : ∀ k, v.ownBlock = some k → k ∉ S) : w'.ownsRow base e size v n xs := by
  refine ⟨h.1, ?_⟩
  rcases h.2 with h2 | ⟨g, cap, cur, rfl, a1, a2, a3, a4, a5, a6⟩
  · exact Or.inl h2
  · exact Or.inr ⟨g, cap, cur, rfl, a1, (hk.block g (block_lt a2) (hd g rfl)).trans a2, a3, a4, a5, a6⟩
/-- An owned row's block is none of another type. -/
theorem own_neB {w : World} {base : Nat} {e t : TypeId} {size : Nat} {v : Value} {n p : Nat} {xs : List Value} {cs : Array Value} (h : w.ownsRow base e size v n xs) (hp : w.heap[p]? = some (.cells cs t (0, 0))) (hne : e ≠ t) : ∀ k, v.ownBlock = some k → k ≠ p := by
  intro k hk he
  subst he
  rcases h.2 with ⟨rfl, _⟩ | ⟨g, cap, cur, rfl, hb, hgg, _⟩
  · simp [Value.ownBlock] at hk
  · simp [Value.ownBlock] at hk
    subst hk
    rw [hgg] at hp
    simp at hp
    exact hne hp.2
/-- A row's value is a slice of its length. -/
theorem own_slice {w : World} {base : Nat} {e : TypeId} {size : Nat} {v : Value} {n : Nat} {xs : List Value} (h : w.ownsRow base e size v n xs) : ∃ a c, v = .slice a n c := by
  rcases h.2 with ⟨rfl, rfl⟩ | ⟨g, cap, cur, rfl, _⟩
  · exact ⟨_, _, rfl⟩
  · exact ⟨_, _, rfl⟩
/-- Bytes that can be read: a slice's value and where it lies (T: its blocks). -/
def Src (w : World) (v : Value) (bs : List UInt8) (T : List Nat) : Prop :=
  ∃ a c, v = .slice a bs.length c ∧ (a = none → bs = [] ∧ c = 0) ∧ ∀ ad, a = some ad → (0 < bs.length → ad.block ∈ T) ∧ ∀ j u, (bs.map bv)[j]? = some u → w.cell? (ad.add j) = some u
theorem add_block (a : Addr) (j : Nat) : (a.add j).block = a.block := by unfold Addr.add; split <;> rfl
theorem pos_of {bs : List UInt8} {j : Nat} {u : Value} (h : (bs.map bv)[j]? = some u) : 0 < bs.length := by
  cases bs with
  | nil => simp at h
  | cons a l => simp
theorem Src.kept {w w' : World} {v : Value} {bs : List UInt8} {T S : List Nat} (h : Src w v bs T) (hk : Kept S w w') (hd : ∀ k ∈ T, k ∉ S) : Src w' v bs T := by
  obtain ⟨a, c, h1, h2, h3⟩ := h
  refine ⟨a, c, h1, h2, fun ad e => ⟨(h3 ad e).1, fun j u hu => ?_⟩⟩
  have hc := (h3 ad e).2 j u hu
  have hlt := World.block_lt_of_cell? w _ hc
  rw [← hc]
  exact World.cell?_of_block (hk.block _ hlt (by rw [add_block]; exact hd _ ((h3 ad e).1 (pos_of hu))))
theorem Src.of_own {w : World} {v : Value} {bs : List UInt8} {base : Nat} (h : w.ownsRow base 5 1 v bs.length (bs.map bv)) : Src w v bs v.ownBlock.toList := by
  have hc := fun g => h.cells (g := g)
  rcases h.2 with ⟨rfl, h0⟩ | ⟨g, cap, cur, rfl, _⟩
  · exact ⟨none, 0, by rw [h0], fun _ => ⟨List.eq_nil_of_length_eq_zero h0, rfl⟩, fun ad e => by cases e⟩
  · refine ⟨_, _, rfl, fun e => (by cases e), fun ad e => ?_⟩
    cases e
    exact ⟨fun _ => by simp [Value.ownBlock], hc g rfl⟩
/-- Bytes that can be read, a part of an array. -/
def Seg (w : World) (v : Value) (bs : List UInt8) (T : List Nat) : Prop :=
  (v = .slice none 0 0 ∧ bs = []) ∨ ∃ b o c, v = .slice (some ⟨b, o, none⟩) bs.length c ∧ bs.length ≤ c ∧ (0 < bs.length → b ∈ T) ∧ ∀ j u, (bs.map bv)[j]? = some u → w.cell? ⟨b, o + j, none⟩ = some u
theorem Seg.kept {w w' : World} {v : Value} {bs : List UInt8} {T S : List Nat} (h : Seg w v bs T) (hk : Kept S w w') (hd : ∀ k ∈ T, k ∉ S) : Seg w' v bs T := by
  rcases h with h | ⟨b, o, c, h1, h2, h3, h4⟩
  · exact Or.inl h
  · refine Or.inr ⟨b, o, c, h1, h2, h3, fun j u hu => ?_⟩
    have hc := h4 j u hu
    rw [← hc]
    exact World.cell?_of_block (hk.block _ (World.block_lt_of_cell? w _ hc) (hd b (h3 (pos_of hu))))
theorem Seg.src {w : World} {v : Value} {bs : List UInt8} {T : List Nat} (h : Seg w v bs T) : Src w v bs T := by
  rcases h with ⟨rfl, rfl⟩ | ⟨b, o, c, rfl, h2, h3, h4⟩
  · exact ⟨none, 0, rfl, fun _ => ⟨rfl, rfl⟩, fun ad e => by cases e⟩
  · refine ⟨_, _, rfl, (fun e => by cases e), fun ad e => ?_⟩
    cases e
    exact ⟨h3, fun j u hu => by rw [Addr.add_lit]; exact h4 j u hu⟩
theorem Seg.of_own {w : World} {v : Value} {bs : List UInt8} {base : Nat} (h : w.ownsRow base 5 1 v bs.length (bs.map bv)) : Seg w v bs v.ownBlock.toList := by
  have hc := fun g => h.cells (g := g)
  rcases h.2 with ⟨rfl, h0⟩ | ⟨g, cap, cur, rfl, _, _, hn, _⟩
  · exact Or.inl ⟨rfl, List.eq_nil_of_length_eq_zero h0⟩
  · refine Or.inr ⟨g, 0, cap, rfl, hn, (fun _ => by simp [Value.ownBlock]), fun j u hu => ?_⟩
    have := hc g rfl j u hu
    rwa [Addr.add_lit] at this
theorem Seg.empty (w : World) (T : List Nat) : Seg w (.slice none 0 0) [] T := Or.inl ⟨rfl, rfl⟩
theorem Seg.slice {w : World} {v : Value} {bs : List UInt8} {T : List Nat} (h : Seg w v bs T) : ∃ a c, v = .slice a bs.length c := by
  rcases h with ⟨rfl, rfl⟩ | ⟨b, o, c, rfl, _⟩
  · exact ⟨_, _, rfl⟩
  · exact ⟨_, _, rfl⟩
/-- What is right behind its place stands, cut. -/
theorem Seg.take {w : World} {b o c n : Nat} {bs : List UInt8} {T : List Nat} (h : Seg w (.slice (some ⟨b, o, none⟩) bs.length c) bs T) (hn : n ≤ bs.length) : Seg w (.slice (some ⟨b, o, none⟩) n c) (bs.take n) T := by
  rcases h with ⟨h, _⟩ | ⟨b', o', c', h1, h2, h3, h4⟩
  · cases h
  · cases h1
    refine Or.inr ⟨b, o, c, by simp [Nat.min_eq_left hn], by simp; omega, (fun hp => h3 (Nat.lt_of_lt_of_le hp (by rw [List.length_take]; exact Nat.min_le_right _ _))), fun j u hu => h4 j u ?_⟩
    rw [List.map_take, List.getElem?_take] at hu
    split at hu
    · exact hu
    · cases hu
theorem Seg.drop {w : World} {b o c n : Nat} {bs : List UInt8} {T : List Nat} (h : Seg w (.slice (some ⟨b, o, none⟩) bs.length c) bs T) (hn : n ≤ bs.length) (a : Addr) (ha : a = ⟨b, o, none⟩ ∧ c = n ∨ a = ⟨b, o + n, none⟩) :
    Seg w (.slice (some a) (bs.length - n) (c - n)) (bs.drop n) T := by
  rcases h with ⟨h, _⟩ | ⟨b', o', c', h1, h2, h3, h4⟩
  · cases h
  · cases h1
    rcases ha with ⟨rfl, rfl⟩ | rfl
    · have e : bs.drop c = [] := List.drop_eq_nil_of_le h2
      refine Or.inr ⟨b, o, 0, by rw [e]; simp; omega, by rw [e]; simp, (fun hp => by rw [e] at hp; simp at hp), fun j u hu => by rw [e] at hu; simp at hu⟩
    · refine Or.inr ⟨b, o + n, c - n, by simp, by simp; omega, (fun hp => h3 (by rw [List.length_drop] at hp; omega)), fun j u hu => ?_⟩
      rw [List.map_drop, List.getElem?_drop] at hu
      rw [Nat.add_assoc]
      exact h4 (n + j) u hu
/-- A slice's cells, one by one. -/
theorem seg_cells {w : World} {v : Value} {bs : List UInt8} {T : List Nat} (h : Seg w v bs T) (hl : 0 < bs.length) : ∃ b o c, v = .slice (some ⟨b, o, none⟩) bs.length c ∧ ∀ j (hj : j < bs.length), w.cell? ⟨b, o + j, none⟩ = some (.int .u8 (bs[j]).toNat) := by
  rcases h with ⟨rfl, rfl⟩ | ⟨b, o, c, rfl, _, _, h4⟩
  · simp at hl
  · exact ⟨b, o, c, rfl, fun j hj => h4 j _ (by rw [List.getElem?_map, List.getElem?_eq_getElem hj]; rfl)⟩
theorem src_slice {w : World} {v : Value} {bs : List UInt8} {T : List Nat} (h : Src w v bs T) : ∃ a c, v = .slice a bs.length c := by
  obtain ⟨a, c, h1, _⟩ := h
  exact ⟨a, c, h1⟩
theorem src_cells {w : World} {v : Value} {bs : List UInt8} {T : List Nat} (h : Src w v bs T) (hl : 0 < bs.length) : ∃ b o c, v = .slice (some ⟨b, o, none⟩) bs.length c ∧ ∀ j (hj : j < bs.length), w.cell? ⟨b, o + j, none⟩ = some (.int .u8 (bs[j]).toNat) := by
  obtain ⟨a, c, h1, h2, h3⟩ := h
  cases a with
  | none => have := (h2 rfl).1; rw [this] at hl; simp at hl
  | some ad =>
    obtain ⟨b, o, sp⟩ := ad
    have hc : ∀ j (hj : j < bs.length), w.cell? ((⟨b, o, sp⟩ : Addr).add j) = some (.int .u8 (bs[j]).toNat) := fun j hj => (h3 _ rfl).2 j _ (by rw [List.getElem?_map, List.getElem?_eq_getElem hj]; rfl)
    have hs : sp = none := by simpa [Addr.add] using World.cell?_spot (hc 0 hl)
    subst hs
    exact ⟨b, o, c, h1, fun j hj => by have := hc j hj; rwa [Addr.add_lit] at this⟩
/-- A list of the call's own. -/
def Own (w : World) (B : Nat) (v : Value) (bs : List UInt8) : Prop := w.ownsRow B 5 1 v bs.length (bs.map bv)
/-- A new list came out. -/
def Fresh (w : World) (bs : List UInt8) (e : Ending) (w' : World) : Prop := ∃ v', e = .returned v' ∧ Hid (Own w' w.heap.size v' bs) ∧ Kept [] w w'
theorem info_u8 : (Try.prog.info? 5).map (fun i => (i.zero, i.size, i.bytes)) = some (some (.int .u8 0), 1, 1) := by kernel_rfl
theorem info_sl : (Try.prog.info? 45).map (fun i => (i.zero, i.size, i.bytes)) = some (some (.slice none 0 0), 1, 24) := by kernel_rfl
set_option maxRecDepth 100000 in
/-- slices.Clone at []byte. -/
theorem clone_any (w : World) (v : Value) (bs : List UInt8) (T : List Nat) (hsz : bs.length ≤ 1152921504606) (hb : Hid (Src w v bs T)) :
    Calls Try.prog 70 #[v] w (Fresh w bs) := by
  obtain ⟨i0, hi, hz0, hz1, hz2⟩ := info_parts info_u8
  obtain ⟨a, c, rfl, hno, hcl⟩ := hb.out
  cases a with
  | none =>
    obtain ⟨rfl, rfl⟩ := hno rfl
    clear hno hcl hb hsz
    have hq := fun w => Lib.run_eql_slice_nil (P := Try.prog) w 45 5 none 0 0 0 0 Try.underlying45
    go_enter Try.func70, Try.ntmps70
    go_wp2_with fail
    go_ret
    exact ⟨_, rfl, World.ownsRow_nil _ _ _ _, Kept.refl _ _⟩
  | some ad =>
    have Hcl := Lib.hid (hcl ad rfl).2
    clear hno hcl
    have hq := fun w => Lib.run_eql_slice_nil (P := Try.prog) w 45 5 (some ad) bs.length c 0 0 Try.underlying45
    have how : (w.alloc (.cells #[] 5)).ownsRow w.heap.size 5 1 (.slice (some ⟨w.heap.size, 0, none⟩) 0 0) 0 [] := World.ownsRow_made w #[] 0 (Nat.le_refl _) (by decide) rfl
    have Hcl2 : Hid (∀ j u, (bs.map bv)[j]? = some u → (w.alloc (.cells #[] 5)).cell? (ad.add j) = some u) := fun j u hu => by
      have := Hcl.out j u hu
      rw [← this]
      exact World.cell?_of_block (Below.heap_alloc _ _ _ (World.block_lt_of_cell? w _ this))
    have How := Lib.hid how
    clear how
    go_enter Try.func70, Try.ntmps70
    go_wp2_with (at_builtin; refine wpList_append_own_at _ rfl (.tmp 5) (.tmp 6) 45 rfl w.heap.size 5 i0 (.int .u8 0) 1 1 Try.underlying45 hi hz0 hz1 hz2 rfl (by decide) _ _ _ rfl How.out ad _ _ (bs.map bv) rfl (by simp) Hcl2.out (by intro u hu; obtain ⟨x, _, rfl⟩ := List.mem_map.1 hu; rfl) (by unfold maxLen; omega) (by omega) (by simp) ?_; intro v' w2 hown hgrow _ hat; have R1 : Hid (Own w2 w.heap.size v' bs) := (by simpa [Own, Hid] using hown); have R2 : Hid (Kept [] w w2) := ((Kept.refl [] w).alloc _).grown hgrow (by intro k hk; cases hk; exact Or.inr (Nat.le_refl _)); clear hown hgrow hat)
    go_ret
    exact ⟨_, rfl, R1, R2⟩
end Go.Proofs.Ythiojjmmcdoiiaa
