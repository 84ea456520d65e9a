/- What put of nodes does: one more node, with the next path. -/
import Derived.Test.YtihkldcdikbinaaNsn
import Derived.Deep.RegionHeld3
namespace Go.Proofs.Ytihkldcdikbinaa
set_option linter.unusedVariables false
open Go.RowKit
namespace Nd
open Go.Proofs.Ytihkldcdikbinaa.Utf Go.Proofs.Ytihkldcdikbinaa.Txt Go.PlainAid Go.Proofs.Ytihkldcdikbinaa.Mpf

/-- The kinds of maps. -/
noncomputable def nK : MapK Try.prog 30 Nat := numK Try.underlying30
def ptr (b : Nat) : Value := .pointer (some ⟨b, 0, none⟩)
/-- A store's own cells. -/
def stL (lk : Int) (most next bn : Nat) (ps : Value) (bc : Nat) : Array Value := #[.int .i32 lk, .int .u32 0, .int .i64 most, .int .u64 next, .map (some bn), ps, .map (some bc)]
abbrev StAt (w : World) (p : Nat) (lk : Int) (most next bn : Nat) (ps : Value) (bc : Nat) : Prop := Bx w p 93 (stL lk most next bn ps bc)
structure StC (w : World) (p : Nat) (lk : Int) (most next bn : Nat) (ps : Value) (bc : Nat) : Prop where
  c0 : w.cell? ⟨p, 0, none⟩ = some (.int .i32 lk)
  c2 : w.cell? ⟨p, 2, none⟩ = some (.int .i64 most)
  c3 : w.cell? ⟨p, 3, none⟩ = some (.int .u64 next)
  c4 : w.cell? ⟨p, 4, none⟩ = some (.map (some bn))
  c5 : w.cell? ⟨p, 5, none⟩ = some ps
  c6 : w.cell? ⟨p, 6, none⟩ = some (.map (some bc))
theorem StAt.cells {w : World} {p : Nat} {lk : Int} {most next bn : Nat} {ps : Value} {bc : Nat} (h : StAt w p lk most next bn ps bc) : StC w p lk most next bn ps bc :=
  ⟨h.cell 0 rfl, h.cell 2 rfl, h.cell 3 rfl, h.cell 4 rfl, h.cell 5 rfl, h.cell 6 rfl⟩
theorem row_ne {w : World} {v : Value} {n : Nat} {xs : List Value} (h : w.ownsRow 0 30 1 v n xs) {p : Nat} {cs : Array Value} {t : TypeId} (hp : Bx w p t cs) (ht : t ≠ 30) : ∀ g, v.ownBlock = some g → g ≠ p := by
  intro g hg e
  subst e
  rcases h.2 with ⟨rfl, _⟩ | ⟨g', cap, cur, rfl, _, hc, _⟩
  · cases hg
  · cases hg
    rw [show w.heap[g']? = _ from hp] at hc
    cases hc
    exact ht rfl
theorem row_ne_map {k : TypeId} {K : Type} {M : MapK Try.prog k K} {w : World} {b m : Nat} {f : K → Option Value} (hm : Mp M w b m f) {v : Value} {n : Nat} {xs : List Value} (h : w.ownsRow 0 30 1 v n xs) : ∀ g, v.ownBlock = some g → g ≠ b := by
  intro g hg e
  subst e
  rcases h.2 with ⟨rfl, _⟩ | ⟨g', cap, cur, rfl, _, hc, _⟩
  · cases hg
  · cases hg
    exact hm.ne hc rfl
theorem row_ne_obj {w : World} {v : Value} {n : Nat} {xs : List Value} (h : w.ownsRow 0 30 1 v n xs) {m : Nat} {es : Array MapEntry} {c : Nat} (hm : w.heap[m]? = some (.map es c)) : ∀ g, v.ownBlock = some g → g ≠ m := by
  intro g hg e
  subst e
  rcases h.2 with ⟨rfl, _⟩ | ⟨g', cap, cur, rfl, _, hc, _⟩
  · cases hg
  · cases hg
    rw [hm] at hc
    cases hc
/-- All that put leaves, behind its last append. -/
structure PutEnd (w w3 w4 : World) (p : Nat) (lk : Int) (most next bn bc : Nat) (ps : Value) (d : Is) (n n1 : Nat) (xs : List Value) (f : Nat → Option Value) (b m g cap : Nat) : Prop where
  st : StAt w4 p lk most (next + 1) bn ps bc
  row : w4.ownsRow 0 30 1 (.slice (some ⟨g, 0, none⟩) (n + 1) cap) (n + 1) (xs ++ [.int .u64 next])
  map : Mp nK w4 bn (n1 + 1) (upd f next (some (ptr b)))
  node : Bx w4 b 105 (nodeC { d with path := next } 0 (.slice none 0 0) m)
  data : w4.heap[m]? = some (.map #[] 0)
  lb : w.heap.size ≤ b
  lm : w.heap.size ≤ m
  ne : b ≠ m
  lp : p < w.heap.size
  lg : ps.ownBlock = some g ∨ w.heap.size ≤ g
  k : Kept (p :: bn :: ps.ownBlock.toList) w w4
theorem row_kept {S : List Nat} {w w' : World} {v : Value} {n : Nat} {xs : List Value} (h : w.ownsRow 0 30 1 v n xs) (k : Kept S w w') (hn : ∀ g, v.ownBlock = some g → g ∉ S) : w'.ownsRow 0 30 1 v n xs := by
  refine ⟨h.1, ?_⟩
  rcases h.2 with h2 | ⟨g, cap, cur, rfl, hb, hc, hr⟩
  · exact Or.inl h2
  · exact Or.inr ⟨g, cap, cur, rfl, hb, (k.block g (block_lt hc) (hn g rfl)).trans hc, hr⟩

set_option maxRecDepth 100000 in
set_option maxHeartbeats 8000000 in
theorem put_any (w : World) (p : Nat) (lk : Int) (most next bn bc : Nat) (ps : Value) (d : Is) (n n1 : Nat) (xs : List Value) (f : Nat → Option Value)
    (hp : StAt w p lk most next bn ps bc) (hr : w.ownsRow 0 30 1 ps n xs) (hm : Mp nK w bn n1 f) (hf : f next = none) (hn : n < 1000000000) (hx : next < 1000000000000) :
    Calls Try.prog 35 #[.pointer (some ⟨p, 0, none⟩), .agg (isL d 0).toArray] w fun e w' => e = .returned (.int .u64 next) ∧ ∃ ps' b m, StAt w' p lk most (next + 1) bn ps' bc ∧ w'.ownsRow 0 30 1 ps' (n + 1) (xs ++ [.int .u64 next]) ∧
      Mp nK w' bn (n1 + 1) (upd f next (some (ptr b))) ∧ Bx w' b 105 (nodeC { d with path := next } 0 (.slice none 0 0) m) ∧ w'.heap[m]? = some (.map #[] 0) ∧ w.heap.size ≤ b ∧ w.heap.size ≤ m ∧ b ≠ m ∧
      (ps'.ownBlock = ps.ownBlock ∨ ∃ g, ps'.ownBlock = some g ∧ w.heap.size ≤ g) ∧ Kept (p :: bn :: ps.ownBlock.toList) w w' := by
  have NEW := Lib.hid (fun w => newNode_any w { d with path := next })
  simp only [isL] at NEW ⊢
  obtain ⟨-, c2, c3, c4, c5, c6⟩ := StAt.cells hp
  have hpl := hp.lt
  have hpn : p ≠ w.heap.size := Nat.ne_of_lt hpl
  have fz := hp.frozen
  go_enter Try.func35, Try.ntmps35
  go_wp2_with fail
  obtain ⟨w1, hw1⟩ : ∃ w1, w1 = (w.setCell ⟨p, 3, none⟩ (.int .u64 ((next : Int) + 1))).alloc (.cells #[.int .u64 next, .int .u64 d.parent, .string d.name, .int .u32 d.mode, .string d.uid, .string d.gid, .string d.muid, .int .u32 d.atime, .int .u32 d.mtime, .int .u32 d.vers, .int .u64 d.length, .int .i64 d.opens, .int .i64 0] 41) := ⟨_, rfl⟩
  have P1 : Hid (StAt w1 p lk most (next + 1) bn ps bc) := by rw [hw1]; exact (hp.set 3 _).alloc _
  have B1 : Hid (Bx w1 w.heap.size 41 (isL { d with path := next } 0).toArray) := by rw [hw1]; exact alloc_new _ _ _ (by simp [World.setCell])
  have K1 : Hid (Kept [p] w w1) := by rw [hw1]; exact ((Kept.refl [p] w).setCell (p := ⟨p, 3, none⟩) (Or.inl (by simp)) _).alloc _
  have R1 : Hid (w1.ownsRow 0 30 1 ps n xs) := row_kept hr K1.out (fun g hg hm => row_ne hr hp (by decide) g hg (by simpa using hm))
  have M1 : Hid (Mp nK w1 bn n1 f) := hm.kept K1.out (fun h => hm.ne hp (by simpa using h))
  have S1 : Hid (w.heap.size < w1.heap.size) := by rw [hw1]; show _ < _; simp [World.setCell]
  rw [← hw1]
  clear hw1 c2 c3 c4 c5 c6
  obtain ⟨-, c2, c3, c4, c5, c6⟩ := P1.out.cells
  have SL : Hid (∀ w', StAt w' p lk most (next + 1) bn ps bc → Bx w' w.heap.size 41 (isL { d with path := next } 0).toArray → w'.cell? ⟨p, 4, none⟩ = some (Value.map (some bn)) ∧ w'.cell? ⟨w.heap.size, 0, none⟩ = some (Value.int .u64 next) ∧ w'.cell? ⟨w.heap.size, 1, none⟩ = some (Value.int .u64 d.parent) ∧ w'.cell? ⟨w.heap.size, 2, none⟩ = some (Value.string d.name) ∧ w'.cell? ⟨w.heap.size, 3, none⟩ = some (Value.int .u32 d.mode) ∧ w'.cell? ⟨w.heap.size, 4, none⟩ = some (Value.string d.uid) ∧ w'.cell? ⟨w.heap.size, 5, none⟩ = some (Value.string d.gid) ∧ w'.cell? ⟨w.heap.size, 6, none⟩ = some (Value.string d.muid) ∧ w'.cell? ⟨w.heap.size, 7, none⟩ = some (Value.int .u32 d.atime) ∧ w'.cell? ⟨w.heap.size, 8, none⟩ = some (Value.int .u32 d.mtime) ∧ w'.cell? ⟨w.heap.size, 9, none⟩ = some (Value.int .u32 d.vers) ∧ w'.cell? ⟨w.heap.size, 10, none⟩ = some (Value.int .u64 d.length) ∧ w'.cell? ⟨w.heap.size, 11, none⟩ = some (Value.int .i64 d.opens) ∧ w'.cell? ⟨w.heap.size, 12, none⟩ = some (Value.int .i64 0)) := fun w' a b => by
    obtain ⟨b0, b1, b2, b3, b4, b5, b6, b7, b8, b9, b10, b11, b12⟩ := IsC.of b
    exact ⟨a.cells.c4, b0, b1, b2, b3, b4, b5, b6, b7, b8, b9, b10, b11, b12⟩
  have hpb : Hid (p ≠ bn) := fun e => hm.ne hp e.symm
  have hBb : Hid (w.heap.size ≠ bn) := fun e => by have := hm.lt; omega
  clear c2 c3 c4 c5 c6
  go_region_held3 (fun w' => w'.cell? ⟨p, 4, none⟩ = some (Value.map (some bn)) ∧ w'.cell? ⟨w.heap.size, 0, none⟩ = some (Value.int .u64 next) ∧ w'.cell? ⟨w.heap.size, 1, none⟩ = some (Value.int .u64 d.parent) ∧ w'.cell? ⟨w.heap.size, 2, none⟩ = some (Value.string d.name) ∧ w'.cell? ⟨w.heap.size, 3, none⟩ = some (Value.int .u32 d.mode) ∧ w'.cell? ⟨w.heap.size, 4, none⟩ = some (Value.string d.uid) ∧ w'.cell? ⟨w.heap.size, 5, none⟩ = some (Value.string d.gid) ∧ w'.cell? ⟨w.heap.size, 6, none⟩ = some (Value.string d.muid) ∧ w'.cell? ⟨w.heap.size, 7, none⟩ = some (Value.int .u32 d.atime) ∧ w'.cell? ⟨w.heap.size, 8, none⟩ = some (Value.int .u32 d.mtime) ∧ w'.cell? ⟨w.heap.size, 9, none⟩ = some (Value.int .u32 d.vers) ∧ w'.cell? ⟨w.heap.size, 10, none⟩ = some (Value.int .u64 d.length) ∧ w'.cell? ⟨w.heap.size, 11, none⟩ = some (Value.int .i64 d.opens) ∧ w'.cell? ⟨w.heap.size, 12, none⟩ = some (Value.int .i64 0)) (first | exact SL.out _ (Bx.drew P1.out) (Bx.drew B1.out) | exact SL.out _ P2.out B2.out | exact SL.out _ P3.out B3.out) (first | (go_at_call 60; refine (NEW.out _).mono ?_; rintro e w2 ⟨b, m, rfl, hb, hmm, lb, lm, hne, k2⟩; have P2 : Hid (StAt w2 p lk most (next + 1) bn ps bc) := (Bx.drew P1.out).kept k2 (fun h => by cases h); have B2 := Lib.hid ((Bx.drew B1.out).kept k2 (fun h => by cases h)); obtain ⟨w3, hU, hM, k3, hs3⟩ := (M1.out.drew.kept k2 (fun h => by cases h)).update Try.underlying83 (x := next) (show next < _ by omega) (ptr b); have hU2 : (Instr.mapUpdate 83 (.map (some bn)) (.int .u64 next) (.pointer (some ⟨b, 0, none⟩))).run Try.prog w2 = .ok () w3 := hU; clear hU; have P3 := Lib.hid (P2.out.kept k3 (fun h => hpb.out (by simpa using h))); have B3 := Lib.hid (B2.out.kept k3 (fun h => hBb.out (by simpa using h)))))
  have hbl : bn < w1.heap.size := M1.out.lt
  have s1 := S1.out
  have lb' : w1.heap.size ≤ b := lb
  have lm' : w1.heap.size ≤ m := lm
  have N3 : Hid (Bx w3 b 105 (nodeC { d with path := next } 0 (.slice none 0 0) m)) := Bx.kept hb k3 (fun h => by simp at h; omega)
  have A3 : Hid (w3.heap[m]? = some (.map #[] 0)) := (k3.block m (Array.getElem?_eq_some_iff.1 hmm).1 (fun h => by simp at h; omega)).trans hmm
  have K2 : Hid (Kept [p] w w2) := K1.out.drew.trans k2 (fun i hi => by cases hi)
  have K3 : Hid (Kept [p, bn] w w3) := (K2.out.mono (fun i hi => Or.inl (by simp at hi; simp [hi]))).trans k3 (fun i hi => Or.inl (by simp at hi; simp [hi]))
  have R3 : Hid (w3.ownsRow 0 30 1 ps n xs) := row_kept hr K3.out (fun g hg h => by
    simp only [List.mem_cons, List.not_mem_nil, or_false] at h
    rcases h with h | h
    · exact row_ne hr hp (by decide) g hg h
    · exact row_ne_map hm hr g hg h)
  have M3 : Hid (Mp nK w3 bn (n1 + 1) (upd f next (some (ptr b)))) := by rw [hf] at hM; exact hM
  have L3 : Hid (b < w3.heap.size ∧ m < w3.heap.size ∧ w.heap.size ≤ b ∧ w.heap.size ≤ m ∧ b ≠ m ∧ w1.heap.size ≤ w3.heap.size ∧ w.heap.size < w1.heap.size) := ⟨N3.out.lt, (Array.getElem?_eq_some_iff.1 A3.out).1, by omega, by omega, hne, Nat.le_trans k2.size k3.size, s1⟩
  clear hU2 k2 hb hmm hM k3 hs3 lb lm hne hbl s1 lb' lm' K2 P2 B2
  rename_i hh
  clear hh
  obtain ⟨-, c2, c3, c4, c5, c6⟩ := StAt.cells P3.out
  have b0 : w3.cell? ⟨w.heap.size, 0, none⟩ = some (.int .u64 next) := B3.out.cell 0 rfl
  have fz3 := P3.out.frozen
  have WITH := Lib.hid (with_any w3.drew ps n next xs R3.out hn)
  have END : Hid (∀ w4 g cap, w4.ownsRow 0 30 1 (.slice (some ⟨g, 0, none⟩) (n + 1) cap) (n + 1) (xs ++ [.int .u64 next]) → Kept ps.ownBlock.toList w3.drew w4 → (ps.ownBlock = some g ∨ w3.heap.size ≤ g) → PutEnd w w3 w4 p lk most next bn bc ps d n n1 xs f b m g cap ∧ w4.cell? ⟨w.heap.size, 0, none⟩ = some (.int .u64 next)) := by
    intro w4 g cap hr4 k4 hg4
    obtain ⟨l1, l2, l3, l4, l5, l6, l7⟩ := L3.out
    have nin : ∀ q, (∀ g, ps.ownBlock = some g → g ≠ q) → q ∉ ps.ownBlock.toList := fun q hq hm => hq q (by simpa using hm) rfl
    refine ⟨⟨(Bx.drew P3.out).kept k4 (nin p (row_ne hr hp (by decide))), hr4, M3.out.drew.kept k4 (nin bn (row_ne_map hm hr)), (Bx.drew N3.out).kept k4 (nin b (row_ne R3.out N3.out (by decide))), (k4.block m l2 (nin m (row_ne_obj R3.out A3.out))).trans A3.out, l3, l4, l5, hpl, hg4.imp id (fun h => by omega), ?_⟩, ((Bx.drew B3.out).kept k4 (nin _ (row_ne R3.out B3.out (by decide)))).cell 0 rfl⟩
    exact (K3.out.drew.mono (fun i hi => Or.inl (by simp at hi ⊢; rcases hi with h | h <;> simp [h]))).trans k4 (fun i hi => Or.inl (by simp at hi ⊢; simp [hi]))
  go_wp2_with fail
  go_region_with (go_at_call 61; refine WITH.out.mono ?_; rintro e w4 ⟨g, cap, rfl, hr4, k4, hg4, lg4⟩; obtain ⟨E4, b04⟩ := END.out w4 g cap hr4 k4 hg4; have p4 := E4.st.cell 5 (v := ps) rfl; have fz4 := E4.st.frozen; have hl4 := E4.lp; clear hr4 k4 hg4 lg4)
  all_goals
    go_wp2_with fail
    go_ret
    have hpn4 : p ≠ w.heap.size := Nat.ne_of_lt E4.lp
    have kp : Kept [p] w4 (w4.setCell ⟨p, 5, none⟩ (.slice (some ⟨g, 0, none⟩) (n + 1) cap)) := (Kept.refl [p] w4).setCell (p := ⟨p, 5, none⟩) (Or.inl (by simp)) _
    refine ⟨rfl, .slice (some ⟨g, 0, none⟩) (n + 1) cap, b, m, E4.st.set 5 _, ?_, ?_, ?_, ?_, E4.lb, E4.lm, E4.ne, ?_, ?_⟩
    · exact row_kept E4.row kp (fun q hq h => by rw [List.mem_singleton] at h; exact row_ne E4.row E4.st (by decide) q hq h)
    · exact E4.map.kept kp (fun h => by rw [List.mem_singleton] at h; exact E4.map.ne E4.st h)
    · exact E4.node.kept kp (fun h => by rw [List.mem_singleton] at h; have := E4.lb; have := E4.lp; omega)
    · exact (kp.block m (Array.getElem?_eq_some_iff.1 E4.data).1 (fun h => by rw [List.mem_singleton] at h; have := E4.lm; have := E4.lp; omega)).trans E4.data
    · rcases E4.lg with h | h
      · exact Or.inl h.symm
      · exact Or.inr ⟨g, rfl, h⟩
    · exact E4.k.trans kp (fun i hi => Or.inl (by rw [List.mem_singleton] at hi; simp [hi]))
end Nd
end Go.Proofs.Ytihkldcdikbinaa
