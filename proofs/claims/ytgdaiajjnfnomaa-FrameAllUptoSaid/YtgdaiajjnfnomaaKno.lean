/- The document's first example, run by the code. -/
import Derived.Test.YtgdaiajjnfnomaaFed
import Derived.Test.YtgdaiajjnfnomaaSam
namespace Go.Proofs.Ytgdaiajjnfnomaa
set_option linter.unusedVariables false
open Go.RowKit

/-- A block of bytes that was just laid can be read. -/
theorem src_of_block {w : World} {B : Nat} {l : List UInt8} {cs : Array Value} {t : TypeId} (h : w.heap[B]? = some (.cells cs t (0, 0))) (hc : cs = (l.map bv).toArray) (c : Nat) : Src w (.slice (some ⟨B, 0, none⟩) l.length c) l [B] := by
  subst hc
  refine ⟨_, _, rfl, (fun e => by cases e), fun ad e => ?_⟩
  cases e
  exact ⟨fun _ => by simp, fun j u hu => World.news_of_block h j u (by simpa using hu)⟩
theorem RestOut.ct {w w1 w' : World} {p : Nat} {S : List Nat} {st : CS} (h : RestOut w1 p S st w') (k : Kept [] w w1) : ∃ S', Hid (Ct w' p S' st) ∧ Hid (Kept S w w') ∧ Hid (∀ k ∈ S', k ∈ S ∨ w.heap.size ≤ k) := (h.after k)

namespace Law
open Cut

def s0 : CS := ⟨512, [], 0, 0, false⟩
def s1 : CS := ⟨512, [7, 0, 0, 0, 120, 1, 0], 7, 0, false⟩
def s2 : CS := ⟨512, [], 7, 1, false⟩
def s3 : CS := ⟨512, [8], 8, 1, false⟩
theorem ok0 : s0.Ok := ⟨by decide, by decide, fun _ h => absurd h (by decide), fun h => absurd h (by decide)⟩
theorem ok1 : s1.Ok := ⟨by decide, by decide, fun _ _ => by decide, fun h => absurd h (by decide)⟩
theorem ok2 : s2.Ok := ⟨by decide, by decide, fun _ h => absurd h (by decide), fun h => absurd h (by decide)⟩
theorem ok3 : s3.Ok := ⟨by decide, by decide, fun _ h => absurd h (by decide), fun h => absurd h (by decide)⟩
theorem k01 : s0.feedK [7, 0, 0, 0, 120, 1, 0, 8] = 7 := by decide
theorem f01 : s0.fedS [7, 0, 0, 0, 120, 1, 0, 8] = s1 := rfl
theorem k11 : s1.feedK [8] = 0 := by decide
theorem f11 : s1.fedS [8] = s1 := rfl
theorem k23 : s2.feedK [8] = 1 := by decide
theorem f23 : s2.fedS [8] = s3 := rfl
theorem g12 : s1.got = [7, 0, 0, 0, 120, 1, 0] := rfl
theorem n12 : s1.next = s2 := rfl

/-- A new list at a cutter's side. -/
theorem lay {w : World} {p : Nat} {S : List Nat} {st : CS} (h : Hid (Ct w p S st)) (l : List UInt8) (cs : Array Value) (t : TypeId) (hc : cs = (l.map bv).toArray) (c : Nat) :
    Hid (Ct (w.alloc (.cells cs t)) p S st) ∧ Hid (Src (w.alloc (.cells cs t)) (.slice (some ⟨w.heap.size, 0, none⟩) l.length c) l [w.heap.size]) ∧ Hid (∀ k ∈ [w.heap.size], k ∉ S) :=
  ⟨h.out.kept ((Kept.refl [] w).alloc _) (fun _ _ hm => by simp at hm), src_of_block (heap_alloc_new w _) hc c, fun k hk hm => by simp at hk; have := h.out.lt k hm; omega⟩

set_option maxRecDepth 100000 in
set_option maxHeartbeats 1000000 in
theorem known_any (w : World) : Calls Try.prog 4 #[] w fun e w' => e = .returned (.bool true) ∧ Kept [] w w' := by
  go_enter Try.func4, Try.ntmps4
  go_wp2_with fail
  refine (new_good w _ 512 rfl (by decide) (by decide)).mono ?_
  rintro e w1 ⟨rfl, h1, k1⟩
  have K1 := Lib.hid k1
  clear k1
  obtain ⟨p, hp⟩ : ∃ p, p = w.heap.size := ⟨_, rfl⟩
  rw [← hp] at h1 ⊢
  have HP := Lib.hid hp
  clear hp
  go_wp2_with fail
  obtain ⟨hA, sA, dA⟩ := lay h1 [7, 0, 0, 0, 120, 1, 0, 8] #[.int .u8 7, .int .u8 0, .int .u8 0, .int .u8 0, .int .u8 120, .int .u8 1, .int .u8 0, .int .u8 8] 5 rfl 8
  refine (feed_any _ p [p] _ s0 (some ⟨w1.heap.size, 0, none⟩) 8 [7, 0, 0, 0, 120, 1, 0, 8] (by decide) (by decide) (by decide) (by decide) ok0 sA dA hA).mono ?_
  rintro e w2 ⟨rfl, h2⟩
  rw [k01]
  rw [f01] at h2
  obtain ⟨S2, c2, k2, s2'⟩ := h2.ct ((Kept.refl [] w1).alloc _)
  clear h2 hA sA dA
  go_wp2_with fail
  refine (whole_any _ p S2 s1 ok1 c2).mono ?_
  rintro e w3 ⟨rfl, k3⟩
  have c3 : Hid (Ct w3 p S2 s1) := c2.out.kept k3 (fun _ _ hm => by simp at hm)
  have K3 := Lib.hid k3
  clear k3
  rw [show s1.whole = true from by decide]
  go_wp2_with fail
  obtain ⟨hA, sA, dA⟩ := lay c3 [8] #[.int .u8 8] 5 rfl 1
  refine (feed_any _ p S2 _ s1 (some ⟨w3.heap.size, 0, none⟩) 1 [8] (by decide) (by decide) (by decide) (by decide) ok1 sA dA hA).mono ?_
  rintro e w4 ⟨rfl, h4⟩
  rw [k11]
  rw [f11] at h4
  obtain ⟨S4, c4, k4, s4⟩ := h4.ct ((Kept.refl [] w3).alloc _)
  clear h4 hA sA dA
  go_wp2_with fail
  refine (next_any _ p S4 s1 ok1 (by decide) c4).mono ?_
  rintro e w5 ⟨v5, S5, rfl, o5, c5, k5, s5⟩
  rw [show s1.whole = true from by decide]
  rw [g12] at o5
  rw [n12] at c5
  obtain ⟨a5, q5, rfl⟩ := own_slice o5.out
  have hv5 : Hid (∀ k, (Value.slice a5 [7, 0, 0, 0, 120, 1, 0].length q5).ownBlock = some k → k ∉ S4) := fun k hk hm => by
    have h1 := (o5.out.lt k hk).1
    have h2 := c4.out.lt k hm
    omega
  go_wp2_with fail
  obtain ⟨hA, sA, dA⟩ := lay c5 [7, 0, 0, 0, 120, 1, 0] #[.int .u8 7, .int .u8 0, .int .u8 0, .int .u8 0, .int .u8 120, .int .u8 1, .int .u8 0] 5 rfl 7
  have g5 : Hid (Seg (w5.alloc (.cells #[.int .u8 7, .int .u8 0, .int .u8 0, .int .u8 0, .int .u8 120, .int .u8 1, .int .u8 0] 5)) (.slice a5 [7, 0, 0, 0, 120, 1, 0].length q5) [7, 0, 0, 0, 120, 1, 0] (Value.slice a5 [7, 0, 0, 0, 120, 1, 0].length q5).ownBlock.toList) := (Seg.of_own o5.out).kept ((Kept.refl [] w5).alloc _) (fun _ _ hm => by simp at hm)
  refine (Lst.same_src _ _ _ [7, 0, 0, 0, 120, 1, 0] [7, 0, 0, 0, 120, 1, 0] _ _ (by decide) g5 sA).mono ?_
  rintro e w6 ⟨rfl, k6⟩
  rw [show decide ([7, 0, 0, 0, 120, 1, 0] = ([7, 0, 0, 0, 120, 1, 0] : List UInt8)) = true from by decide]
  have c6 : Hid (Ct w6 p S5 s2) := hA.out.kept k6 (fun _ _ hm => by simp at hm)
  have K6 : Hid (Kept [] w5 w6) := ((Kept.refl [] w5).alloc _).trans k6 (fun i hi => by simp at hi)
  clear hA sA dA k6 g5
  go_wp2_with fail
  obtain ⟨hA, sA, dA⟩ := lay c6 [8] #[.int .u8 8] 5 rfl 1
  refine (feed_any _ p S5 _ s2 (some ⟨w6.heap.size, 0, none⟩) 1 [8] (by decide) (by decide) (by decide) (by decide) ok2 sA dA hA).mono ?_
  rintro e w7 ⟨rfl, h7⟩
  rw [k23]
  rw [f23] at h7
  obtain ⟨S7, c7, k7, s7⟩ := h7.ct ((Kept.refl [] w6).alloc _)
  clear h7 hA sA dA
  go_wp2_with fail
  refine (want_any _ p S7 s3 ok3 c7).mono ?_
  rintro e w8 ⟨rfl, k8⟩
  have c8 : Hid (Ct w8 p S7 s3) := c7.out.kept k8 (fun _ _ hm => by simp at hm)
  have K8 := Lib.hid k8
  clear k8
  rw [show s3.want = 3 from by decide]
  go_wp2_with fail
  refine (taken_any _ p S7 s3 c8).mono ?_
  rintro e w9 ⟨rfl, rfl⟩
  rw [show s3.taken = 1 from rfl]
  go_wp2_with fail
  go_ret
  have z1 := K1.out.size
  have hpw := HP.out
  have A2 : Kept [] w w2 := K1.out.trans k2.out (fun i hi => Or.inr (by simp at hi; omega))
  have A3 := A2.trans K3.out (fun i hi => by simp at hi)
  have b2 : ∀ k ∈ S2, w.heap.size ≤ k := fun k hk => by
    rcases s2'.out k hk with q | q
    · simp at q; omega
    · omega
  have A4 := A3.trans k4.out (fun i hi => Or.inr (b2 i hi))
  have z3 := A3.size
  have b4 : ∀ k ∈ S4, w.heap.size ≤ k := fun k hk => by
    rcases s4.out k hk with q | q
    · exact b2 k q
    · omega
  have A5 := A4.trans k5.out (fun i hi => Or.inr (b4 i hi))
  have A6 := A5.trans K6.out (fun i hi => by simp at hi)
  have A7 := A6.trans k7.out (fun i hi => Or.inr (b4 i (s5.out i hi)))
  exact ⟨rfl, A7.trans K8.out (fun i hi => by simp at hi)⟩

end Law
end Go.Proofs.Ytgdaiajjnfnomaa
