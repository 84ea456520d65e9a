/- users: an account copied; slices.Clone. -/
import Derived.Test.YteeheapenfklcaaGreatDoorUkn
import Derived.Test.YteeheapenfklcaaGreatDoorLaw
namespace Go.Proofs.YteeheapenfklcaaGreatDoor
set_option linter.unusedVariables false
open Go.RowKit Go.Shelf
attribute [local go_sem] Oper.semAt_some
namespace Us
open Go.Proofs.YteeheapenfklcaaGreatDoor.Utf Go.Proofs.YteeheapenfklcaaGreatDoor.Txt Go.PlainAid

theorem clone_any (w : World) (v : Value) (ms : List ByteArray) (hm : Mem w v ms) (hl : ms.length ≤ 1048576) :
    Calls Tryz.prog 88 #[v] w fun e w' => ∃ v', e = .returned v' ∧ Mem w' v' ms ∧ Kept [] w w' ∧ ∀ b, v'.ownBlock = some b → w.heap.size ≤ b := by
  rcases hm.2 with ⟨rfl, h0⟩ | ⟨g, cap, cur, rfl, h⟩
  · have : ms = [] := List.eq_nil_of_length_eq_zero h0
    subst this
    refine (Tryz.slices_Clone_string_nil 0 0 w).mono ?_
    rintro e w' ⟨rfl, rfl⟩
    exact ⟨_, rfl, World.ownsRow_nil _ _ _ _, Kept.refl _ _, fun b h => by cases h⟩
  · refine (Tryz.slices_Clone_string g 0 ms.length cap ms w (Nat.le_refl _) (by omega) (fun j hj => ?_)).mono ?_
    · have := World.ownsRow.cellAt hm j (by omega)
      rw [Nat.zero_add, this]
      simp [sv, hj]
    · rintro e w' ⟨v', rfl, ho, hne, hB⟩
      rw [List.take_length] at ho
      refine ⟨v', rfl, ⟨ho.1, ?_⟩, Kept.of_below hB _, fun b hb => (ho.lt b hb).1⟩
      rcases ho.2 with q | ⟨g', cap', cur', e, q1, q⟩
      · exact Or.inl q
      · exact Or.inr ⟨g', cap', cur', e, Nat.zero_le _, q⟩
set_option maxHeartbeats 2000000 in
set_option maxRecDepth 100000 in
theorem copied_any (w : World) (a : Acc) (v : Value) (hm : Mem w v a.members) (hl : a.members.length ≤ 1048576) :
    Calls Tryz.prog 55 #[accV a.name a.leader a.key v] w fun e w' => ∃ v', e = .returned (accV a.name a.leader a.key v') ∧ Mem w' v' a.members ∧ Kept [] w w' ∧ ∀ b, v'.ownBlock = some b → w.heap.size ≤ b := by
  obtain ⟨name, leader, ms, key⟩ := a
  simp only at hm hl ⊢
  obtain ⟨va, vc, rfl⟩ := hm.slice
  unfold accV
  have CL := Lib.hid (fun (w' : World) (k : Kept [] w w') => clone_any w' _ ms (hm.kept0 k) hl)
  have kA : Kept [] w ((w.alloc (.cells #[.string name, .string leader, .slice va ms.length vc, .string key] 35)).alloc (.cells #[.string ⟨#[]⟩, .string ⟨#[]⟩, .slice none 0 0, .string ⟨#[]⟩] 35)) := ((Kept.refl _ _).alloc _).alloc _
  have b1 : ((w.alloc (.cells #[.string name, .string leader, .slice va ms.length vc, .string key] 35)).alloc (.cells #[.string ⟨#[]⟩, .string ⟨#[]⟩, .slice none 0 0, .string ⟨#[]⟩] 35)).heap[w.heap.size]? = some (.cells #[.string name, .string leader, .slice va ms.length vc, .string key] 35 (0, 0)) := (Below.heap_alloc _ _ _ (by simp)).trans (MapKept.heap_alloc w _).1
  have b2 : ((w.alloc (.cells #[.string name, .string leader, .slice va ms.length vc, .string key] 35)).alloc (.cells #[.string ⟨#[]⟩, .string ⟨#[]⟩, .slice none 0 0, .string ⟨#[]⟩] 35)).heap[w.heap.size + 1]? = some (.cells #[.string ⟨#[]⟩, .string ⟨#[]⟩, .slice none 0 0, .string ⟨#[]⟩] 35 (0, 0)) := by
    have := (MapKept.heap_alloc (w.alloc (.cells #[.string name, .string leader, .slice va ms.length vc, .string key] 35)) (.cells #[.string ⟨#[]⟩, .string ⟨#[]⟩, .slice none 0 0, .string ⟨#[]⟩] 35)).1
    rwa [World.size_alloc] at this
  have KA := Lib.hid kA
  have B1 := Lib.hid b1
  have B2 := Lib.hid b2
  clear kA b1 b2 hm
  go_enter Tryz.func55, Tryz.ntmps55
  go_wp2_with (go_at_call 88; refine (CL.out _ KA.out).mono ?_; rintro e w2 ⟨v', rfl, m2, k2, f2⟩; obtain ⟨q0, q1, q2, q3, qf⟩ := four ((k2.block _ (block_lt B1.out) (by simp)).trans B1.out); obtain ⟨r0, r1, r2, r3, rf⟩ := four ((k2.block _ (block_lt B2.out) (by simp)).trans B2.out); obtain ⟨vb, vd, rfl⟩ := m2.slice)
  obtain ⟨R1, hR1⟩ : ∃ R, R = w.heap.size := ⟨_, rfl⟩
  have bR1 := (k2.block _ (block_lt B1.out) (by simp)).trans B1.out
  have bR2 := (k2.block _ (block_lt B2.out) (by simp)).trans B2.out
  rw [← hR1] at bR1 bR2 q0 q1 q2 q3 r0 r1 r2 r3 ⊢
  obtain ⟨wf, hwf⟩ : ∃ wf, wf = (((((w2.setCell ⟨R1, 2, none⟩ (.slice vb ms.length vd)).setCell ⟨R1 + 1, 0, none⟩ (.string name)).setCell ⟨R1 + 1, 1, none⟩ (.string leader)).setCell ⟨R1 + 1, 2, none⟩ (.slice vb ms.length vd)).setCell ⟨R1 + 1, 3, none⟩ (.string key)) := ⟨_, rfl⟩
  have bF : wf.heap[R1 + 1]? = some (.cells #[.string name, .string leader, .slice vb ms.length vd, .string key] 35 (0, 0)) := by
    have x0 : (w2.setCell ⟨R1, 2, none⟩ (.slice vb ms.length vd)).heap[R1 + 1]? = some (.cells #[.string ⟨#[]⟩, .string ⟨#[]⟩, .slice none 0 0, .string ⟨#[]⟩] 35 (0, 0)) := (Below.heap_setCell _ _ _ _ (by simp)).trans bR2
    rw [hwf, heap_set (i := 3) (Value.string key) (heap_set (i := 2) (Value.slice vb ms.length vd) (heap_set (i := 1) (Value.string leader) (heap_set (i := 0) (Value.string name) x0)))]
    simp
  have kF : Kept [R1, R1 + 1] w2 wf := by
    rw [hwf]
    exact (((((Kept.refl _ w2).setCell (p := ⟨R1, 2, none⟩) (Or.inl (by simp)) _).setCell (p := ⟨R1 + 1, 0, none⟩) (Or.inl (by simp)) _).setCell (p := ⟨R1 + 1, 1, none⟩) (Or.inl (by simp)) _).setCell (p := ⟨R1 + 1, 2, none⟩) (Or.inl (by simp)) _).setCell (p := ⟨R1 + 1, 3, none⟩) (Or.inl (by simp)) _
  have kW : Kept [] w wf := (KA.out.trans k2 (fun i hi => by simp at hi)).trans kF (fun i hi => by simp at hi; omega)
  have nR : ∀ b, (Value.slice vb ms.length vd).ownBlock = some b → b ∉ [R1, R1 + 1] := fun b hb hm => by
    obtain ⟨cs, hc⟩ := own_type m2 b hb
    simp at hm
    rcases hm with rfl | rfl
    · rw [bR1] at hc; cases hc
    · rw [bR2] at hc; cases hc
  have hz := KA.out.size
  have ff : ∀ b, (Value.slice vb ms.length vd).ownBlock = some b → w.heap.size ≤ b := fun b hb => Nat.le_trans hz (f2 b hb)
  obtain ⟨g0, g1, g2, g3, -⟩ := four bF
  rw [← hwf]
  clear hwf q0 q1 q2 q3 qf r0 r1 r2 r3 rf
  refine bodyPost_ret (v := .agg #[.string name, .string leader, .slice vb ms.length vd, .string key]) (by simp [results, Tryz.results55, go_sem, g0, g1, g2, g3]) rfl ⟨_, rfl, m2.kept kF nR, kW, (fun b hb => by rw [hR1]; exact ff b hb)⟩
end Us
end Go.Proofs.YteeheapenfklcaaGreatDoor
