/- What slices.Grow of the nil slice and slices.Concat of two lists do. -/
import Derived.Test.YtgdaiajjnfnomaaCts
import Derived.Lib.AppendZerosOnto
namespace Go.Proofs.Ytgdaiajjnfnomaa
set_option linter.unusedVariables false
open Go.RowKit
theorem wpList_append_run {P : Program} {ops : Array Oper} {rest : List Oper} {o : Oper} {a : Act} {w : World} {Q : Exit → Act → World → Prop} (hgd : o.guard = none) (s x : Operand) (t u : TypeId)
    (ho : o.op = .call { callee := .builtin .append, args := #[s, x], argTypes := #[t, u] }) (v y r : Value) (w' : World) (hs : a.eval s = v) (hx : a.eval x = y) (hr : (Builtin.append_ #[t, u] o.type #[v, y]).run P w = .ok r w')
    (h : wpList P ops Q rest (a.put o.dst r) w') : wpList P ops Q (o :: rest) a w := by
  refine wpList_plain hgd fun K hK => ?_
  unfold Oper.wp execOp
  simp only [ho, resolve, invoke, builtin, Sem.run_bind, Sem.run_pure, Result.andThen_ok, List.map_toArray, List.map_cons, List.map_nil, hs, hx, hr]
  exact hK _ _ h
namespace Cut

theorem grow_nil (w : World) (x : Int) (n : Nat) (hx : x = n) (hn : n ≤ 1152921504606) :
    Calls Try.prog 32 #[.slice none 0 0, .int .i64 x] w fun e w' => ∃ v, e = .returned v ∧ Hid (w'.ownsRow w.heap.size 5 1 v 0 []) ∧ Kept [] w w' := by
  subst hx
  obtain ⟨i0, hi, hz0, hz1, hz2⟩ := info_parts info_u8
  by_cases h0 : n = 0
  · subst h0
    go_enter Try.func32, Try.ntmps32
    go_wp2_with fail
    go_ret
    exact ⟨_, rfl, World.ownsRow_nil _ _ _ _, Kept.refl _ _⟩
  · have j1 : (0 : Int) < (n : Int) := by omega
    have hold : (Builtin.firstCells i0.size 0 (.slice none 0 0)).run Try.prog w.drew = .ok (List.toArray []) w.drew := run_firstCells_none w.drew i0.size 0 0 0
    have hb : Builtin.nextslicecap (0 + n) 0 * i0.bytes ≤ 281474976710656 := growslice_fits (by omega) (by rw [hz2]; omega)
    have hrz := fun ty => Lib.run_append_grow_zeros w 22 3 ty 5 i0 (.int .u8 0) .i64 .i64 Try.underlying22 Try.underlying3 hi hz0 none 0 0 [] hold n (by omega) (by rw [hz1]; decide) (by omega) (by omega) (by rw [hz2]; omega) hb
    rw [Nat.zero_add] at hrz
    have hG1 : n ≤ grownCap w n 0 5 := grownCap_ge w _ _ _
    have hG2 : grownCap w n 0 5 ≤ maxLen := grownCap_le_maxLen w n 0 5 (by unfold maxLen; omega)
    obtain ⟨G, hG⟩ : ∃ G, G = grownCap w n 0 5 := ⟨_, rfl⟩
    obtain ⟨cs, hcs⟩ : ∃ cs, cs = ((List.toArray ([] : List Value)) ++ Builtin.zeroCells (Value.int .u8 0).cells n ++ Builtin.zeroCells (Value.int .u8 0).cells (grownCap w n 0 5 - n)) := ⟨_, rfl⟩
    have hsz : cs.size = grownCap w n 0 5 * 1 := by
      rw [hcs]
      simp [Builtin.zeroCells, Value.cells]
      omega
    rw [← hcs] at hrz
    rw [← hG] at hrz hG1 hG2 hsz
    have hG3 : G ≤ 9223372036854775807 := by unfold maxLen at hG2; omega
    have hg2 := Lib.hid hG2
    have hrzh := Lib.hid hrz
    have hszh := Lib.hid hsz
    clear hG hcs hold hb h0 hG2 hsz hrz
    go_enter Try.func32, Try.ntmps32
    go_wp2_with (at_builtin; refine wpList_append_run rfl (.tmp 20) (.tmp 21) 22 3 rfl _ _ _ _ rfl rfl (hrzh.out _) ?_)
    go_ret
    exact ⟨_, rfl, World.ownsRow_made w.drew cs G (Nat.le_refl _) hg2.out hszh.out, ((Kept.refl _ _).drew).alloc _⟩
/-- What Concat asks of its second list: it is nil, or its bytes can be read. -/
theorem concat_two (w : World) (B : Nat) (ad : Addr) (c1 : Nat) (l1 l2 : List UInt8) (v2 : Value) (T2 : List Nat) (h1 : l1.length ≤ 1152921504) (h2 : l2.length ≤ 1152921504)
    (hB : w.heap[B]? = some (.cells #[.slice (some ad) l1.length c1, v2] 22 (0, 0)))
    (hs1 : Hid (∀ j u, (l1.map bv)[j]? = some u → w.cell? (ad.add j) = some u)) (hs2 : Hid (Seg w v2 l2 T2)) :
    Calls Try.prog 27 #[.slice (some ⟨B, 0, none⟩) 2 2] w (Fresh w (l1 ++ l2)) := by
  obtain ⟨i0, hi, hz0, hz1, hz2⟩ := info_parts info_u8
  obtain ⟨a2, c2, rfl⟩ := hs2.out.slice
  have d0 : w.cell? ⟨B, 0, none⟩ = some (.slice (some ad) l1.length c1) := by rw [cell_of_row w B 0 _ _ (0, 0) hB]; rfl
  have d1 : w.cell? ⟨B, 1, none⟩ = some (.slice a2 l2.length c2) := by rw [cell_of_row w B 1 _ _ (0, 0) hB]; rfl
  have HB := Lib.hid hB
  clear hB
  go_enter Try.func27, Try.ntmps27
  go_wp2_with fail
  refine wp_loop_rounds 3 ?_
  rw [rounds_succ]
  go_wp2_with fail
  rw [rounds_succ]
  go_wp2_with fail
  rw [rounds_succ]
  go_wp2_with fail
  refine (grow_nil w _ (l1.length + l2.length) (by omega) (by omega)).mono ?_
  rintro e w1 ⟨v, rfl, own1, k1⟩
  have hs1' : Hid (∀ j u, (l1.map bv)[j]? = some u → w1.cell? (ad.add j) = some u) := fun j u hu => by
    have := hs1.out j u hu
    rw [← this]
    exact World.cell?_of_block (k1.block _ (World.block_lt_of_cell? w _ this) (by simp))
  have HB1 := (k1.block _ (block_lt HB.out) (by simp)).trans HB.out
  have e0 : w1.cell? ⟨B, 0, none⟩ = some (.slice (some ad) l1.length c1) := by rw [cell_of_row w1 B 0 _ _ (0, 0) HB1]; rfl
  have e1 : w1.cell? ⟨B, 1, none⟩ = some (.slice a2 l2.length c2) := by rw [cell_of_row w1 B 1 _ _ (0, 0) HB1]; rfl
  have hs21 : Hid (Seg w1 (.slice a2 l2.length c2) l2 T2) := hs2.out.kept k1 (fun _ _ hm => by simp at hm)
  have K1 := Lib.hid k1
  have HB1h := Lib.hid HB1
  clear k1 HB1
  obtain ⟨va, vc, rfl⟩ := own_slice own1.out
  go_wp2_with fail
  refine wp_loop_rounds 3 ?_
  rw [rounds_succ]
  go_wp2_with (at_builtin; go_loud (refine wpList_append_own_at _ rfl (.tmp 31) (.tmp 32) 22 rfl w.heap.size 5 i0 (.int .u8 0) 1 1 Try.underlying22 hi hz0 hz1 hz2 rfl (by decide) (.slice va 0 vc) 0 [] rfl own1.out ad _ _ (l1.map bv) rfl (by simp) hs1'.out (by intro u hu; obtain ⟨x, _, rfl⟩ := List.mem_map.1 hu; rfl) (by unfold maxLen; omega) (by omega) (by exact K1.out.size) ?_; intro v' w2 hown hgrow _ hat; have R1 : Hid (w2.ownsRow w.heap.size 5 1 v' l1.length (l1.map bv)) := (by simpa [Hid] using hown); have R2 : Hid (Kept [] w w2 ∧ Kept (Value.slice va 0 vc).ownBlock.toList w1 w2) := ⟨K1.out.grown hgrow (fun k hk => Or.inr (own1.out.lt k hk).1), (Kept.refl _ w1).grown hgrow (fun k hk => Or.inl (by rw [hk]; simp))⟩; clear hown hgrow hat; refine Hid.out ?_))
  have hlB : B < w.heap.size := block_lt HB.out
  have HB2 := (R2.out.1.block _ hlB (by simp)).trans HB.out
  have g1 : w2.cell? ⟨B, 1, none⟩ = some (.slice a2 l2.length c2) := by rw [cell_of_row w2 B 1 _ _ (0, 0) HB2]; rfl
  have hs22 : Hid (Seg w2 (.slice a2 l2.length c2) l2 T2) := hs2.out.kept R2.out.1 (fun _ _ hm => by simp at hm)
  have hsz2 : w.heap.size ≤ w2.heap.size := R2.out.1.size
  clear HB2 e0 e1
  obtain ⟨xa, xc, rfl⟩ := own_slice R1.out
  refine Lib.hid ?_
  go_wp2_with fail
  rw [rounds_succ]
  rcases hs22.out with ⟨hn, hnil⟩ | ⟨b, o, c, hn, hcap, -, hcl⟩
  · obtain rfl : l2 = [] := hnil
    have hn' : a2 = none ∧ c2 = 0 := by simpa using hn
    obtain ⟨rfl, rfl⟩ := hn'
    rw [show (List.length ([] : List UInt8)) = 0 from rfl]
    rw [show (List.length ([] : List UInt8)) = 0 from rfl] at g1
    clear hn hs2 hs21 hs22
    go_wp2_with (at_builtin; refine wpList_append_own_none rfl (.tmp 31) (.tmp 32) 22 rfl w.heap.size 5 i0 1 Try.underlying22 hi _ l1.length _ rfl R1.out rfl ?_)
    rw [rounds_succ]
    go_wp2_with fail
    go_ret
    refine ⟨_, rfl, ?_, R2.out.1⟩
    rw [List.append_nil]
    exact R1.out
  · cases hn
    have Hcl : Hid (∀ j u, (l2.map bv)[j]? = some u → w2.cell? ((⟨b, o, none⟩ : Addr).add j) = some u) := fun j u hu => by rw [Addr.add_lit]; exact hcl j u hu
    clear hcl hcap hs2 hs21 hs22
    go_wp2_with (at_builtin; refine wpList_append_own_at _ rfl (.tmp 31) (.tmp 32) 22 rfl w.heap.size 5 i0 (.int .u8 0) 1 1 Try.underlying22 hi hz0 hz1 hz2 rfl (by decide) _ l1.length _ rfl R1.out ⟨b, o, none⟩ _ _ (l2.map bv) rfl (by simp) Hcl.out (by intro u hu; obtain ⟨x, _, rfl⟩ := List.mem_map.1 hu; rfl) (by unfold maxLen; omega) (by omega) hsz2 ?_; intro v' w3 hown hgrow _ hat; have R3 : Hid (Own w3 w.heap.size v' (l1 ++ l2)) := (by simpa [Own, Hid] using hown); have R4 : Hid (Kept [] w w3) := R2.out.1.grown hgrow (fun k hk => Or.inr (R1.out.lt k hk).1); clear hown hgrow hat; refine Hid.out ?_)
    refine Lib.hid ?_
    go_wp2_with fail
    rw [rounds_succ]
    go_wp2_with fail
    go_ret
    exact ⟨_, rfl, R3, R4.out⟩
end Cut
end Go.Proofs.Ytgdaiajjnfnomaa
