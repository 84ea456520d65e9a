/- users: Groups. -/
import Derived.Test.YteeheapenfklcaaDoorUtx
import Derived.Test.YteeheapenfklcaaDoorLaw
import Derived.Sort.OwnSorted
namespace Go.Proofs.YteeheapenfklcaaDoor
set_option linter.unusedVariables false
open Go.RowKit Go.Shelf
attribute [local go_sem] Oper.semAt_some
namespace Us
open Go.Proofs.YteeheapenfklcaaDoor.Utf Go.Proofs.YteeheapenfklcaaDoor.Txt Go.PlainAid Go.Proofs.YteeheapenfklcaaDoor.Mpf

/-- The groups to which somebody belongs, in the order of the accounts. -/
def gsel (T : List Acc) (u : ByteArray) (pre : List Acc) : List ByteArray := (pre.filter fun a => member T u a.name).map (·.name)
theorem gsel_yes {T : List Acc} {u : ByteArray} (pre : List Acc) {a : Acc} (h : member T u a.name = true) : gsel T u (pre ++ [a]) = gsel T u pre ++ [a.name] := by simp [gsel, List.filter_append, h]
theorem gsel_no {T : List Acc} {u : ByteArray} (pre : List Acc) {a : Acc} (h : member T u a.name = false) : gsel T u (pre ++ [a]) = gsel T u pre := by simp [gsel, List.filter_append, h]
theorem gsel_len (T : List Acc) (u : ByteArray) (pre : List Acc) : (gsel T u pre).length ≤ pre.length := by unfold gsel; rw [List.length_map]; exact List.length_filter_le _ _
theorem info_strg : (Tryd.prog.info? 9).map (fun i => (i.zero, i.size, i.bytes)) = some (some (.string ⟨#[]⟩), 1, 16) := by kernel_rfl
/-- What stands between two rounds. -/
structure GrI (w : World) (b D p : Nat) (T : List Acc) (u : ByteArray) (pre : List Acc) (W : World) : Prop where
  b0 : W.heap[b]? = some (.cells #[.pointer (some ⟨p, 0, none⟩)] 28 (0, 0))
  b1 : W.heap[b + 1]? = some (.cells #[.string u] 9 (0, 0))
  bd : ∃ v, W.heap[b + 2]? = some (.cells #[v] 33 (0, 0)) ∧ W.ownsRow (D + 2) 9 1 v (gsel T u pre).length ((gsel T u pre).map sv)
  kept : Kept [] w W
theorem GrI.stays {w A B : World} {b D p : Nat} {T : List Acc} {u : ByteArray} {pre : List Acc} (hb : b + 3 ≤ D) (hw : w.heap.size ≤ D) (h : GrI w b D p T u pre A) (k : Kept [D, D + 1] A B) : GrI w b D p T u pre B := by
  obtain ⟨v, hv, ho⟩ := h.bd
  refine ⟨(k.block _ (block_lt h.b0) (by simp; omega)).trans h.b0, (k.block _ (block_lt h.b1) (by simp; omega)).trans h.b1, ⟨v, (k.block _ (block_lt hv) (by simp; omega)).trans hv, own_kept ho k (fun g hg hm => ?_)⟩, h.kept.trans k (fun i hi => by simp at hi; omega)⟩
  have := (ho.lt g hg).1
  simp at hm
  omega
theorem sv_enc (l : List ByteArray) : (l.map dl).map Go.Proofs.encStr = l.map sv := by
  rw [List.map_map]
  rfl
/-- The library's sort where it turns nothing. -/
theorem sort_own {W : World} {base : Nat} {v : Value} {G : List ByteArray} (ho : W.ownsRow base 9 1 v G.length (G.map sv)) (hs : (G.map dl).mergeSort (fun x y => decide (x ≤ y)) = G.map dl) (hl : G.length ≤ 65537) :
    Calls Tryd.prog 46 #[v] W fun e w' => e = .returned (.tuple #[]) ∧ w'.ownsRow base 9 1 v G.length (G.map sv) ∧ Kept v.ownBlock.toList W w' := by
  rcases ho.2 with ⟨rfl, h0⟩ | ⟨g, cap, cur, rfl, hbase, hb, h1, h2, h3, h4⟩
  · refine (Tryd.slices_Sort_string_none none 0 W).mono ?_
    rintro e w' ⟨rfl, rfl⟩
    exact ⟨rfl, ho, Kept.refl _ _⟩
  · have e1 : (G.map dl).length = G.length := List.length_map _
    have hg : g < W.heap.size := (Array.getElem?_eq_some_iff.1 hb).1
    have H := Tryd.slices_Sort_string g 0 cap (G.map dl) W (holds_of_block hb (by rw [e1, sv_enc]; simpa using h4)) hg (by rw [e1]; omega)
    rw [e1, hs] at H
    refine H.mono ?_
    rintro e w' ⟨rfl, n, os, rfl⟩
    have R := ownsRow_sorted (n := n) (os := os) (ss := G.map dl) (ts := G.map dl) (e := 9) rfl hbase hb (by rw [e1]; exact h1) h2 h3
    rw [e1, sv_enc] at R
    exact ⟨rfl, R, (Kept.refl _ _).grown (grownBy_sorted _) (fun k e => Or.inl (by cases e; simp [Value.ownBlock]))⟩
theorem GrI.push {w W W4 w5 : World} {b D p : Nat} {T : List Acc} {u : ByteArray} {pre : List Acc} {a : Acc} {v v' : Value} {o : Obj} (hb : b + 4 ≤ D) (hw : w.heap.size = b) (hI : GrI w b D p T u pre W) (hm : member T u a.name = true)
    (hv : W.heap[b + 2]? = some (.cells #[v] 33 (0, 0))) (own : W.ownsRow (D + 2) 9 1 v (gsel T u pre).length ((gsel T u pre).map sv)) (hDW : D + 2 ≤ W.heap.size) (k4 : Kept [] W W4)
    (ho : w5.ownsRow (D + 2) 9 1 v' ((gsel T u pre).length + 1) ((gsel T u pre).map sv ++ [.string a.name])) (hg : (W4.alloc o).grownBy w5 v.ownBlock) :
    (∃ S, Kept S W (w5.setCell ⟨b + 2, 0, none⟩ v') ∧ ∀ i ∈ S, w.heap.size ≤ i ∧ i ≠ D ∧ i ≠ D + 1) ∧ GrI w b D p T u (pre ++ [a]) (w5.setCell ⟨b + 2, 0, none⟩ v') := by
  have dO : ∀ g, v.ownBlock = some g → D + 2 ≤ g := fun g h => (own.lt g h).1
  have dO' : ∀ g, v'.ownBlock = some g → D + 2 ≤ g := fun g h => (ho.lt g h).1
  have kA : Kept (v.ownBlock.toList) W w5 := ((k4.mono (fun i hi => by cases hi)).alloc o).grown hg (fun k e => Or.inl (by rw [e]; simp))
  have nO : b + 2 ∉ v.ownBlock.toList := fun h => by
    have h' : v.ownBlock = some (b + 2) := by simpa using h
    have := dO _ h'
    omega
  have kS : Kept ((b + 2) :: v.ownBlock.toList) W (w5.setCell ⟨b + 2, 0, none⟩ v') := (kA.mono (fun i hi => Or.inl (List.mem_cons_of_mem _ hi))).setCell (Or.inl (by simp)) _
  have h5 := (kA.block _ (block_lt hv) nO).trans hv
  have hS : ∀ i ∈ (b + 2) :: v.ownBlock.toList, i = b + 2 ∨ D + 2 ≤ i := fun i hi => by
    rcases List.mem_cons.1 hi with rfl | hi
    · exact Or.inl rfl
    · exact Or.inr (dO i (by simpa using hi))
  refine ⟨⟨_, kS, fun i hi => by have := hS i hi; omega⟩, ?_, ?_, ⟨v', heap_set _ h5, ?_⟩, hI.kept.trans kS (fun i hi => Or.inr (by have := hS i hi; omega))⟩
  · exact (kS.block _ (block_lt hI.b0) (fun h => by have := hS _ h; omega)).trans hI.b0
  · exact (kS.block _ (block_lt hI.b1) (fun h => by have := hS _ h; omega)).trans hI.b1
  · rw [gsel_yes pre hm]
    have ho2 := own_kept ho ((Kept.refl [b + 2] w5).setCell (p := ⟨b + 2, 0, none⟩) (Or.inl (by simp)) v') (fun g hg hm => by have := dO' g hg; simp at hm; omega)
    simpa [sv] using ho2
theorem own_slg {w : World} {base : Nat} {e : TypeId} {size : Nat} {v : Value} {n : Nat} {xs : List Value} (h : w.ownsRow base e size v n xs) : ∃ a c, v = .slice a n c := by
  rcases h.2 with ⟨rfl, h0⟩ | ⟨g, cap, cur, rfl, _⟩
  · exact ⟨none, 0, by rw [h0]⟩
  · exact ⟨_, _, rfl⟩
theorem GrI.kept5 {W W4 w5 : World} {b D : Nat} {v : Value} {n : Nat} {xs : List Value} {o : Obj} {c : Obj} (hb : b + 4 ≤ D) (hv : W.heap[b + 2]? = some c) (own : W.ownsRow (D + 2) 9 1 v n xs) (k4 : Kept [] W W4) (hg : (W4.alloc o).grownBy w5 v.ownBlock) : w5.heap[b + 2]? = some c := by
  have kA : Kept (v.ownBlock.toList) W w5 := ((k4.mono (fun i hi => by cases hi)).alloc o).grown hg (fun k e => Or.inl (by rw [e]; simp))
  exact (kA.block _ (block_lt hv) (fun h => by
    have h' : v.ownBlock = some (b + 2) := by simpa using h
    have := (own.lt _ h').1
    omega)).trans hv
theorem GrI.cell5 {W W4 w5 : World} {b D : Nat} {v : Value} {n : Nat} {xs : List Value} {o : Obj} (hb : b + 4 ≤ D) (hv : W.heap[b + 2]? = some (.cells #[v] 33 (0, 0))) (own : W.ownsRow (D + 2) 9 1 v n xs) (k4 : Kept [] W W4) (hg : (W4.alloc o).grownBy w5 v.ownBlock) : w5.cell? ⟨b + 2, 0, none⟩ = some v := by
  rw [cell_of_row w5 (b + 2) 0 _ _ (0, 0) (GrI.kept5 hb hv own k4 hg)]
  rfl
theorem GrI.froz5 {W W4 w5 : World} {b D : Nat} {v : Value} {n : Nat} {xs : List Value} {o : Obj} (hb : b + 4 ≤ D) (hv : W.heap[b + 2]? = some (.cells #[v] 33 (0, 0))) (own : W.ownsRow (D + 2) 9 1 v n xs) (k4 : Kept [] W W4) (hg : (W4.alloc o).grownBy w5 v.ownBlock) : w5.frozen? ⟨b + 2, 0, none⟩ = false := frozen_of_row w5 (b + 2) 0 _ _ (GrI.kept5 hb hv own k4 hg)
theorem own_low {w : World} {base : Nat} {e : TypeId} {size : Nat} {v : Value} {n : Nat} {xs : List Value} (h : w.ownsRow base e size v n xs) : w.ownsRow 0 e size v n xs :=
  ⟨h.1, h.2.imp id (fun ⟨g, cap, cur, a0, _, a2⟩ => ⟨g, cap, cur, a0, Nat.zero_le _, a2⟩)⟩
section
variable {w : World} {B p : Nat} {sl : Value} {m1 m2 n2 : Nat} {L : List (Acc × Value)}
set_option maxHeartbeats 8000000 in
set_option maxRecDepth 100000 in
theorem groups_x (h : TbX w B p sl m1 m2 n2 (bel (accs L)) L) (hL : L.length ≤ 65537) (hF : ∀ a ∈ accs L, Fit a) (u : ByteArray) (hu : u.size ≤ maxLen) (hs : ((gsel (accs L) u (accs L)).map dl).mergeSort (fun x y => decide (x ≤ y)) = (gsel (accs L) u (accs L)).map dl) :
    Calls Tryd.prog 17 #[.pointer (some ⟨p, 0, none⟩), .string u] w fun e w' => ∃ v, e = .returned v ∧ Mem w' v (gsel (accs L) u (accs L)) ∧ Kept [] w w' := by
  refine (callsIn_wide (n := 4)).1 ?_
  refine callsIn_of_wp_marks Tryd.func17 rfl trivial ?_ rfl
  simp only [Tryd.ntmps17, List.size_toArray, List.length_cons, List.length_nil, Nat.reduceAdd, Nat.reduceSub, Array.replicate_succ, Array.replicate_zero, List.push_toArray, List.append_toArray, List.nil_append, List.cons_append]
  have AC := Lib.hid (fun w => accounts_any w p)
  gi_wp2_with fail
  obtain ⟨b, hb⟩ : ∃ b, b = w.heap.size := ⟨_, rfl⟩
  obtain ⟨w1, hw1⟩ : ∃ w1, w1 = ((w.alloc (.cells #[.pointer (some ⟨p, 0, none⟩)] 28)).alloc (.cells #[.string u] 9)).alloc (.cells #[.slice none 0 0] 33) := ⟨_, rfl⟩
  have a1 : w1.heap[b + 2]? = some (.cells #[.slice none 0 0] 33 (0, 0)) := by rw [hw1, hb]; have := (MapKept.heap_alloc ((w.alloc (.cells #[.pointer (some ⟨p, 0, none⟩)] 28)).alloc (.cells #[.string u] 9)) (.cells #[.slice none 0 0] 33)).1; simpa using this
  have a2 : w1.heap[b + 1]? = some (.cells #[.string u] 9 (0, 0)) := by
    rw [hw1, hb]
    have := (MapKept.heap_alloc (w.alloc (.cells #[.pointer (some ⟨p, 0, none⟩)] 28)) (.cells #[.string u] 9)).1
    exact (Below.heap_alloc _ _ _ (by simp)).trans (by simpa using this)
  have a3 : w1.heap[b]? = some (.cells #[.pointer (some ⟨p, 0, none⟩)] 28 (0, 0)) := by
    rw [hw1, hb]
    exact (Below.heap_alloc _ _ _ (by simp; omega)).trans ((Below.heap_alloc _ _ _ (by simp)).trans (MapKept.heap_alloc w _).1)
  have k1 : Kept [] w w1 := by rw [hw1]; exact (((Kept.refl _ _).alloc _).alloc _).alloc _
  have z1 : w1.heap.size = b + 3 := by rw [hw1, hb]; simp
  rw [← hw1, ← hb]
  refine ⟨trivial, (callsIn_wide.2 (AC.out w1)).mono ?_⟩
  rintro e w2 ⟨rfl, hw2⟩
  obtain ⟨R, hR⟩ : ∃ R, R = w1.heap.size := ⟨_, rfl⟩
  have r2 : w2.heap[R]? = some (.cells #[.pointer (some ⟨p, 0, none⟩)] 28 (0, 0)) := by rw [hw2, hR]; exact (MapKept.heap_alloc w1 _).1
  have k2 : Kept [] w1 w2 := by rw [hw2]; exact (Kept.refl _ _).alloc _
  have z2 : w2.heap.size = b + 4 := by rw [hw2]; simp; omega
  have K2 : Kept [] w w2 := k1.trans k2 (fun i hi => by cases hi)
  have b2 := (k2.block _ (block_lt a1) (by simp)).trans a1
  have b1 := (k2.block _ (block_lt a2) (by simp)).trans a2
  have b0 := (k2.block _ (block_lt a3) (by simp)).trans a3
  rw [← hR]
  clear hw1 hw2 AC
  have IT := accounts1_iter w w2 K2 R r2 h (by omega) (fun x hx => by have := (hF x.1 (by unfold accs; exact List.mem_map_of_mem hx)).2.2.2.2; omega)
  have HIT : Hid (IterW Fence.wide 3 Tryd.prog 54 #[.pointer (some ⟨R, 0, none⟩)] EA (accs L) w.heap.size w2) := IT
  have I0 : Hid (∀ W', Kept [] w2 W' → GrI w b w2.heap.size p (accs L) u [] W') := fun W' k => ⟨(k.block _ (block_lt b0) (by simp)).trans b0, (k.block _ (block_lt b1) (by simp)).trans b1, ⟨.slice none 0 0, (k.block _ (block_lt b2) (by simp)).trans b2, World.ownsRow_nil _ _ _ _⟩, K2.trans k (fun i hi => by cases hi)⟩
  have HF := Lib.hid hF
  have ME := Lib.hid (fun (w' : World) (k : Kept [] w w') (g : ByteArray) (hg : g.size ≤ maxLen) => member_x (h.kept k) u g hu hg)
  have HB : Hid (b = w.heap.size) := hb
  have HZ2 : Hid (w2.heap.size = b + 4) := z2
  have HSO := Lib.hid hs
  have HLL := Lib.hid hL
  clear hb hR z1 z2 hs hL
  clear IT hF b1 b2 b0 a1 a2 a3 r2 k1 k2 h K2
  gi_wp2_with fail
  refine wpIn_rangeFunc_w (n := 4) rfl (by omega) (gf := 54) (lb := #[.pointer (some ⟨R, 0, none⟩)]) rfl trivial (enters_of Tryd.func54 (by kernel_rfl) rfl)
    HIT.out (Kept.refl [] w2) (by have := HZ2.out; have := HB.out; omega) (fun W x args hE => by obtain ⟨v, rfl, -⟩ := hE; rfl)
    (GrI w b w2.heap.size p (accs L) u) (fun s A B h hk => h.stays (by have := HZ2.out; omega) (by have := HZ2.out; have := HB.out; omega) hk) (fun W' k _ => I0.out W' k)
    (fun m a a' W => ∃ Bx v, (m ≤ Bx ∧ ∀ g, v.ownBlock = some g → g ≠ w2.heap.size + 1) ∧ Hid (W.heap[Bx]? = some (.cells #[.string a.name, .string a.leader, v, .string a.key] 45 (0, 0))) ∧ Hid (Mem W v a.members) ∧ a' = { tmps := #[.pointer (some ⟨p, 0, none⟩), .string u, .pointer (some ⟨b, 0, none⟩), .pointer (some ⟨b + 1, 0, none⟩), .slice none 0 0, .pointer (some ⟨b + 2, 0, none⟩), .pointer (some ⟨Bx, 0, none⟩), .pointer (some ⟨p, 0, none⟩), .func (.func 54) #[] #[.pointer (some ⟨R, 0, none⟩)], accV a.name a.leader a.key v, undef, undef, undef, undef, undef, undef, undef, undef, undef, undef, undef, undef, undef], defers := [] })
    ?ax ?assign ?body ?done
  case ax =>
    rintro m a a' A C ⟨Bx, v, h1, h2, h3, h4⟩ hk hm
    exact ⟨Bx, v, h1, (hk.block _ (block_lt h2.out) (by have := h1.1; simp; omega)).trans h2.out, h3.out.kept hk (fun g hg hm2 => by simp at hm2; exact h1.2 g hg hm2), h4⟩
  case assign =>
    rintro l ⟨an, al, am, ak⟩ args W K hle hnr ⟨v, rfl, hm⟩ hK
    obtain ⟨va, vc, rfl⟩ := hm.slice
    have hK2 := Lib.hid (hK _ _ ((Kept.refl [] W).alloc (.cells #[.string an, .string al, .slice va am.length vc, .string ak] 45)) ⟨W.heap.size, _, ⟨Nat.le_refl _, fun g hg e => by subst e; obtain ⟨cs, hc⟩ := own_type hm _ hg; exact hnr _ _ _ hc⟩, (MapKept.heap_alloc W _).1, hm.kept0 ((Kept.refl [] W).alloc _), rfl⟩)
    unfold accV at hK2 ⊢
    simp only at hK2 ⊢
    gi_wp2_with fail
    exact hK2.out
  case body =>
    rintro l pre ⟨an, al, am, ak⟩ a' Wb W hle hI hkb ⟨Bx, v, h1, h2, h3, rfl⟩ hpre hn0 hn1
    have hfit := HF.out ⟨an, al, am, ak⟩ (hpre.subset (by simp))
    have hplen : pre.length ≤ 65537 := by
      have h5 := hpre.length_le
      have h6 := HLL.out
      rw [accs_length, List.length_append] at h5
      simp at h5
      omega
    have hgl := gsel_len (accs L) u pre
    have MEM := Lib.hid (ME.out W hI.kept an (by have := hfit.1; simp only at this; unfold maxLen; omega))
    obtain ⟨v0, hv0, own0⟩ := hI.bd
    obtain ⟨sa, sc, rfl⟩ := own_slg own0
    have hsb := hkb.size
    have c0 : W.cell? ⟨b, 0, none⟩ = some (.pointer (some ⟨p, 0, none⟩)) := by rw [cell_of_row W b 0 _ _ (0, 0) hI.b0]; rfl
    have c1 : W.cell? ⟨b + 1, 0, none⟩ = some (.string u) := by rw [cell_of_row W (b + 1) 0 _ _ (0, 0) hI.b1]; rfl
    obtain ⟨q0, q1, q2, q3, -⟩ := four h2.out
    obtain ⟨mb, hmb⟩ : ∃ m, m = member (accs L) u an := ⟨_, rfl⟩
    have hmb2 : (bel (accs L) (u, an) || (decide (u = an) && known (accs L) u)) = mb := by rw [hmb]; rfl
    rw [hmb2] at MEM
    have HI := Lib.hid hI
    have HV := Lib.hid hv0
    have OW := Lib.hid own0
    have HMB := Lib.hid hmb
    have HSB : Hid (w2.heap.size + 2 ≤ W.heap.size) := by show _ ≤ _; omega
    have HGL : Hid ((gsel (accs L) u pre).length ≤ 65537) := by show _ ≤ _; omega
    clear hmb hmb2 hv0 own0 hI hn0 hn1 hpre hfit hsb hkb hle h1 hgl hplen
    gi_wp2_with fail
    refine ⟨trivial, (CallsIn.inRound l (callsIn_wide.2 MEM.out)).mono ?_⟩
    rintro e w4 ⟨rfl, k4⟩
    have d2 : w4.cell? ⟨b + 2, 0, none⟩ = some (.slice sa (gsel (accs L) u pre).length sc) := by rw [cell_of_row w4 (b + 2) 0 _ _ (0, 0) ((k4.block _ (block_lt HV.out) (by simp)).trans HV.out)]; rfl
    obtain ⟨q0, q1, q2, q3, -⟩ := four ((k4.block _ (block_lt h2.out) (by simp)).trans h2.out)
    have K4 := Lib.hid k4
    clear k4 MEM c0 c1
    cases mb with
    | false =>
      have FIN : Hid (wPost (GrI w b w2.heap.size p (accs L) u) w.heap.size w2.heap.size (pre ++ [⟨an, al, am, ak⟩]) W .normal { tmps := #[], defers := [] } w4) := by
        refine ⟨⟨[], K4.out, fun i hi => by cases hi⟩, ?_⟩
        have := HI.out.stays (by have := HZ2.out; omega) (by have := HZ2.out; have := HB.out; omega) (K4.out.mono (fun i hi => by cases hi))
        exact ⟨this.b0, this.b1, by rw [gsel_no pre HMB.out.symm]; exact this.bd, this.kept⟩
      gi_wp2_with fail
      exact FIN.out
    | true =>
      have O4 := Lib.hid (own_kept OW.out K4.out (fun g hg hm => by cases hm))
      have hbase : w2.heap.size + 2 ≤ (w4.alloc (.cells #[.string an] 9)).heap.size := by have := HSB.out; have := K4.out.size; simp; omega
      obtain ⟨i0, hi⟩ : ∃ i, Tryd.prog.info? 9 = some i := by
        have := info_strg
        cases hx : Tryd.prog.info? 9 with
        | none => rw [hx] at this; cases this
        | some i => exact ⟨i, rfl⟩
      have hz := info_strg
      rw [hi] at hz
      simp only [Option.map_some, Option.some.injEq, Prod.mk.injEq] at hz
      obtain ⟨hz0, hz1, hz2⟩ := hz
      have HI0 : Hid (Tryd.prog.info? 9 = some i0 ∧ i0.zero = some (.string ⟨#[]⟩) ∧ i0.size = 1 ∧ i0.bytes = 16) := ⟨hi, hz0, hz1, hz2⟩
      have HBS := Lib.hid hbase
      clear hi hz0 hz1 hz2 hbase
      gi_wp2_with (gi_at_builtin; refine wpListIn_append_src (w4.alloc (.cells #[.string an] 9)) rfl (.tmp 15) (.tmp 18) 33 rfl (w2.heap.size + 2) 9 i0 (.string ⟨#[]⟩) 1 16 Tryd.underlying33 HI0.out.1 HI0.out.2.1 HI0.out.2.2.1 HI0.out.2.2.2 rfl (by decide) (.slice sa (gsel (accs L) u pre).length sc) (gsel (accs L) u pre).length _ rfl (O4.out.alloc _) (.slice (some ⟨w4.heap.size, 0, none⟩) 1 1) 1 [.string an] rfl (Or.inr ⟨_, _, rfl, World.news_of_block (cs := #[.string an]) (by exact heap_alloc_new w4 _)⟩) rfl (by intro u hu; simp at hu; subst hu; rfl) (by have := HGL.out; unfold maxLen; omega) (by have := HGL.out; omega) HBS.out ?_; intro v5 w5 hown5 hgrow5 hat5; have FIN := Lib.hid (HI.out.push (a := ⟨an, al, am, ak⟩) (by have := HZ2.out; omega) HB.out.symm HMB.out.symm HV.out OW.out HSB.out K4.out hown5 hgrow5); have y2 : w5.cell? ⟨b + 2, 0, none⟩ = some (.slice sa (gsel (accs L) u pre).length sc) := GrI.cell5 (by have := HZ2.out; omega) HV.out OW.out K4.out hgrow5; have yf : w5.frozen? ⟨b + 2, 0, none⟩ = false := GrI.froz5 (by have := HZ2.out; omega) HV.out OW.out K4.out hgrow5; obtain ⟨ya, yc, rfl⟩ := own_slg hown5; clear hown5 hgrow5 hat5)
      exact FIN.out
  case done =>
    rintro W hI hK
    obtain ⟨v, hv, own⟩ := hI.bd
    have hgl := gsel_len (accs L) u (accs L)
    have SO := Lib.hid (sort_own own HSO.out (by have := HLL.out; rw [accs_length] at hgl; omega))
    have c2 : W.cell? ⟨b + 2, 0, none⟩ = some v := by rw [cell_of_row W (b + 2) 0 _ _ (0, 0) hv]; rfl
    have dO : Hid (∀ g, v.ownBlock = some g → w2.heap.size + 2 ≤ g) := fun g h => (own.lt g h).1
    have HKI := Lib.hid hI.kept
    have HV := Lib.hid hv
    have hDs : Hid (w2.heap.size = b + 4 ∧ b = w.heap.size) := ⟨HZ2.out, HB.out⟩
    clear own hgl hI hv
    gi_wp2_with fail
    refine ⟨trivial, (callsIn_wide.2 SO.out).mono ?_⟩
    rintro e w5 ⟨rfl, own5, kS⟩
    have hK5 : w5.heap[w2.heap.size]? = some (.deferred (some [])) := (kS.block _ (block_lt hK) (fun hm => by have := dO.out _ (by simpa using hm); omega)).trans hK
    have d2 : w5.cell? ⟨b + 2, 0, none⟩ = some v := by rw [cell_of_row w5 (b + 2) 0 _ _ (0, 0) ((kS.block _ (block_lt HV.out) (fun hm => by have := dO.out _ (by simpa using hm); have := hDs.out.1; omega)).trans HV.out)]; rfl
    have kD : Kept [w2.heap.size] w5 (w5.putObj w2.heap.size (.deferred none)) := (Kept.refl _ w5).putObj _ (Or.inl (by simp))
    have KF : Hid (Kept [] w (w5.putObj w2.heap.size (.deferred none))) := (HKI.out.trans kS (fun i hi => Or.inr (by have := dO.out _ (by simpa using hi); have := hDs.out; omega))).trans kD (fun i hi => Or.inr (by simp at hi; have := hDs.out; omega))
    have MF : Hid (Mem (w5.putObj w2.heap.size (.deferred none)) v (gsel (accs L) u (accs L))) := own_kept (own_low own5) kD (fun g hg hm => by have := dO.out _ hg; simp at hm; omega)
    clear own5 kS kD c2
    gi_wp2_with fail
    refine ⟨by simp, .inl ⟨_, _, rfl, run_takeDeferred hK5, ?_⟩⟩
    refine ⟨v, ?_, ?_⟩
    · simp [results, Tryd.f17, go_sem]
    · exact ⟨v, rfl, MF.out, KF.out⟩
end
end Us
end Go.Proofs.YteeheapenfklcaaDoor
