/- users: a table's text. -/
import Derived.Test.YteeheapenfklcaaGreatDoorUit
import Derived.Test.YteeheapenfklcaaGreatDoorUln
import Derived.Test.YteeheapenfklcaaGreatDoorUbd
namespace Go.Proofs.YteeheapenfklcaaGreatDoor
set_option linter.unusedVariables false
open Go.RowKit Go.Shelf
attribute [local go_sem] Oper.semAt_some
namespace Us
open Go.Proofs.YteeheapenfklcaaGreatDoor.Utf Go.Proofs.YteeheapenfklcaaGreatDoor.Txt Go.PlainAid Go.Proofs.YteeheapenfklcaaGreatDoor.Mpf

/-- What stands between two rounds. -/
structure TxI (w : World) (b D : Nat) (pre : List Acc) (W : World) : Prop where
  bd : ∃ v, Bld.Bd b b v (Lib.byteCells (textL pre)) W ∧ (∀ g, v.ownBlock = some g → g ≠ D ∧ g ≠ D + 1) ∧ (pre = [] → v = .slice none 0 0)
  kept : Kept [] w W
theorem TxI.stays {w A B : World} {b D : Nat} {pre : List Acc} (hb : b < D) (hw : w.heap.size ≤ D) (h : TxI w b D pre A) (k : Kept [D, D + 1] A B) : TxI w b D pre B := by
  obtain ⟨v, hv, hg, hn⟩ := h.bd
  refine ⟨⟨v, ⟨?_, Bld.ownsRow_kept hv.own k (fun g hg2 hm => ?_), hv.ne, hv.le⟩, hg, hn⟩, h.kept.trans k (fun i hi => by simp at hi; omega)⟩
  · rcases hv.at' with x | x
    · exact Or.inl (by rw [k.block b (block_lt x) (by simp; omega)]; exact x)
    · exact Or.inr (by rw [k.block b (block_lt x) (by simp; omega)]; exact x)
  · have := hg g hg2
    simp at hm
    omega
theorem textL_append (T : List Acc) (a : Acc) : textL (T ++ [a]) = textL T ++ (lineL a ++ [10]) := by simp [textL]
theorem bc_append (l m : List UInt8) : Lib.byteCells (l ++ m) = Lib.byteCells l ++ Lib.byteCells m := by simp [Lib.byteCells]
theorem strCells_eq (s : ByteArray) : Lib.strCells s = Lib.byteCells (dl s) := by simp [Lib.strCells, Lib.byteCells, dl]
theorem bc_length (l : List UInt8) : (Lib.byteCells l).length = l.length := by simp [Lib.byteCells]
/-- An account of ordinary size. -/
def Fit (a : Acc) : Prop := a.name.size ≤ 32 ∧ a.leader.size ≤ 32 ∧ a.key.size ≤ 32 ∧ (∀ m ∈ a.members, m.size ≤ 32) ∧ a.members.length ≤ 65537
theorem lineL_len {a : Acc} (h : Fit a) : (lineL a).length ≤ 8388608 := by
  obtain ⟨h1, h2, h3, h4, h5⟩ := h
  have hjm := jl_length a.members 44 32 h4
  have hb : a.members.length * (32 + 1) ≤ 65537 * 33 := Nat.mul_le_mul_right _ h5
  have e : lineL a = jl [a.name, a.leader, bA (jl a.members 44), a.key] 58 := by unfold lineL jl; simp only [List.map_cons, List.map_nil, dl_bA]
  rw [e]
  unfold jl
  rw [List.map_cons, Lib.join_length]
  have e2 : (dl (bA (jl a.members 44))).length ≤ 65537 * 33 := by rw [dl_bA]; omega
  unfold jl at e2
  simp only [Lib.lens, List.map_cons, List.map_nil, List.sum_cons, List.sum_nil, List.length_cons, List.length_nil, dl_length] at e2 ⊢
  omega
theorem textL_len : ∀ (T : List Acc), (∀ a ∈ T, Fit a) → (textL T).length ≤ T.length * 8388609
  | [], _ => by simp [textL]
  | a :: T, h => by
    have h1 := lineL_len (h a (by simp))
    have h2 := textL_len T (fun x hx => h x (by simp [hx]))
    simp only [textL, List.flatMap_cons, List.length_append, List.length_cons, List.length_nil] at h2 ⊢
    rw [Nat.add_mul, Nat.one_mul]
    omega
section
variable {w : World} {B p : Nat} {sl : Value} {m1 m2 n2 : Nat} {f : ByteArray × ByteArray → Bool} {L : List (Acc × Value)}
set_option maxHeartbeats 4000000 in
set_option maxRecDepth 100000 in
theorem text_x (h : TbX w B p sl m1 m2 n2 f L) (hL : L.length ≤ 65537) (hF : ∀ a ∈ accs L, Fit a) :
    Calls Tryz.prog 8 #[.pointer (some ⟨p, 0, none⟩)] w fun e w' => e = .returned (.string (bA (textL (accs L)))) ∧ Kept [] w w' := by
  refine (callsIn_wide (n := 4)).1 ?_
  refine callsIn_of_wp_marks Tryz.func8 rfl trivial ?_ rfl
  simp only [Tryz.ntmps8, List.size_toArray, List.length_cons, List.length_nil, Nat.reduceAdd, Nat.reduceSub, Array.replicate_succ, Array.replicate_zero, List.push_toArray, List.append_toArray, List.nil_append, List.cons_append]
  have AC := Lib.hid (fun w => accounts_any w p)
  have hzv : ∀ w, (zeroValue 76).run Tryz.prog w = .ok (.agg #[.pointer none, .slice none 0 0]) w := fun w => by kernel_rfl
  gi_wp2_with fail
  obtain ⟨b, hb⟩ : ∃ b, b = w.heap.size := ⟨_, rfl⟩
  obtain ⟨w1, hw1⟩ : ∃ w1, w1 = w.alloc (.cells #[.pointer none, .slice none 0 0] 76) := ⟨_, rfl⟩
  have b1 : w1.heap[b]? = some (.cells #[.pointer none, .slice none 0 0] 76 (0, 0)) := by rw [hw1, hb]; exact (MapKept.heap_alloc w _).1
  have k1 : Kept [] w w1 := by rw [hw1]; exact (Kept.refl _ _).alloc _
  have z1 : w1.heap.size = b + 1 := by rw [hw1, hb]; simp
  rw [← hw1, ← hb]
  refine ⟨trivial, (callsIn_wide.2 (AC.out w1)).mono ?_⟩
  rintro e w2 ⟨rfl, hw2⟩
  obtain ⟨R, hR⟩ : ∃ R, R = w1.heap.size := ⟨_, rfl⟩
  have r2 : w2.heap[R]? = some (.cells #[.pointer (some ⟨p, 0, none⟩)] 29 (0, 0)) := by rw [hw2, hR]; exact (MapKept.heap_alloc w1 _).1
  have k2 : Kept [] w1 w2 := by rw [hw2]; exact (Kept.refl _ _).alloc _
  have z2 : w2.heap.size = b + 2 := by rw [hw2]; simp; omega
  have K2 : Kept [] w w2 := k1.trans k2 (fun i hi => by cases hi)
  have b2 := (k2.block _ (block_lt b1) (by simp)).trans b1
  rw [← hR]
  clear hw1 hw2 hzv AC
  have IT := accounts1_iter w w2 K2 R r2 h (by omega) (fun x hx => by have := (hF x.1 (by unfold accs; exact List.mem_map_of_mem hx)).2.2.2.2; omega)
  have HIT : Hid (IterW Fence.wide 3 Tryz.prog 54 #[.pointer (some ⟨R, 0, none⟩)] EA (accs L) w.heap.size w2) := IT
  have I0 : Hid (∀ W', Kept [] w2 W' → TxI w b w2.heap.size [] W') := fun W' k => ⟨⟨.slice none 0 0, ⟨Or.inl ((k.block _ (block_lt b2) (by simp)).trans b2), World.ownsRow_nil _ _ _ _, (fun h => by cases h), Nat.le_refl _⟩, (fun g h => by cases h), fun _ => rfl⟩, K2.trans k (fun i hi => by cases hi)⟩
  have HF := Lib.hid hF
  have HT := textL_len (accs L) hF
  have HTL : Hid ((textL (accs L)).length ≤ 65537 * 8388609) := by
    rw [accs_length] at HT
    exact Nat.le_trans HT (Nat.mul_le_mul_right _ hL)
  have HB : Hid (b = w.heap.size) := hb
  have HZ2 : Hid (w2.heap.size = b + 2) := z2
  clear hb hR z1 z2
  clear IT hF HT b1 b2 r2 k1 k2 h K2
  gi_wp2_with fail
  refine wpIn_rangeFunc_w (n := 4) rfl (by omega) (gf := 54) (lb := #[.pointer (some ⟨R, 0, none⟩)]) rfl trivial (enters_of Tryz.func54 (by kernel_rfl) rfl)
    HIT.out (Kept.refl [] w2) (by have := HZ2.out; have := HB.out; omega) (fun W x args hE => by obtain ⟨v, rfl, -⟩ := hE; rfl)
    (TxI w b w2.heap.size) (fun s A B h hk => h.stays (by have := HZ2.out; omega) (by have := HZ2.out; have := HB.out; omega) hk) (fun W' k _ => I0.out W' k)
    (fun m a a' W => ∃ Bx v, (m ≤ Bx ∧ ∀ g, v.ownBlock = some g → g ≠ w2.heap.size + 1) ∧ Hid (W.heap[Bx]? = some (.cells #[.string a.name, .string a.leader, v, .string a.key] 35 (0, 0))) ∧ Hid (Mem W v a.members) ∧ a' = { tmps := #[.pointer (some ⟨p, 0, none⟩), undef, .string ⟨#[]⟩, .pointer (some ⟨b, 0, none⟩), .pointer (some ⟨Bx, 0, none⟩), .pointer (some ⟨p, 0, none⟩), .func (.func 54) #[] #[.pointer (some ⟨R, 0, none⟩)], accV a.name a.leader a.key v, undef, undef, undef, undef, undef], defers := [] })
    ?ax ?assign ?body ?done
  case ax =>
    rintro m a a' A C ⟨Bx, v, h1, h2, h3, h4⟩ hk hm
    exact ⟨Bx, v, h1, (hk.block _ (block_lt h2.out) (by have := h1.1; simp; omega)).trans h2.out, h3.out.kept hk (fun g hg hm2 => by simp at hm2; exact h1.2 g hg hm2), h4⟩
  case assign =>
    rintro l ⟨an, al, am, ak⟩ args W K hle hnr ⟨v, rfl, hm⟩ hK
    obtain ⟨va, vc, rfl⟩ := hm.slice
    have hK2 := Lib.hid (hK _ _ ((Kept.refl [] W).alloc (.cells #[.string an, .string al, .slice va am.length vc, .string ak] 35)) ⟨W.heap.size, _, ⟨Nat.le_refl _, fun g hg e => by subst e; obtain ⟨cs, hc⟩ := own_type hm _ hg; exact hnr _ _ _ hc⟩, (MapKept.heap_alloc W _).1, hm.kept0 ((Kept.refl [] W).alloc _), rfl⟩)
    unfold accV at hK2 ⊢
    simp only at hK2 ⊢
    gi_wp2_with fail
    exact hK2.out
  case body =>
    rintro l pre ⟨an, al, am, ak⟩ a' Wb W hle hI hkb ⟨Bx, v, h1, h2, h3, rfl⟩ hpre hn0 hn1
    have hfit := HF.out ⟨an, al, am, ak⟩ (hpre.subset (by simp))
    have LO := Lib.hid (lineOf_any W ⟨an, al, am, ak⟩ v h3.out hfit.1 hfit.2.1 hfit.2.2.1 hfit.2.2.2.1 hfit.2.2.2.2)
    have LL := lineL_len hfit
    obtain ⟨va, vc, rfl⟩ := h3.out.slice
    obtain ⟨bv, hbd, hbg, -⟩ := hI.bd
    have hsb := hkb.size
    have TLE : Hid ((textL (pre ++ [⟨an, al, am, ak⟩])).length ≤ 65537 * 8388609) := by
      obtain ⟨t, ht⟩ := hpre
      have := HTL.out
      rw [← ht] at this
      have e : textL (pre ++ [⟨an, al, am, ak⟩] ++ t) = textL (pre ++ [⟨an, al, am, ak⟩]) ++ textL t := by simp [textL]
      rw [e, List.length_append] at this
      show _ ≤ _
      omega
    have TA := Lib.hid (textL_append pre ⟨an, al, am, ak⟩)
    obtain ⟨y, hy⟩ : ∃ y, y = bA (lineL ⟨an, al, am, ak⟩) := ⟨_, rfl⟩
    have HY : Hid (dl y = lineL ⟨an, al, am, ak⟩) := by show _ = _; rw [hy, dl_bA]
    have ys : y.size ≤ 8388608 := by rw [← dl_length, HY.out]; exact LL
    rw [← hy] at LO
    obtain ⟨q0, q1, q2, q3, -⟩ := four h2.out
    have HBD := Lib.hid hbd
    have HBG := Lib.hid hbg
    have HN := Lib.hid (And.intro hn0 hn1)
    have HKI := Lib.hid hI.kept
    have HSB : Hid (w2.heap.size + 2 ≤ W.heap.size) := by show _ ≤ _; omega
    unfold accV at LO ⊢
    simp only at LO ⊢
    have y1 : (⟨#[10]⟩ : ByteArray).size = 1 := rfl
    clear hy LL hbd hbg hI hn0 hn1 hpre hfit hsb hkb hle h1
    gi_wp2_with fail
    refine ⟨trivial, (CallsIn.inRound l (callsIn_wide.2 LO.out)).mono ?_⟩
    rintro e w4 ⟨rfl, k4⟩
    have hbd4 := HBD.out.kept k4
    have hb4 : b ≤ w4.heap.size := by have := k4.size; have := HSB.out; have := HZ2.out; omega
    have hsum : (Lib.byteCells (textL pre)).length + (y ++ ⟨#[10]⟩).size ≤ 140737488355328 := by
      have h5 := TLE.out
      rw [TA.out, List.length_append, List.length_append] at h5
      have e1 : (y ++ ⟨#[10]⟩ : ByteArray).size = y.size + 1 := by rw [ByteArray.size_append]; rfl
      have e2 : y.size = (lineL ⟨an, al, am, ak⟩).length := by rw [← dl_length, HY.out]
      rw [bc_length, e1, e2]
      simp at h5
      omega
    have WS := Lib.hid (Bld.string_k b b bv _ (y ++ ⟨#[10]⟩) w4 hbd4 hsum hb4)
    clear hsum
    gi_wp2_with fail
    refine ⟨trivial, (CallsIn.inRound l (callsIn_wide.2 WS.out)).mono ?_⟩
    rintro e w5 ⟨rfl, v', hbd5, k5⟩
    have eB : Lib.byteCells (textL pre) ++ Lib.strCells (y ++ ⟨#[10]⟩) = Lib.byteCells (textL (pre ++ [⟨an, al, am, ak⟩])) := by
      rw [TA.out, bc_append, strCells_eq]
      congr 2
      have : dl (y ++ ⟨#[10]⟩) = dl y ++ [10] := by simp [dl]
      rw [this, HY.out]
    rw [eB] at hbd5
    have kS : Kept (b :: bv.ownBlock.toList) W w5 := (k4.mono (fun i hi => by cases hi)).trans k5 (fun i hi => Or.inl hi)
    have dS : ∀ i ∈ b :: bv.ownBlock.toList, w.heap.size ≤ i ∧ i ≠ w2.heap.size ∧ i ≠ w2.heap.size + 1 := fun i hi => by
      have e1 := HZ2.out
      have e2 := HB.out
      rcases List.mem_cons.1 hi with rfl | hi
      · omega
      · have hi' : bv.ownBlock = some i := by simpa using hi
        have g1 := HBG.out i hi'
        have g2 := (HBD.out.own.lt i hi').1
        omega
    have hD : ∀ (d : Nat), d ∉ b :: bv.ownBlock.toList → d < W.heap.size → noRow W d → noRow w5 d := fun d h1 h2 h3 cs t z h => h3 cs t z (by rw [← kS.block d h2 h1]; exact h)
    have hsB := HSB.out
    have n0 := hD w2.heap.size (fun h => (dS _ h).2.1 rfl) (by omega) HN.out.1
    have n1 := hD (w2.heap.size + 1) (fun h => (dS _ h).2.2 rfl) (by omega) HN.out.2
    have FIN : Hid (wPost (TxI w b w2.heap.size) w.heap.size w2.heap.size (pre ++ [⟨an, al, am, ak⟩]) W .normal { tmps := #[], defers := [] } w5) := by
      refine ⟨⟨_, kS, dS⟩, ⟨v', hbd5, fun g hg => ?_, fun h => by simp at h⟩, HKI.out.trans kS (fun i hi => Or.inr (dS i hi).1)⟩
      obtain ⟨cs, hc⟩ := own_type hbd5.own g hg
      exact ⟨fun e => by subst e; exact n0 _ _ _ hc, fun e => by subst e; exact n1 _ _ _ hc⟩
    clear WS hbd4 hbd5 k5 kS dS hD n0 n1 eB
    gi_wp2_with fail
    exact FIN.out
  case done =>
    rintro W hI hK
    obtain ⟨v, hbd, hbg, hnil⟩ := hI.bd
    have STR : Hid (Calls Tryz.prog 31 #[.pointer (some ⟨b, 0, none⟩)] W fun e w' => e = .returned (.string (bA (textL (accs L)))) ∧ ∃ S, Kept S W w' ∧ ∀ i ∈ S, w.heap.size ≤ i ∧ i ≠ w2.heap.size) := by
      cases hT : accs L with
      | nil =>
        have hv := hnil hT
        subst hv
        have hx : ∃ p, W.heap[b]? = some (.cells #[p, .slice none 0 0] 76 (0, 0)) := by
          rcases hbd.at' with x | x
          · exact ⟨_, x⟩
          · exact ⟨_, x⟩
        obtain ⟨q, hx⟩ := hx
        refine (Bld.out_nil b q W hx).mono ?_
        rintro e w' ⟨rfl, k⟩
        exact ⟨rfl, [], k, fun i hi => by cases hi⟩
      | cons a T =>
        have h0 : textL (accs L) ≠ [] := by rw [hT]; simp [textL]
        rw [← hT]
        refine (Bld.out_some b b v _ W hbd h0).mono ?_
        rintro e w' ⟨rfl, k⟩
        refine ⟨rfl, _, k, fun i hi => ?_⟩
        have hi' : v.ownBlock = some i := by simpa using hi
        have := (hbd.own.lt i hi').1
        have := HB.out
        exact ⟨by omega, (hbg i hi').1⟩
    have HKI := Lib.hid hI.kept
    obtain ⟨z, hz⟩ : ∃ z, z = bA (textL (accs L)) := ⟨_, rfl⟩
    rw [← hz] at STR
    have HZZ := Lib.hid hz
    have hDs : Hid (w.heap.size ≤ w2.heap.size) := by have := HZ2.out; have := HB.out; show _ ≤ _; omega
    clear hbd hbg hnil hI hz
    gi_wp2_with fail
    refine ⟨trivial, (callsIn_wide.2 STR.out).mono ?_⟩
    rintro e w5 ⟨rfl, S, kS, hS⟩
    have hK5 : w5.heap[w2.heap.size]? = some (.deferred (some [])) := (kS.block _ (block_lt hK) (fun hm => (hS _ hm).2 rfl)).trans hK
    have kD : Kept [w2.heap.size] w5 (w5.putObj w2.heap.size (.deferred none)) := (Kept.refl _ w5).putObj _ (Or.inl (by simp))
    have KF : Hid (Kept [] w (w5.putObj w2.heap.size (.deferred none))) := (HKI.out.trans kS (fun i hi => Or.inr (hS i hi).1)).trans kD (fun i hi => Or.inr (by simp at hi; subst hi; exact hDs.out))
    clear kS hS kD
    gi_wp2_with fail
    refine ⟨by simp, .inl ⟨_, _, rfl, run_takeDeferred hK5, ?_⟩⟩
    refine ⟨.string z, ?_, ?_⟩
    · simp [results, Tryz.f8, go_sem]
    · exact ⟨by rw [HZZ.out], KF.out⟩
/-- The text is none too long. -/
def OutFit (w : World) (ok : Bool) (e : Ending) (w' : World) : Prop := (ok = true ∧ e = .returned (.tuple #[]) ∧ Kept [] w w') ∨ (ok = false ∧ e = fell 1 ∧ Kept [] w w')
set_option maxRecDepth 100000 in
theorem mustFit_x (h : TbX w B p sl m1 m2 n2 f L) (hL : L.length ≤ 65537) (hF : ∀ a ∈ accs L, Fit a) :
    Calls Tryz.prog 50 #[.pointer (some ⟨p, 0, none⟩)] w (OutFit w (decide ((textL (accs L)).length ≤ 65536))) := by
  have TX := Lib.hid (text_x h hL hF)
  obtain ⟨z, hz⟩ : ∃ z, z = bA (textL (accs L)) := ⟨_, rfl⟩
  have hs : (textL (accs L)).length = z.size := by rw [hz, ← dl_length, dl_bA]
  rw [hs]
  rw [← hz] at TX
  clear hz hs h
  by_cases h1 : z.size ≤ 65536
  · have i1 : ¬ (65536 : Int) < (z.size : Int) := by omega
    rw [decide_eq_true h1]
    go_enter Tryz.func50, Tryz.ntmps50
    go_wp2_with (first | (go_at_call 8; refine TX.out.mono ?_; rintro e w2 ⟨rfl, k2⟩))
    go_end0
    exact Or.inl ⟨rfl, rfl, k2⟩
  · have i1 : (65536 : Int) < (z.size : Int) := by omega
    rw [decide_eq_false h1]
    go_enter Tryz.func50, Tryz.ntmps50
    go_wp2_with (first | (go_at_call 8; refine TX.out.mono ?_; rintro e w2 ⟨rfl, k2⟩) | (go_at_call 62; refine (giveUp_any _ 1).mono ?_; rintro e w4 ⟨rfl, rfl⟩))
    exact ⟨rfl, Or.inr ⟨rfl, rfl, k2⟩⟩
end
end Us
end Go.Proofs.YteeheapenfklcaaGreatDoor
