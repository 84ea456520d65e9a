/- names' Under walked. -/
import Derived.Test.YtjdhgeikbkjnoaaDoorUnd
namespace Go.Proofs.YtjdhgeikbkjnoaaDoor
set_option linter.unusedVariables false
open Go.RowKit Go.Shelf
attribute [local go_sem] Oper.semAt_some
namespace Nm
open Go.Proofs.YtjdhgeikbkjnoaaDoor.Utf Go.Proofs.YtjdhgeikbkjnoaaDoor.Txt Go.PlainAid

def dd : ByteArray := ⟨#[46, 46]⟩
def rst (t p : ByteArray) : List ByteArray := (pt p).drop (pt t).length
/-- Does it lie below? -/
def und (t p : ByteArray) : Bool := ucl t && (ucl p && ((rooted (dl t) == rooted (dl p)) && (bgn (pt p) (pt t) && !bgn (rst t p) [dd])))
def udo (t p : ByteArray) : ByteArray := if und t p = true then joi false (rst t p) else ⟨#[]⟩
def SclOut2 (w : World) (s : ByteArray) (e : Ending) (w' : World) : Prop :=
  ∃ ok r v ps, e = .returned (.tuple #[.agg #[.bool r, v], .bool ok]) ∧ Hid (Row w' w.heap.size v ps) ∧ Hid (Kept [] w w') ∧ Hid (ok = ucl s) ∧ Hid (ok = true → r = rooted (dl s) ∧ ps = pt s) ∧ Hid (ps.length ≤ s.size + 1)
theorem splitClean2 (w : World) (s : ByteArray) (hs : s.size ≤ 1073741824) : Calls Tryd.prog 30 #[.string s] w (SclOut2 w s) := by
  refine (splitClean_any w s hs).mono ?_
  rintro e w' (⟨hu, pv, rfl, hR, hK⟩ | ⟨hu, rfl, hK⟩)
  · exact ⟨true, _, pv, pt s, rfl, hR, hK, hu.symm, fun _ => ⟨rfl, rfl⟩, pt_length s⟩
  · exact ⟨false, false, _, [], rfl, World.ownsRow_nil _ _ _ _, hK, hu.symm, (fun h => absurd h (by decide)), by show _ ≤ _; simp⟩
theorem wt_drop (l : List (List UInt8)) (n : Nat) : wt (l.drop n) ≤ wt l := by
  have h := wt_append (l.take n) (l.drop n)
  rw [List.take_append_drop] at h
  omega
theorem jin_rst (t p : ByteArray) : (jin (rst t p)).size ≤ p.size + 1 := by
  have h1 := jin_size (rst t p)
  have h3 := wt_parts (dl p)
  have h2 := wt_drop ((pt p).map dl) (pt t).length
  unfold rst at h1 ⊢
  rw [List.map_drop] at h1
  rw [pt_dl] at h1 h2
  rw [dl_length] at h3
  omega
/-- The rest of a list. -/
theorem slice_drop {w : World} {a : Option Addr} {c : Nat} {ps : List ByteArray} {m : Nat} (h : Lst w (.slice a ps.length c) ps) (hm : m ≤ ps.length) (x : Int) (hx : x = m) :
    ∃ a', Lst w (.slice a' (ps.length - m) (c - m)) (ps.drop m) ∧ ∀ w', (Instr.slice 26 (.slice a ps.length c) (some (.int .i64 x)) none none).run Tryd.prog w' = .ok (.slice a' (ps.length - m) (c - m)) w' := by
  subst hx
  obtain ⟨a1, c1, e, hc, h⟩ := h
  cases e
  refine ⟨if c = m then a else a.map (·.add (m * 1)), ⟨_, c - m, by rw [List.length_drop], by rw [List.length_drop]; omega, ?_⟩, fun w' => ?_⟩
  · rcases h with h | ⟨b, o, rfl, hb, h⟩
    · left; rw [h]; simp
    · by_cases hcm : c = m
      · left
        rw [List.drop_eq_nil_iff]
        omega
      · rw [if_neg hcm]
        refine Or.inr ⟨b, o + m, by simp [Addr.add], hb, fun j x hx => ?_⟩
        rw [List.getElem?_drop] at hx
        have := h (m + j) x hx
        rw [Nat.add_assoc]
        exact this
  · rw [run_slice_l w' 26 a ps.length c (by kernel_rfl) .i64 m (by omega) (by omega)]
    have e : ∀ w, (sizeOf (Tryd.prog.elem 26)).run Tryd.prog w = .ok 1 w := fun w => by kernel_rfl
    rw [e]
    simp only [Result.andThen, sliced, Int.toNat_natCast, Nat.mul_one]

set_option maxHeartbeats 8000000 in
set_option maxRecDepth 100000 in
theorem under_any (w : World) (t p : ByteArray) (ht : t.size ≤ 1073741824) (hp : p.size ≤ 1073741824) :
    Calls Tryd.prog 14 #[.string t, .string p] w fun e w' => e = .returned (.tuple #[.string (udo t p), .bool (und t p)]) ∧ Kept [] w w' := by
  have ST := Lib.hid (fun w => splitClean2 w t ht)
  have SP := Lib.hid (fun w => splitClean2 w p hp)
  obtain ⟨U, hU⟩ : ∃ U, U = und t p := ⟨_, rfl⟩
  obtain ⟨D, hD⟩ : ∃ D, D = udo t p := ⟨_, rfl⟩
  rw [← hU, ← hD]
  have BAD : Hid (und t p = false → U = false ∧ D = ⟨#[]⟩) := fun h => ⟨hU.trans h, by rw [hD]; unfold udo; rw [h, if_neg (by simp)]⟩
  have GOOD : Hid (und t p = true → U = true ∧ D = joi false (rst t p)) := fun h => ⟨hU.trans h, by rw [hD]; unfold udo; rw [h, if_pos rfl]⟩
  clear hU hD
  go_enter Tryd.func14, Tryd.ntmps14
  go_wp2_with fail
  refine (ST.out w).mono ?_
  rintro e w2 ⟨ok1, r1, v1, ps1, rfl, hR1, hK1, hO1, hE1, hL1⟩
  obtain ⟨a1, c1, rfl⟩ := own_slice hR1.out
  go_wp2_with fail
  obtain ⟨w3, hw3⟩ : ∃ w3, w3 = w2.alloc (.cells #[.bool r1, .slice a1 ps1.length c1] 28) := ⟨_, rfl⟩
  obtain ⟨Rt, hRt⟩ : ∃ R, R = w2.heap.size := ⟨_, rfl⟩
  have B3 : Hid (w3.heap[Rt]? = some (.cells #[.bool r1, .slice a1 ps1.length c1] 28 (0, 0))) := by rw [hw3, hRt]; exact heap_alloc_new w2 _
  have K3 : Hid (Kept [] w2 w3) := by rw [hw3]; exact (Kept.refl _ _).alloc _
  have KW3 : Hid (Kept [] w w3) := hK1.out.trans K3.out (fun i hi => by simp at hi)
  rw [← hw3, ← hRt]
  clear hw3 hRt
  refine (SP.out w3).mono ?_
  rintro e w4 ⟨ok2, r2, v2, ps2, rfl, hR2, hK2, hO2, hE2, hL2⟩
  obtain ⟨a2, c2, rfl⟩ := own_slice hR2.out
  have B4 := Lib.hid ((hK2.out.block _ (block_lt B3.out) (by simp)).trans B3.out)
  have KW4 : Hid (Kept [] w w4) := KW3.out.trans hK2.out (fun i hi => by simp at hi)
  have L1 : Hid (Lst w4 (.slice a1 ps1.length c1) ps1) := Lst.kept (Lst.kept hR1.out.lst K3.out (fun _ _ _ _ hm => by simp at hm)) hK2.out (fun _ _ _ _ hm => by simp at hm)
  have L2 : Hid (Lst w4 (.slice a2 ps2.length c2) ps2) := hR2.out.lst
  obtain ⟨w5, hw5⟩ : ∃ w5, w5 = w4.alloc (.cells #[.bool r2, .slice a2 ps2.length c2] 28) := ⟨_, rfl⟩
  obtain ⟨Rp, hRp⟩ : ∃ R, R = w4.heap.size := ⟨_, rfl⟩
  have HW5 := Lib.hid (And.intro hw5 hRp)
  have K45 : Hid (Kept [] w4 w5) := by rw [hw5]; exact (Kept.refl _ _).alloc _
  have B5p : Hid (w5.heap[Rp]? = some (.cells #[.bool r2, .slice a2 ps2.length c2] 28 (0, 0))) := by rw [hw5, hRp]; exact heap_alloc_new w4 _
  have B5t : Hid (w5.heap[Rt]? = some (.cells #[.bool r1, .slice a1 ps1.length c1] 28 (0, 0))) := (K45.out.block _ (block_lt B4.out) (by simp)).trans B4.out
  have KW5 : Hid (Kept [] w w5) := KW4.out.trans K45.out (fun i hi => by simp at hi)
  have L51 := Lib.hid (Lst.kept L1.out K45.out (fun _ _ _ _ hm => by simp at hm))
  have L52 := Lib.hid (Lst.kept L2.out K45.out (fun _ _ _ _ hm => by simp at hm))
  have t0 : w4.cell? ⟨Rt, 0, none⟩ = some (.bool r1) := by rw [cell_of_row w4 Rt 0 _ _ (0, 0) B4.out]; rfl
  have t1 : w4.cell? ⟨Rt, 1, none⟩ = some (.slice a1 ps1.length c1) := by rw [cell_of_row w4 Rt 1 _ _ (0, 0) B4.out]; rfl
  have hlt := block_lt B4.out
  have AW2 : Hid ((a2 = none ∧ ps2.length = 0 ∧ c2 = 0) ∨ ∃ g, a2 = some ⟨g, 0, none⟩) := by
    rcases hR2.out.2 with ⟨e, h0⟩ | ⟨g, cap, cur, e, -⟩
    · injection e with e1 e2 e3; exact Or.inl ⟨e1, h0, e3⟩
    · injection e with e1 e2 e3; exact Or.inr ⟨g, e1⟩
  clear hw5 hRp hK1 hK2 KW3 K3 L1 L2 B3 B4 hR1 hR2 ST SP
  cases ok1 with
  | false =>
    have hb := BAD.out (by unfold und; rw [← hO1.out]; rfl)
    have HBb := Lib.hid hb
    clear hb
    cases ok2 <;> go_wp2_with fail
    all_goals
      go_ret2
      rw [HBb.out.1, HBb.out.2]
      exact ⟨rfl, by rw [← HW5.out.1]; exact KW5.out⟩
  | true =>
    cases ok2 with
    | false =>
      have hb := BAD.out (by unfold und; rw [← hO1.out, ← hO2.out]; rfl)
      have HBb := Lib.hid hb
      clear hb
      go_wp2_with fail
      go_ret2
      rw [HBb.out.1, HBb.out.2]
      exact ⟨rfl, by rw [← HW5.out.1]; exact KW5.out⟩
    | true =>
      obtain ⟨er1, ep1⟩ := hE1.out rfl
      obtain ⟨er2, ep2⟩ := hE2.out rfl
      have U1 : Hid (und t p = ((r1 == r2) && (bgn ps2 ps1 && !bgn (ps2.drop ps1.length) [dd]))) := by
        show _ = _
        unfold und rst
        rw [← hO1.out, ← hO2.out, er1, er2, ep1, ep2]
        rfl
      have G1 : Hid (rst t p = ps2.drop ps1.length) := by show _ = _; unfold rst; rw [ep1, ep2]
      have hJR := jin_rst t p
      rw [G1.out] at hJR
      have JR := Lib.hid hJR
      clear er1 ep1 er2 ep2 hE1 hE2 hJR
      by_cases hrr : r1 = r2
      · subst hrr
        have hl1 := hL1.out
        have hl2 := hL2.out
        have BG := Lib.hid (beginWith_any w5 _ _ ps2 ps1 L52.out L51.out (by omega) (by omega))
        obtain ⟨b, hb⟩ : ∃ b, b = bgn ps2 ps1 := ⟨_, rfl⟩
        have HBG := Lib.hid hb
        rw [← hb] at BG U1
        clear hb
        cases r1
        all_goals
          go_wp2_with fail
          rw [← HW5.out.1]
          refine BG.out.mono ?_
          rintro e w6 ⟨rfl, q, hq6⟩
          have K6 : Hid (Kept [] w5 w6) := by rw [hq6]; exact (Kept.refl _ _).drewN q
          clear hq6
          cases b with
          | false =>
            have hb := BAD.out (by rw [U1.out]; simp)
            have HBb := Lib.hid hb
            clear hb
            go_wp2_with fail
            go_ret2
            rw [HBb.out.1, HBb.out.2]
            exact ⟨rfl, KW5.out.trans K6.out (fun i hi => by simp at hi)⟩
          | true =>
            have hle : ps1.length ≤ ps2.length := by
              have := HBG.out
              unfold bgn at this
              exact (of_decide_eq_true this.symm).1
            have b6p := (K6.out.block _ (block_lt B5p.out) (by simp)).trans B5p.out
            have b6t := (K6.out.block _ (block_lt B5t.out) (by simp)).trans B5t.out
            have L62 := Lst.kept L52.out K6.out (fun _ _ _ _ hm => by simp at hm)
            have hcap : ps2.length ≤ c2 := by obtain ⟨_, _, e, hc, _⟩ := L62; cases e; exact hc
            have KW6 : Hid (Kept [] w w6) := KW5.out.trans K6.out (fun i hi => by simp at hi)
            have p1 : w6.cell? ⟨Rp, 1, none⟩ = some (.slice a2 ps2.length c2) := by rw [cell_of_row w6 Rp 1 _ _ (0, 0) b6p]; rfl
            have t1 : w6.cell? ⟨Rt, 1, none⟩ = some (.slice a1 ps1.length c1) := by rw [cell_of_row w6 Rt 1 _ _ (0, 0) b6t]; rfl
            have HRp := HW5.out.2
            rw [← HRp]
            obtain ⟨ar, hLr, hsl⟩ := slice_drop L62 hle (ps1.length : Int) rfl
            have hps := Lib.hid (Nat.sub_le ps2.length ps1.length)
            clear b6p b6t L62 HRp K6 BG
            obtain ⟨w7, hw7⟩ : ∃ w7, w7 = w6.alloc (.cells #[.string ⟨#[46, 46]⟩] 9) := ⟨_, rfl⟩
            have K7 : Hid (Kept [] w6 w7) := by rw [hw7]; exact (Kept.refl _ _).alloc _
            have HW7 := Lib.hid hw7
            have LR7 : Hid (Lst w7 (.slice ar (ps2.length - ps1.length) (c2 - ps1.length)) (ps2.drop ps1.length)) := Lst.kept hLr K7.out (fun _ _ _ _ hm => by simp at hm)
            have LD7 : Hid (Lst w7 (.slice (some ⟨w6.heap.size, 0, none⟩) 1 1) [dd]) := by
              refine ⟨_, 1, rfl, Nat.le_refl _, Or.inr ⟨w6.heap.size, 0, rfl, by rw [hw7]; simp, fun j x hx => ?_⟩⟩
              cases j with
              | zero =>
                cases hx
                rw [hw7, cell_of_row _ w6.heap.size _ _ _ (0, 0) (heap_alloc_new w6 _)]
                rfl
              | succ j => simp at hx
            have BG2 := Lib.hid (beginWith_any w7 _ _ (ps2.drop ps1.length) [dd] LR7.out LD7.out (by rw [List.length_drop]; omega) (by simp))
            clear hw7 hLr
            go_wp2_with fail
            rw [← HW7.out]
            refine BG2.out.mono ?_
            rintro e w8 ⟨rfl, q8, hq8⟩
            have K8 : Hid (Kept [] w7 w8) := by rw [hq8]; exact (Kept.refl _ _).drewN q8
            clear hq8
            have KW8 : Hid (Kept [] w w8) := (KW6.out.trans K7.out (fun i hi => by simp at hi)).trans K8.out (fun i hi => by simp at hi)
            obtain ⟨b3, hb3⟩ : ∃ b, b = bgn (ps2.drop ps1.length) [dd] := ⟨_, rfl⟩
            rw [← hb3] at U1 ⊢
            clear hb3 BG2
            cases b3 with
            | true =>
              have hb := BAD.out (by rw [U1.out]; simp)
              have HBb := Lib.hid hb
              clear hb
              go_wp2_with fail
              go_ret2
              rw [HBb.out.1, HBb.out.2]
              exact ⟨rfl, KW8.out⟩
            | false =>
              have hb := GOOD.out (by rw [U1.out]; simp)
              have HBb := Lib.hid hb
              have LR8 := Lib.hid (Lst.kept LR7.out K8.out (fun _ _ _ _ hm => by simp at hm))
              have hdl : (ps2.drop ps1.length).length ≤ 1073741825 := by rw [List.length_drop]; omega
              have hjr : (jin (ps2.drop ps1.length)).size ≤ 4294967296 := by have := JR.out; omega
              have JN := Lib.hid (join_any w8 false _ (ps2.drop ps1.length) LR8.out hdl hjr)
              clear hb hdl hjr
              go_wp2_with fail
              refine JN.out.mono ?_
              rintro e w9 ⟨rfl, k9⟩
              go_wp2_with fail
              go_ret2
              rw [HBb.out.1, HBb.out.2, G1.out]
              exact ⟨rfl, KW8.out.trans k9 (fun i hi => by simp at hi)⟩
      · have hb := BAD.out (by rw [U1.out]; simp [hrr])
        have HBb := Lib.hid hb
        clear hb
        cases r1 <;> cases r2 <;> first | exact absurd rfl hrr | skip
        all_goals
          go_wp2_with fail
          go_ret2
          rw [HBb.out.1, HBb.out.2]
          exact ⟨rfl, by rw [← HW5.out.1]; exact KW5.out⟩
end Nm
end Go.Proofs.YtjdhgeikbkjnoaaDoor
