/- users: a line as an account (strings.Split, membersOf, accountOf). -/
import Derived.Test.YteeheapenfklcaaGreatDoorUfm
import Derived.Deep.RegionHeld3
import Derived.Deep.Cut
import Derived.Deep.CutRange
namespace Go.Proofs.YteeheapenfklcaaGreatDoor
set_option linter.unusedVariables false
open Go.RowKit Go.Shelf
attribute [local go_sem] Oper.semAt_some
namespace Us
open Go.Proofs.YteeheapenfklcaaGreatDoor.Utf Go.Proofs.YteeheapenfklcaaGreatDoor.Txt Go.PlainAid

/-- internal/bytealg's MaxLen holds some number. -/
def Ml (w : World) : Prop := ∃ m, w.cell? ⟨0, 0, none⟩ = some (.int .i64 m)
theorem Ml.kept {w w' : World} {S : List Nat} (h : Ml w) (k : Kept S w w') (hn : 0 ∉ S) : Ml w' := by
  obtain ⟨m, h⟩ := h
  refine ⟨m, ?_⟩
  have hb := World.block_lt_of_cell? _ _ h
  have := k.block _ hb hn
  unfold World.cell? at h ⊢
  simp only [this]
  exact h
theorem Ml.kept0 {w w' : World} (h : Ml w) (k : Kept [] w w') : Ml w' := h.kept k (by simp)
theorem info_s : (Tryz.prog.info? 9).map (fun i => (i.zero, i.size, i.bytes)) = some (some (.string ByteArray.empty), 1, 16) := by kernel_rfl
theorem split_any (w : World) (c : UInt8) (s : ByteArray) (hs : s.size ≤ 1048576) (hm : Ml w) :
    Calls Tryz.prog 45 #[.string s, .string ⟨#[c]⟩] w fun e w' => e = .returned (.slice (some ⟨w.heap.size, 0, none⟩) (cutB c s).length (cutB c s).length) ∧ Mem w' (.slice (some ⟨w.heap.size, 0, none⟩) (cutB c s).length (cutB c s).length) (cutB c s) ∧ Kept [] w w' := by
  obtain ⟨m, hm⟩ := hm
  refine (Tryz.strings_Split s ⟨#[c]⟩ m w (by omega) hm (Nat.le_refl 1)).mono ?_
  rintro e w' ⟨rfl, rfl⟩
  rw [← cutB_length]
  refine ⟨rfl, ⟨by simp, Or.inr ⟨_, _, _, rfl, Nat.zero_le _, (MapKept.heap_alloc w _).1, Nat.le_refl _, ?_, ?_, ?_⟩⟩, (Kept.refl _ _).alloc _⟩
  · have := cutB_le c s; unfold maxLen; omega
  · simp [cutB]
  · show List.take _ ((cutB c s).map Value.string).toArray.toList = (cutB c s).map sv
    simp only [Nat.mul_one]
    rw [List.take_of_length_le (by simp)]
    rfl

set_option maxHeartbeats 4000000 in
set_option maxRecDepth 100000 in
theorem membersOf_any (w : World) (s : ByteArray) (hs : s.size ≤ 1048576) (hm : Ml w) :
    Calls Tryz.prog 85 #[.string s] w fun e w' => ∃ v, e = .returned v ∧ Mem w' v (membersOf s) ∧ Kept [] w w' ∧ ∀ b, v.ownBlock = some b → w.heap.size ≤ b := by
  have SP := Lib.hid (split_any w 44 s hs hm)
  by_cases h0 : s.size = 0
  · have h1 := lead_eq h0
    have hv : membersOf s = [] := by unfold membersOf; rw [if_pos h0]
    rw [hv]
    clear h0
    go_enter Tryz.func85, Tryz.ntmps85
    go_wp2_with fail
    go_ret
    exact ⟨_, rfl, World.ownsRow_nil _ _ _ _, Kept.refl _ _, fun b h => by cases h⟩
  · have h1 := lead_ne h0
    have b1 : s.toList.isEmpty = false := by rw [List.isEmpty_eq_false_iff]; exact h1
    have b0 : (s.toList == []) = false := by rw [beq_eq_false_iff_ne]; exact h1
    have hv : membersOf s = cutB 44 s := by unfold membersOf; rw [if_neg h0]
    rw [hv]
    obtain ⟨ps, hps⟩ : ∃ ps, ps = cutB 44 s := ⟨_, rfl⟩
    rw [← hps] at SP ⊢
    clear h0 h1 hps hv
    go_enter Tryz.func85, Tryz.ntmps85
    go_wp2_with (go_at_call 45; refine SP.out.mono ?_; rintro e w1 ⟨rfl, m1, k1⟩)
    go_ret
    exact ⟨_, rfl, m1, k1, fun b h => by cases h; exact Nat.le_refl _⟩
/-- What comes of a line. -/
def OutA (w : World) (line : ByteArray) (e : Ending) (w' : World) : Prop :=
  (∃ a v, accOf line = some a ∧ e = .returned (accV a.name a.leader a.key v) ∧ Hid (Mem w' v a.members) ∧ Hid (∀ b, v.ownBlock = some b → w.heap.size ≤ b) ∧ Hid (Kept [] w w')) ∨ (accOf line = none ∧ e = fell 60 ∧ Hid (Kept [] w w'))
theorem accOf_not {line : ByteArray} (h : (cutB 58 line).length ≠ 4) : accOf line = none := by
  unfold accOf
  match hc : cutB 58 line with
  | [] => rfl
  | [_] => rfl
  | [_, _] => rfl
  | [_, _, _] => rfl
  | [_, _, _, _] => rw [hc] at h; exact absurd rfl h
  | _ :: _ :: _ :: _ :: _ :: _ => rfl
theorem set4 {a w : World} {A : Nat} (h : Kept [] a w) (hA : a.heap.size ≤ A) (x y z u : Value) : Kept [] a ((((w.setCell ⟨A, 0, none⟩ x).setCell ⟨A, 1, none⟩ y).setCell ⟨A, 2, none⟩ z).setCell ⟨A, 3, none⟩ u) :=
  (((h.setCell (p := ⟨A, 0, none⟩) (Or.inr hA) _).setCell (p := ⟨A, 1, none⟩) (Or.inr hA) _).setCell (p := ⟨A, 2, none⟩) (Or.inr hA) _).setCell (p := ⟨A, 3, none⟩) (Or.inr hA) _
set_option maxHeartbeats 8000000 in
set_option maxRecDepth 100000 in
theorem accountOf_any (w : World) (line : ByteArray) (hs : line.size ≤ 65536) (hm : Ml w) :
    Calls Tryz.prog 48 #[.string line] w (OutA w line) := by
  have SP : Hid (∀ w', Kept [] w w' → _) := fun w' k => split_any w' 58 line (by omega) (hm.kept0 k)
  have SZ := Lib.hid (cutB_sizes 58 line)
  have LE := cutB_le 58 line
  have ML := Lib.hid hm
  obtain ⟨ps, hps⟩ : ∃ ps, ps = cutB 58 line := ⟨_, rfl⟩
  have HPS := Lib.hid hps
  rw [← hps] at SP SZ LE
  clear hm
  by_cases h4 : ps.length = 4
  · obtain ⟨n, l, m, k, rfl⟩ : ∃ n l m k, ps = [n, l, m, k] := by
      match ps, h4 with
      | [n, l, m, k], _ => exact ⟨n, l, m, k, rfl⟩
    have sn := SZ.out n (by simp)
    have sl := SZ.out l (by simp)
    have sm := SZ.out m (by simp)
    have sk := SZ.out k (by simp)
    have HA : Hid (accOf line = accIf ⟨n, l, membersOf m, k⟩) := by show _ = _; unfold accOf; rw [← hps]
    have MO := Lib.hid (fun w hw => membersOf_any w m (by omega) hw)
    have MS : Hid ((∀ x ∈ membersOf m, x.size ≤ 65536) ∧ (membersOf m).length ≤ 65537) := by
      unfold membersOf
      split
      · exact ⟨fun x hx => by simp at hx, by simp⟩
      · exact ⟨fun x hx => by have := cutB_sizes 44 m x hx; omega, by have := cutB_le 44 m; omega⟩
    obtain ⟨ms, hms⟩ : ∃ ms, ms = membersOf m := ⟨_, rfl⟩
    rw [← hms] at HA MO MS
    have FM : Hid (∀ w v, Mem w v ms → Calls Tryz.prog 58 #[accV n l k v] w (OutF w (form ⟨n, l, ms, k⟩))) := fun w v h => mustHaveForm_any w ⟨n, l, ms, k⟩ v h (by show n.size ≤ _; omega) (by show l.size ≤ _; omega) (by show k.size ≤ _; omega) (fun x hx => by have := MS.out.1 x hx; omega) (by show ms.length ≤ _; have := MS.out.2; omega)
    obtain ⟨z, hz⟩ : ∃ z, z = form ⟨n, l, ms, k⟩ := ⟨_, rfl⟩
    have HA2 : Hid (accOf line = if z = true then some ⟨n, l, ms, k⟩ else none) := by rw [hz]; exact HA.out
    rw [← hz] at FM
    unfold accV at FM
    clear HPS hps h4 LE SZ hms hz HA MS
    simp only [List.length_cons, List.length_nil, Nat.reduceAdd] at SP
    go_enter Tryz.func48, Tryz.ntmps48
    go_wp2_with fail
    obtain ⟨w1, hw1⟩ : ∃ w1, w1 = w.alloc (.cells #[.string ⟨#[]⟩, .string ⟨#[]⟩, .slice none 0 0, .string ⟨#[]⟩] 35) := ⟨_, rfl⟩
    obtain ⟨R2, hR2⟩ : ∃ R, R = w.heap.size := ⟨_, rfl⟩
    have K1 : Hid (Kept [] w w1) := by rw [hw1]; exact (Kept.refl _ _).alloc _
    have B2 : Hid (w1.heap[R2]? = some (.cells #[.string ⟨#[]⟩, .string ⟨#[]⟩, .slice none 0 0, .string ⟨#[]⟩] 35 (0, 0))) := by rw [hw1, hR2]; exact (MapKept.heap_alloc w _).1
    have ZR : Hid (w.heap.size ≤ R2) := by show _ ≤ _; omega
    rw [← hw1, ← hR2]
    clear hw1 hR2
    refine (SP.out w1 K1.out).mono ?_
    rintro e w2 ⟨rfl, hm2, k2⟩
    obtain ⟨G, hG⟩ : ∃ G, G = w1.heap.size := ⟨_, rfl⟩
    rw [← hG] at hm2 ⊢
    have K2 : Hid (Kept [] w w2) := K1.out.trans k2 (fun i hi => by simp at hi)
    have B22 := Lib.hid ((k2.block _ (block_lt B2.out) (by simp)).trans B2.out)
    have CELLS : Hid (∀ wr, Kept [] w2 wr → wr.cell? ⟨G, 0, none⟩ = some (.string n) ∧ wr.cell? ⟨G, 1, none⟩ = some (.string l) ∧ wr.cell? ⟨G, 2, none⟩ = some (.string m) ∧ wr.cell? ⟨G, 3, none⟩ = some (.string k)) := fun wr kk => by
      have hr := hm2.kept0 kk
      refine ⟨?_, ?_, ?_, ?_⟩
      · exact World.ownsRow.cellAt hr 0 (by decide)
      · exact World.ownsRow.cellAt hr 1 (by decide)
      · exact World.ownsRow.cellAt hr 2 (by decide)
      · exact World.ownsRow.cellAt hr 3 (by decide)
    have GL : Hid (G < w2.heap.size) := by
      rcases hm2.2 with ⟨h, _⟩ | ⟨g, cap, cur, e, _, hg, _⟩
      · cases h
      · cases e; exact block_lt hg
    have MLk : Hid (∀ wr, Kept [] w2 wr → Ml wr) := fun wr kk => ML.out.kept0 (K2.out.trans kk (fun i hi => by simp at hi))
    clear hm2 k2 SP hG K1 B2 ML
    obtain ⟨c0, c1, c2, c3⟩ := CELLS.out w2 (Kept.refl _ _)
    have kd : Kept [] w2 w2.drew := (Kept.refl [] w2).drew
    obtain ⟨wa, hwa⟩ : ∃ wa, wa = w2.alloc (.cells #[.string ⟨#[]⟩, .string ⟨#[]⟩, .slice none 0 0, .string ⟨#[]⟩] 35) := ⟨_, rfl⟩
    have ka : Kept [] w2 (w2.alloc (.cells #[.string ⟨#[]⟩, .string ⟨#[]⟩, .slice none 0 0, .string ⟨#[]⟩] 35)).drew := ((Kept.refl [] w2).alloc _).drew
    have MEET : Hid (∀ w0 w1 vv (va : Option Addr) (vc : Nat), w0.heap[w1]? = some (.cells #[.string ⟨#[]⟩, .string ⟨#[]⟩, .slice none 0 0, .string ⟨#[]⟩] 35 (0, 0)) → w2.heap.size ≤ w1 → Kept [] w2 w0 → Mem w0 (.slice va ms.length vc) ms → (∀ b, (Value.slice va ms.length vc).ownBlock = some b → w.heap.size ≤ b ∧ b ≠ w1) → vv = World.setCell (World.setCell (World.setCell (World.setCell w0 ⟨w1, 0, none⟩ (.string n)) ⟨w1, 1, none⟩ (.string l)) ⟨w1, 2, none⟩ (.slice va ms.length vc)) ⟨w1, 3, none⟩ (.string k) → Hid (vv.heap[w1]? = some (.cells #[.string n, .string l, .slice va ms.length vc, .string k] 35 (0, 0))) ∧ Hid (Mem vv (.slice va ms.length vc) ms) ∧ Hid (∀ b, (Value.slice va ms.length vc).ownBlock = some b → w.heap.size ≤ b) ∧ Hid (Kept [] w2 vv)) := by
      intro w0 A vv va vc h1 h2 h3 h4 h5 h6
      have q0 := heap_set (i := 0) (Value.string n) h1
      have q1 := heap_set (i := 1) (Value.string l) q0
      have q2 := heap_set (i := 2) (Value.slice va ms.length vc) q1
      have q3 := heap_set (i := 3) (Value.string k) q2
      have kk : Kept [A] w0 vv := by rw [h6]; exact ((((Kept.refl [A] w0).setCell (p := ⟨A, 0, none⟩) (Or.inl (by simp)) _).setCell (p := ⟨A, 1, none⟩) (Or.inl (by simp)) _).setCell (p := ⟨A, 2, none⟩) (Or.inl (by simp)) _).setCell (p := ⟨A, 3, none⟩) (Or.inl (by simp)) _
      refine ⟨?_, ?_, fun b hb => (h5 b hb).1, h3.trans kk (fun i hi => by simp at hi; omega)⟩
      · show _ = _
        rw [h6, q3]
        simp
      · exact h4.kept kk (fun b hb hm => by simp at hm; exact (h5 b hb).2 hm)
    clear hwa
    go_upto_region 4 with (fail)
    go_cut [4] from 11 to 24 (fun s4 wx => ∃ (A : Nat) (va : Option Addr) (vc : Nat), s4 = .pointer (some ⟨A, 0, none⟩) ∧ Hid (wx.heap[A]? = some (.cells #[.string n, .string l, .slice va ms.length vc, .string k] 35 (0, 0))) ∧ Hid (Mem wx (.slice va ms.length vc) ms) ∧ Hid (∀ b, (Value.slice va ms.length vc).ownBlock = some b → w.heap.size ≤ b) ∧ Hid (Kept [] w2 wx))
    case first =>
      go_region_held3 (fun w' => w'.cell? ⟨G, 0, none⟩ = some (Value.string n) ∧ w'.cell? ⟨G, 1, none⟩ = some (Value.string l) ∧ w'.cell? ⟨G, 2, none⟩ = some (Value.string m) ∧ w'.cell? ⟨G, 3, none⟩ = some (Value.string k)) (first | exact CELLS.out _ kd | exact CELLS.out _ ka | exact CELLS.out _ K4 | exact CELLS.out _ (K4.alloc _) | exact CELLS.out _ (set4 (K4.alloc _) K4.size _ _ _ _) | exact CELLS.out _ (set4 K4 (Nat.le_refl _) _ _ _ _)) (first | (go_at_call 85; refine (MO.out _ (MLk.out _ kd)).mono ?_; rintro e w4 ⟨v, rfl, hm4, k4, hf4⟩; obtain ⟨va, vc, rfl⟩ := hm4.slice; have K4 : Kept [] w2 w4 := kd.trans k4 (fun i hi => by simp at hi)) | (go_at_call 85; refine (MO.out _ (MLk.out _ ka)).mono ?_; rintro e w4 ⟨v, rfl, hm4, k4, hf4⟩; obtain ⟨va, vc, rfl⟩ := hm4.slice; have K4 : Kept [] w2 w4 := ka.trans k4 (fun i hi => by simp at hi); have hA4 := (k4.block w2.heap.size (by simp) (by simp)).trans (show ((w2.alloc (.cells #[.string ⟨#[]⟩, .string ⟨#[]⟩, .slice none 0 0, .string ⟨#[]⟩] 35)).drew).heap[w2.heap.size]? = _ from (MapKept.heap_alloc w2 _).1); obtain ⟨p0, p1, p2, p3, pf⟩ := four hA4))
      · go_wp2_with fail
        go_meet
        have f4 : ∀ b, (Value.slice va ms.length vc).ownBlock = some b → w.heap.size ≤ b := fun b hb => Nat.le_trans K2.out.size (hf4 b hb)
        have m4 := hm4.kept0 ((Kept.refl [] w4).alloc (.cells #[.string n, .string l, .slice va ms.length vc, .string k] 35))
        exact ⟨w4.heap.size, va, vc, rfl, (MapKept.heap_alloc w4 _).1, m4, f4, K4.alloc _⟩
      · go_wp2_with fail
        go_meet
        have f4 : ∀ b, (Value.slice va ms.length vc).ownBlock = some b → w.heap.size ≤ b ∧ b ≠ w2.heap.size := fun b hb => by have h1 := hf4 b hb; have h2 := K2.out.size; simp at h1; omega
        exact ⟨w2.heap.size, va, vc, rfl, MEET.out w4 w2.heap.size _ va vc hA4 (Nat.le_refl _) K4 hm4 f4 rfl⟩
    case rest =>
      obtain ⟨A, va, vc, rfl, hA, hM, hF, hK⟩ := hcut
      have ALLW : Hid (∀ wr, Kept [] wc wr → (wr.cell? ⟨A, 0, none⟩ = some (.string n) ∧ wr.cell? ⟨A, 1, none⟩ = some (.string l) ∧ wr.cell? ⟨A, 2, none⟩ = some (.slice va ms.length vc) ∧ wr.cell? ⟨A, 3, none⟩ = some (.string k)) ∧ wr.heap[R2]? = some (.cells #[.string ⟨#[]⟩, .string ⟨#[]⟩, .slice none 0 0, .string ⟨#[]⟩] 35 (0, 0)) ∧ Kept [] w wr ∧ Mem wr (.slice va ms.length vc) ms) := fun wr kk => by
        have b := (kk.block _ (block_lt hA.out) (by simp)).trans hA.out
        have k2 := hK.out.trans kk (fun i hi => by simp at hi)
        have br := (k2.block _ (block_lt B22.out) (by simp)).trans B22.out
        obtain ⟨q0, q1, q2, q3, -⟩ := four b
        exact ⟨⟨q0, q1, q2, q3⟩, br, K2.out.trans k2 (fun i hi => by simp at hi), hM.out.kept0 kk⟩
      obtain ⟨⟨q0, q1, q2, q3⟩, -, -, hMc⟩ := ALLW.out wc (Kept.refl _ _)
      have FMc := Lib.hid (FM.out wc _ hMc)
      clear FM hM hA hK MLk CELLS GL c0 c1 c2 c3 kd ka MEET MO B22 hMc
      cases z with
      | false =>
        have FN : Hid (Calls Tryz.prog 58 #[.agg #[.string n, .string l, .slice va ms.length vc, .string k]] wc fun e w' => e = fell 60 ∧ Kept [] wc w') := by
          refine FMc.out.mono ?_
          rintro e w5 (⟨h, -, -⟩ | ⟨-, rfl, k5⟩)
          · cases h
          · exact ⟨rfl, k5⟩
        go_wp2_with (go_at_call 58; refine FN.out.mono ?_; rintro e w5 ⟨rfl, k5⟩)
        exact ⟨rfl, Or.inr ⟨HA2.out, rfl, (ALLW.out w5 k5).2.2.1⟩⟩
      | true =>
        have FY : Hid (Calls Tryz.prog 58 #[.agg #[.string n, .string l, .slice va ms.length vc, .string k]] wc fun e w' => e = .returned (.tuple #[]) ∧ Kept [] wc w') := by
          refine FMc.out.mono ?_
          rintro e w5 (⟨-, rfl, k5⟩ | ⟨h, -, -⟩)
          · exact ⟨rfl, k5⟩
          · cases h
        go_wp2_with (go_at_call 58; refine FY.out.mono ?_; rintro e w5 ⟨rfl, k5⟩; obtain ⟨⟨r0, r1, r2, r3⟩, bR, kW, hM5⟩ := ALLW.out w5 k5; obtain ⟨p0, p1, p2, p3, pf⟩ := four bR)
        obtain ⟨wf, hwf⟩ : ∃ wf, wf = ((((w5.setCell ⟨R2, 0, none⟩ (.string n)).setCell ⟨R2, 1, none⟩ (.string l)).setCell ⟨R2, 2, none⟩ (.slice va ms.length vc)).setCell ⟨R2, 3, none⟩ (.string k)) := ⟨_, rfl⟩
        have bF : wf.heap[R2]? = some (.cells #[.string n, .string l, .slice va ms.length vc, .string k] 35 (0, 0)) := by
          rw [hwf, heap_set (i := 3) (Value.string k) (heap_set (i := 2) (Value.slice va ms.length vc) (heap_set (i := 1) (Value.string l) (heap_set (i := 0) (Value.string n) bR)))]
          simp
        have kF : Kept [R2] w5 wf := by
          rw [hwf]
          exact ((((Kept.refl [R2] w5).setCell (p := ⟨R2, 0, none⟩) (Or.inl (by simp)) _).setCell (p := ⟨R2, 1, none⟩) (Or.inl (by simp)) _).setCell (p := ⟨R2, 2, none⟩) (Or.inl (by simp)) _).setCell (p := ⟨R2, 3, none⟩) (Or.inl (by simp)) _
        have nR : ∀ b, (Value.slice va ms.length vc).ownBlock = some b → b ∉ [R2] := fun b hb hm => by
          simp at hm
          subst hm
          rcases hM5.2 with ⟨h, _⟩ | ⟨g, cap, cur, e, _, hg, _⟩
          · rw [h] at hb; cases hb
          · rw [e] at hb
            have : g = b := by simpa [Value.ownBlock] using hb
            subst this
            rw [bR] at hg
            cases hg
        have kWF : Kept [] w wf := kW.trans kF (fun i hi => by simp at hi; subst hi; exact Or.inr ZR.out)
        obtain ⟨g0, g1, g2, g3, -⟩ := four bF
        rw [← hwf]
        clear hwf bR p0 p1 p2 p3 pf r0 r1 r2 r3
        refine bodyPost_ret (v := .agg #[.string n, .string l, .slice va ms.length vc, .string k]) (by simp [results, Tryz.results48, go_sem, g0, g1, g2, g3]) rfl ?_
        exact Or.inl ⟨⟨n, l, ms, k⟩, .slice va ms.length vc, HA2.out, rfl, hM5.kept kF nR, hF, kWF⟩
  · have HN : Hid (accOf line = none) := accOf_not (by rw [← HPS.out]; exact h4)
    obtain ⟨L, hL⟩ : ∃ L, L = ps.length := ⟨_, rfl⟩
    have h4i : ¬ (L : Int) = 4 := by omega
    have h4b : ((L : Int) == 4) = false := by rw [beq_eq_false_iff_ne]; exact h4i
    have SP1 : Hid (∀ w', Kept [] w w' → Calls Tryz.prog 45 #[.string line, .string ⟨#[58]⟩] w' fun e w'_1 => e = .returned (.slice (some ⟨w'.heap.size, 0, none⟩) L L) ∧ Kept [] w' w'_1) := fun w' k => by
      refine (SP.out w' k).mono ?_
      rintro e w2 ⟨rfl, -, k2⟩
      rw [hL]
      exact ⟨rfl, k2⟩
    clear SP HPS hps h4 LE SZ hL h4i
    have K0 : Hid (Kept [] w (w.alloc (.cells #[.string ⟨#[]⟩, .string ⟨#[]⟩, .slice none 0 0, .string ⟨#[]⟩] 35))) := (Kept.refl _ _).alloc _
    go_enter Tryz.func48, Tryz.ntmps48
    go_wp2_with (first | (go_at_call 45; refine (SP1.out _ K0.out).mono ?_; rintro e w2 ⟨rfl, k2⟩) | (go_at_call 62; refine (giveUp_any _ 60).mono ?_; rintro e w4 ⟨rfl, rfl⟩))
    exact ⟨rfl, Or.inr ⟨HN.out, rfl, K0.out.trans k2 (fun i hi => by simp at hi)⟩⟩
end Us
end Go.Proofs.YteeheapenfklcaaGreatDoor
