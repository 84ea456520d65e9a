/- users: a line as an account (strings.Split, membersOf, accountOf). users: a table in memory: its three cells, two maps, its accounts. users: what a table tells: Known, Member, account, Leads; a new one. users: an account copied; slices.Clone. -/
import Derived.Deep.RegionHeld3
import Derived.Deep.Cut
import Derived.Deep.CutRange
import Derived.DeepKeys5
import Derived.Test.YtahjmpfjidijaaaGreatDoorGab
import Derived.Test.YtahjmpfjidijaaaGreatDoorGad
section
namespace Go.Proofs.YtahjmpfjidijaaaGreatDoor
set_option linter.unusedVariables false
open Go.RowKit Go.Shelf
attribute [local go_sem] Oper.semAt_some
namespace Us
open Go.Proofs.YtahjmpfjidijaaaGreatDoor.Utf Go.Proofs.YtahjmpfjidijaaaGreatDoor.Txt Go.PlainAid

/-- internal/bytealg's MaxLen holds some number. -/
def Ml (w : World) : Prop := ∃ m, w.cell? ⟨0, 0, none⟩ = some (.int .i64 m)
theorem Ml.kept {w w' : World} {S : List Nat} (h : Ml w) (k : Kept S w w') (hn : 0 ∉ S) : Ml w' := by
  obtain ⟨m, h⟩ := h
  refine ⟨m, ?_⟩
  have hb := World.block_lt_of_cell? _ _ h
  have := k.block _ hb hn
  unfold World.cell? at h ⊢
  simp only [this]
  exact h
theorem Ml.kept0 {w w' : World} (h : Ml w) (k : Kept [] w w') : Ml w' := h.kept k (by simp)
theorem info_s : (Tryz.prog.info? 9).map (fun i => (i.zero, i.size, i.bytes)) = some (some (.string ByteArray.empty), 1, 16) := by kernel_rfl
theorem split_any (w : World) (c : UInt8) (s : ByteArray) (hs : s.size ≤ 1048576) (hm : Ml w) :
    Calls Tryz.prog 52 #[.string s, .string ⟨#[c]⟩] w fun e w' => e = .returned (.slice (some ⟨w.heap.size, 0, none⟩) (cutB c s).length (cutB c s).length) ∧ Mem w' (.slice (some ⟨w.heap.size, 0, none⟩) (cutB c s).length (cutB c s).length) (cutB c s) ∧ Kept [] w w' := by
  obtain ⟨m, hm⟩ := hm
  refine (Tryz.strings_Split s ⟨#[c]⟩ m w (by omega) hm (Nat.le_refl 1)).mono ?_
  rintro e w' ⟨rfl, rfl⟩
  rw [← cutB_length]
  refine ⟨rfl, ⟨by simp, Or.inr ⟨_, _, _, rfl, Nat.zero_le _, (MapKept.heap_alloc w _).1, Nat.le_refl _, ?_, ?_, ?_⟩⟩, (Kept.refl _ _).alloc _⟩
  · have := cutB_le c s; unfold maxLen; omega
  · simp [cutB]
  · show List.take _ ((cutB c s).map Value.string).toArray.toList = (cutB c s).map sv
    simp only [Nat.mul_one]
    rw [List.take_of_length_le (by simp)]
    rfl

set_option maxHeartbeats 4000000 in
set_option maxRecDepth 100000 in
theorem membersOf_any (w : World) (s : ByteArray) (hs : s.size ≤ 1048576) (hm : Ml w) :
    Calls Tryz.prog 99 #[.string s] w fun e w' => ∃ v, e = .returned v ∧ Mem w' v (membersOf s) ∧ Kept [] w w' ∧ ∀ b, v.ownBlock = some b → w.heap.size ≤ b := by
  have SP := Lib.hid (split_any w 44 s hs hm)
  by_cases h0 : s.size = 0
  · have h1 := lead_eq h0
    have hv : membersOf s = [] := by unfold membersOf; rw [if_pos h0]
    rw [hv]
    clear h0
    go_enter Tryz.func99, Tryz.ntmps99
    go_wp2_with fail
    go_ret
    exact ⟨_, rfl, World.ownsRow_nil _ _ _ _, Kept.refl _ _, fun b h => by cases h⟩
  · have h1 := lead_ne h0
    have b1 : s.toList.isEmpty = false := by rw [List.isEmpty_eq_false_iff]; exact h1
    have b0 : (s.toList == []) = false := by rw [beq_eq_false_iff_ne]; exact h1
    have hv : membersOf s = cutB 44 s := by unfold membersOf; rw [if_neg h0]
    rw [hv]
    obtain ⟨ps, hps⟩ : ∃ ps, ps = cutB 44 s := ⟨_, rfl⟩
    rw [← hps] at SP ⊢
    clear h0 h1 hps hv
    go_enter Tryz.func99, Tryz.ntmps99
    go_wp2_with (go_at_call 52; refine SP.out.mono ?_; rintro e w1 ⟨rfl, m1, k1⟩)
    go_ret
    exact ⟨_, rfl, m1, k1, fun b h => by cases h; exact Nat.le_refl _⟩
/-- What comes of a line. -/
def OutA (w : World) (line : ByteArray) (e : Ending) (w' : World) : Prop :=
  (∃ a v, accOf line = some a ∧ e = .returned (accV a.name a.leader a.key v) ∧ Hid (Mem w' v a.members) ∧ Hid (∀ b, v.ownBlock = some b → w.heap.size ≤ b) ∧ Hid (Kept [] w w')) ∨ (accOf line = none ∧ e = fell 60 ∧ Hid (Kept [] w w'))
theorem accOf_not {line : ByteArray} (h : (cutB 58 line).length ≠ 4) : accOf line = none := by
  unfold accOf
  match hc : cutB 58 line with
  | [] => rfl
  | [_] => rfl
  | [_, _] => rfl
  | [_, _, _] => rfl
  | [_, _, _, _] => rw [hc] at h; exact absurd rfl h
  | _ :: _ :: _ :: _ :: _ :: _ => rfl
theorem set4 {a w : World} {A : Nat} (h : Kept [] a w) (hA : a.heap.size ≤ A) (x y z u : Value) : Kept [] a ((((w.setCell ⟨A, 0, none⟩ x).setCell ⟨A, 1, none⟩ y).setCell ⟨A, 2, none⟩ z).setCell ⟨A, 3, none⟩ u) :=
  (((h.setCell (p := ⟨A, 0, none⟩) (Or.inr hA) _).setCell (p := ⟨A, 1, none⟩) (Or.inr hA) _).setCell (p := ⟨A, 2, none⟩) (Or.inr hA) _).setCell (p := ⟨A, 3, none⟩) (Or.inr hA) _
set_option maxHeartbeats 8000000 in
set_option maxRecDepth 100000 in
theorem accountOf_any (w : World) (line : ByteArray) (hs : line.size ≤ 65536) (hm : Ml w) :
    Calls Tryz.prog 55 #[.string line] w (OutA w line) := by
  have SP : Hid (∀ w', Kept [] w w' → _) := fun w' k => split_any w' 58 line (by omega) (hm.kept0 k)
  have SZ := Lib.hid (cutB_sizes 58 line)
  have LE := cutB_le 58 line
  have ML := Lib.hid hm
  obtain ⟨ps, hps⟩ : ∃ ps, ps = cutB 58 line := ⟨_, rfl⟩
  have HPS := Lib.hid hps
  rw [← hps] at SP SZ LE
  clear hm
  by_cases h4 : ps.length = 4
  · obtain ⟨n, l, m, k, rfl⟩ : ∃ n l m k, ps = [n, l, m, k] := by
      match ps, h4 with
      | [n, l, m, k], _ => exact ⟨n, l, m, k, rfl⟩
    have sn := SZ.out n (by simp)
    have sl := SZ.out l (by simp)
    have sm := SZ.out m (by simp)
    have sk := SZ.out k (by simp)
    have HA : Hid (accOf line = accIf ⟨n, l, membersOf m, k⟩) := by show _ = _; unfold accOf; rw [← hps]
    have MO := Lib.hid (fun w hw => membersOf_any w m (by omega) hw)
    have MS : Hid ((∀ x ∈ membersOf m, x.size ≤ 65536) ∧ (membersOf m).length ≤ 65537) := by
      unfold membersOf
      split
      · exact ⟨fun x hx => by simp at hx, by simp⟩
      · exact ⟨fun x hx => by have := cutB_sizes 44 m x hx; omega, by have := cutB_le 44 m; omega⟩
    obtain ⟨ms, hms⟩ : ∃ ms, ms = membersOf m := ⟨_, rfl⟩
    rw [← hms] at HA MO MS
    have FM : Hid (∀ w v, Mem w v ms → Calls Tryz.prog 87 #[accV n l k v] w (OutF w (form ⟨n, l, ms, k⟩))) := fun w v h => mustHaveForm_any w ⟨n, l, ms, k⟩ v h (by show n.size ≤ _; omega) (by show l.size ≤ _; omega) (by show k.size ≤ _; omega) (fun x hx => by have := MS.out.1 x hx; omega) (by show ms.length ≤ _; have := MS.out.2; omega)
    obtain ⟨z, hz⟩ : ∃ z, z = form ⟨n, l, ms, k⟩ := ⟨_, rfl⟩
    have HA2 : Hid (accOf line = if z = true then some ⟨n, l, ms, k⟩ else none) := by rw [hz]; exact HA.out
    rw [← hz] at FM
    unfold accV at FM
    clear HPS hps h4 LE SZ hms hz HA MS
    simp only [List.length_cons, List.length_nil, Nat.reduceAdd] at SP
    go_enter Tryz.func55, Tryz.ntmps55
    go_wp2_with fail
    obtain ⟨w1, hw1⟩ : ∃ w1, w1 = w.alloc (.cells #[.string ⟨#[]⟩, .string ⟨#[]⟩, .slice none 0 0, .string ⟨#[]⟩] 79) := ⟨_, rfl⟩
    obtain ⟨R2, hR2⟩ : ∃ R, R = w.heap.size := ⟨_, rfl⟩
    have K1 : Hid (Kept [] w w1) := by rw [hw1]; exact (Kept.refl _ _).alloc _
    have B2 : Hid (w1.heap[R2]? = some (.cells #[.string ⟨#[]⟩, .string ⟨#[]⟩, .slice none 0 0, .string ⟨#[]⟩] 79 (0, 0))) := by rw [hw1, hR2]; exact (MapKept.heap_alloc w _).1
    have ZR : Hid (w.heap.size ≤ R2) := by show _ ≤ _; omega
    rw [← hw1, ← hR2]
    clear hw1 hR2
    refine (SP.out w1 K1.out).mono ?_
    rintro e w2 ⟨rfl, hm2, k2⟩
    obtain ⟨G, hG⟩ : ∃ G, G = w1.heap.size := ⟨_, rfl⟩
    rw [← hG] at hm2 ⊢
    have K2 : Hid (Kept [] w w2) := K1.out.trans k2 (fun i hi => by simp at hi)
    have B22 := Lib.hid ((k2.block _ (block_lt B2.out) (by simp)).trans B2.out)
    have CELLS : Hid (∀ wr, Kept [] w2 wr → wr.cell? ⟨G, 0, none⟩ = some (.string n) ∧ wr.cell? ⟨G, 1, none⟩ = some (.string l) ∧ wr.cell? ⟨G, 2, none⟩ = some (.string m) ∧ wr.cell? ⟨G, 3, none⟩ = some (.string k)) := fun wr kk => by
      have hr := hm2.kept0 kk
      refine ⟨?_, ?_, ?_, ?_⟩
      · exact World.ownsRow.cellAt hr 0 (by decide)
      · exact World.ownsRow.cellAt hr 1 (by decide)
      · exact World.ownsRow.cellAt hr 2 (by decide)
      · exact World.ownsRow.cellAt hr 3 (by decide)
    have GL : Hid (G < w2.heap.size) := by
      rcases hm2.2 with ⟨h, _⟩ | ⟨g, cap, cur, e, _, hg, _⟩
      · cases h
      · cases e; exact block_lt hg
    have MLk : Hid (∀ wr, Kept [] w2 wr → Ml wr) := fun wr kk => ML.out.kept0 (K2.out.trans kk (fun i hi => by simp at hi))
    clear hm2 k2 SP hG K1 B2 ML
    obtain ⟨c0, c1, c2, c3⟩ := CELLS.out w2 (Kept.refl _ _)
    have kd : Kept [] w2 w2.drew := (Kept.refl [] w2).drew
    obtain ⟨wa, hwa⟩ : ∃ wa, wa = w2.alloc (.cells #[.string ⟨#[]⟩, .string ⟨#[]⟩, .slice none 0 0, .string ⟨#[]⟩] 79) := ⟨_, rfl⟩
    have ka : Kept [] w2 (w2.alloc (.cells #[.string ⟨#[]⟩, .string ⟨#[]⟩, .slice none 0 0, .string ⟨#[]⟩] 79)).drew := ((Kept.refl [] w2).alloc _).drew
    have MEET : Hid (∀ w0 w1 vv (va : Option Addr) (vc : Nat), w0.heap[w1]? = some (.cells #[.string ⟨#[]⟩, .string ⟨#[]⟩, .slice none 0 0, .string ⟨#[]⟩] 79 (0, 0)) → w2.heap.size ≤ w1 → Kept [] w2 w0 → Mem w0 (.slice va ms.length vc) ms → (∀ b, (Value.slice va ms.length vc).ownBlock = some b → w.heap.size ≤ b ∧ b ≠ w1) → vv = World.setCell (World.setCell (World.setCell (World.setCell w0 ⟨w1, 0, none⟩ (.string n)) ⟨w1, 1, none⟩ (.string l)) ⟨w1, 2, none⟩ (.slice va ms.length vc)) ⟨w1, 3, none⟩ (.string k) → Hid (vv.heap[w1]? = some (.cells #[.string n, .string l, .slice va ms.length vc, .string k] 79 (0, 0))) ∧ Hid (Mem vv (.slice va ms.length vc) ms) ∧ Hid (∀ b, (Value.slice va ms.length vc).ownBlock = some b → w.heap.size ≤ b) ∧ Hid (Kept [] w2 vv)) := by
      intro w0 A vv va vc h1 h2 h3 h4 h5 h6
      have q0 := heap_set (i := 0) (Value.string n) h1
      have q1 := heap_set (i := 1) (Value.string l) q0
      have q2 := heap_set (i := 2) (Value.slice va ms.length vc) q1
      have q3 := heap_set (i := 3) (Value.string k) q2
      have kk : Kept [A] w0 vv := by rw [h6]; exact ((((Kept.refl [A] w0).setCell (p := ⟨A, 0, none⟩) (Or.inl (by simp)) _).setCell (p := ⟨A, 1, none⟩) (Or.inl (by simp)) _).setCell (p := ⟨A, 2, none⟩) (Or.inl (by simp)) _).setCell (p := ⟨A, 3, none⟩) (Or.inl (by simp)) _
      refine ⟨?_, ?_, fun b hb => (h5 b hb).1, h3.trans kk (fun i hi => by simp at hi; omega)⟩
      · show _ = _
        rw [h6, q3]
        simp
      · exact h4.kept kk (fun b hb hm => by simp at hm; exact (h5 b hb).2 hm)
    clear hwa
    go_upto_region 4 with (fail)
    go_cut [4] from 11 to 24 (fun s4 wx => ∃ (A : Nat) (va : Option Addr) (vc : Nat), s4 = .pointer (some ⟨A, 0, none⟩) ∧ Hid (wx.heap[A]? = some (.cells #[.string n, .string l, .slice va ms.length vc, .string k] 79 (0, 0))) ∧ Hid (Mem wx (.slice va ms.length vc) ms) ∧ Hid (∀ b, (Value.slice va ms.length vc).ownBlock = some b → w.heap.size ≤ b) ∧ Hid (Kept [] w2 wx))
    case first =>
      go_region_held3 (fun w' => w'.cell? ⟨G, 0, none⟩ = some (Value.string n) ∧ w'.cell? ⟨G, 1, none⟩ = some (Value.string l) ∧ w'.cell? ⟨G, 2, none⟩ = some (Value.string m) ∧ w'.cell? ⟨G, 3, none⟩ = some (Value.string k)) (first | exact CELLS.out _ kd | exact CELLS.out _ ka | exact CELLS.out _ K4 | exact CELLS.out _ (K4.alloc _) | exact CELLS.out _ (set4 (K4.alloc _) K4.size _ _ _ _) | exact CELLS.out _ (set4 K4 (Nat.le_refl _) _ _ _ _)) (first | (go_at_call 99; refine (MO.out _ (MLk.out _ kd)).mono ?_; rintro e w4 ⟨v, rfl, hm4, k4, hf4⟩; obtain ⟨va, vc, rfl⟩ := hm4.slice; have K4 : Kept [] w2 w4 := kd.trans k4 (fun i hi => by simp at hi)) | (go_at_call 99; refine (MO.out _ (MLk.out _ ka)).mono ?_; rintro e w4 ⟨v, rfl, hm4, k4, hf4⟩; obtain ⟨va, vc, rfl⟩ := hm4.slice; have K4 : Kept [] w2 w4 := ka.trans k4 (fun i hi => by simp at hi); have hA4 := (k4.block w2.heap.size (by simp) (by simp)).trans (show ((w2.alloc (.cells #[.string ⟨#[]⟩, .string ⟨#[]⟩, .slice none 0 0, .string ⟨#[]⟩] 79)).drew).heap[w2.heap.size]? = _ from (MapKept.heap_alloc w2 _).1); obtain ⟨p0, p1, p2, p3, pf⟩ := four hA4))
      · go_wp2_with fail
        go_meet
        have f4 : ∀ b, (Value.slice va ms.length vc).ownBlock = some b → w.heap.size ≤ b := fun b hb => Nat.le_trans K2.out.size (hf4 b hb)
        have m4 := hm4.kept0 ((Kept.refl [] w4).alloc (.cells #[.string n, .string l, .slice va ms.length vc, .string k] 79))
        exact ⟨w4.heap.size, va, vc, rfl, (MapKept.heap_alloc w4 _).1, m4, f4, K4.alloc _⟩
      · go_wp2_with fail
        go_meet
        have f4 : ∀ b, (Value.slice va ms.length vc).ownBlock = some b → w.heap.size ≤ b ∧ b ≠ w2.heap.size := fun b hb => by have h1 := hf4 b hb; have h2 := K2.out.size; simp at h1; omega
        exact ⟨w2.heap.size, va, vc, rfl, MEET.out w4 w2.heap.size _ va vc hA4 (Nat.le_refl _) K4 hm4 f4 rfl⟩
    case rest =>
      obtain ⟨A, va, vc, rfl, hA, hM, hF, hK⟩ := hcut
      have ALLW : Hid (∀ wr, Kept [] wc wr → (wr.cell? ⟨A, 0, none⟩ = some (.string n) ∧ wr.cell? ⟨A, 1, none⟩ = some (.string l) ∧ wr.cell? ⟨A, 2, none⟩ = some (.slice va ms.length vc) ∧ wr.cell? ⟨A, 3, none⟩ = some (.string k)) ∧ wr.heap[R2]? = some (.cells #[.string ⟨#[]⟩, .string ⟨#[]⟩, .slice none 0 0, .string ⟨#[]⟩] 79 (0, 0)) ∧ Kept [] w wr ∧ Mem wr (.slice va ms.length vc) ms) := fun wr kk => by
        have b := (kk.block _ (block_lt hA.out) (by simp)).trans hA.out
        have k2 := hK.out.trans kk (fun i hi => by simp at hi)
        have br := (k2.block _ (block_lt B22.out) (by simp)).trans B22.out
        obtain ⟨q0, q1, q2, q3, -⟩ := four b
        exact ⟨⟨q0, q1, q2, q3⟩, br, K2.out.trans k2 (fun i hi => by simp at hi), hM.out.kept0 kk⟩
      obtain ⟨⟨q0, q1, q2, q3⟩, -, -, hMc⟩ := ALLW.out wc (Kept.refl _ _)
      have FMc := Lib.hid (FM.out wc _ hMc)
      clear FM hM hA hK MLk CELLS GL c0 c1 c2 c3 kd ka MEET MO B22 hMc
      cases z with
      | false =>
        have FN : Hid (Calls Tryz.prog 87 #[.agg #[.string n, .string l, .slice va ms.length vc, .string k]] wc fun e w' => e = fell 60 ∧ Kept [] wc w') := by
          refine FMc.out.mono ?_
          rintro e w5 (⟨h, -, -⟩ | ⟨-, rfl, k5⟩)
          · cases h
          · exact ⟨rfl, k5⟩
        go_wp2_with (go_at_call 87; refine FN.out.mono ?_; rintro e w5 ⟨rfl, k5⟩)
        exact ⟨rfl, Or.inr ⟨HA2.out, rfl, (ALLW.out w5 k5).2.2.1⟩⟩
      | true =>
        have FY : Hid (Calls Tryz.prog 87 #[.agg #[.string n, .string l, .slice va ms.length vc, .string k]] wc fun e w' => e = .returned (.tuple #[]) ∧ Kept [] wc w') := by
          refine FMc.out.mono ?_
          rintro e w5 (⟨-, rfl, k5⟩ | ⟨h, -, -⟩)
          · exact ⟨rfl, k5⟩
          · cases h
        go_wp2_with (go_at_call 87; refine FY.out.mono ?_; rintro e w5 ⟨rfl, k5⟩; obtain ⟨⟨r0, r1, r2, r3⟩, bR, kW, hM5⟩ := ALLW.out w5 k5; obtain ⟨p0, p1, p2, p3, pf⟩ := four bR)
        obtain ⟨wf, hwf⟩ : ∃ wf, wf = ((((w5.setCell ⟨R2, 0, none⟩ (.string n)).setCell ⟨R2, 1, none⟩ (.string l)).setCell ⟨R2, 2, none⟩ (.slice va ms.length vc)).setCell ⟨R2, 3, none⟩ (.string k)) := ⟨_, rfl⟩
        have bF : wf.heap[R2]? = some (.cells #[.string n, .string l, .slice va ms.length vc, .string k] 79 (0, 0)) := by
          rw [hwf, heap_set (i := 3) (Value.string k) (heap_set (i := 2) (Value.slice va ms.length vc) (heap_set (i := 1) (Value.string l) (heap_set (i := 0) (Value.string n) bR)))]
          simp
        have kF : Kept [R2] w5 wf := by
          rw [hwf]
          exact ((((Kept.refl [R2] w5).setCell (p := ⟨R2, 0, none⟩) (Or.inl (by simp)) _).setCell (p := ⟨R2, 1, none⟩) (Or.inl (by simp)) _).setCell (p := ⟨R2, 2, none⟩) (Or.inl (by simp)) _).setCell (p := ⟨R2, 3, none⟩) (Or.inl (by simp)) _
        have nR : ∀ b, (Value.slice va ms.length vc).ownBlock = some b → b ∉ [R2] := fun b hb hm => by
          simp at hm
          subst hm
          rcases hM5.2 with ⟨h, _⟩ | ⟨g, cap, cur, e, _, hg, _⟩
          · rw [h] at hb; cases hb
          · rw [e] at hb
            have : g = b := by simpa [Value.ownBlock] using hb
            subst this
            rw [bR] at hg
            cases hg
        have kWF : Kept [] w wf := kW.trans kF (fun i hi => by simp at hi; subst hi; exact Or.inr ZR.out)
        obtain ⟨g0, g1, g2, g3, -⟩ := four bF
        rw [← hwf]
        clear hwf bR p0 p1 p2 p3 pf r0 r1 r2 r3
        refine bodyPost_ret (v := .agg #[.string n, .string l, .slice va ms.length vc, .string k]) (by simp [results, Tryz.results55, go_sem, g0, g1, g2, g3]) rfl ?_
        exact Or.inl ⟨⟨n, l, ms, k⟩, .slice va ms.length vc, HA2.out, rfl, hM5.kept kF nR, hF, kWF⟩
  · have HN : Hid (accOf line = none) := accOf_not (by rw [← HPS.out]; exact h4)
    obtain ⟨L, hL⟩ : ∃ L, L = ps.length := ⟨_, rfl⟩
    have h4i : ¬ (L : Int) = 4 := by omega
    have h4b : ((L : Int) == 4) = false := by rw [beq_eq_false_iff_ne]; exact h4i
    have SP1 : Hid (∀ w', Kept [] w w' → Calls Tryz.prog 52 #[.string line, .string ⟨#[58]⟩] w' fun e w'_1 => e = .returned (.slice (some ⟨w'.heap.size, 0, none⟩) L L) ∧ Kept [] w' w'_1) := fun w' k => by
      refine (SP.out w' k).mono ?_
      rintro e w2 ⟨rfl, -, k2⟩
      rw [hL]
      exact ⟨rfl, k2⟩
    clear SP HPS hps h4 LE SZ hL h4i
    have K0 : Hid (Kept [] w (w.alloc (.cells #[.string ⟨#[]⟩, .string ⟨#[]⟩, .slice none 0 0, .string ⟨#[]⟩] 79))) := (Kept.refl _ _).alloc _
    go_enter Tryz.func55, Tryz.ntmps55
    go_wp2_with (first | (go_at_call 52; refine (SP1.out _ K0.out).mono ?_; rintro e w2 ⟨rfl, k2⟩) | (go_at_call 97; refine (giveUp_any _ 60).mono ?_; rintro e w4 ⟨rfl, rfl⟩))
    exact ⟨rfl, Or.inr ⟨HN.out, rfl, K0.out.trans k2 (fun i hi => by simp at hi)⟩⟩
end Us
end Go.Proofs.YtahjmpfjidijaaaGreatDoor
end
section
namespace Go.Proofs.YtahjmpfjidijaaaGreatDoor
set_option linter.unusedVariables false
open Go.RowKit Go.Shelf
attribute [local go_sem] Oper.semAt_some
namespace Us
open Go.Proofs.YtahjmpfjidijaaaGreatDoor.Utf Go.Proofs.YtahjmpfjidijaaaGreatDoor.Txt Go.PlainAid Go.Proofs.YtahjmpfjidijaaaGreatDoor.Mpf

theorem laidOut : laidOutB Tryz.prog = true := by kernel_rfl
theorem rowBo : (145 : TypeId) < Tryz.prog.types.size := of_decide_eq_true (by kernel_rfl)
theorem wideBo : (match Tryz.prog.underlying 145 with | some (.array _ _) | some (.struct _) => true | _ => false) = true := by kernel_rfl
theorem deepBo : Tryz.prog.keyType 145 = true := by kernel_rfl
set_option maxRecDepth 100000 in
theorem lawBo : WideMaps.KeyLaw Tryz.prog 145 := deep_law_laid laidOut (m := 3) (by omega) rowBo (by kernel_rfl) wideBo
theorem cellsBo : Tryz.prog.cellsOf 145 = 2 := by kernel_rfl
theorem cells_str : Tryz.prog.cellsOf 9 = 1 := by kernel_rfl
theorem pos_succ {n m : Nat} (h : m < n) : ∃ k, n = k + 1 := ⟨n - 1, by omega⟩
theorem typesSz : ∃ n, Tryz.prog.types.size = n + 1 := pos_succ rowBo
def boV (x : ByteArray × ByteArray) : Value := .agg #[.string x.1, .string x.2]
theorem boKey (x : ByteArray × ByteArray) (h1 : x.1.size ≤ maxLen) (h2 : x.2.size ≤ maxLen) : ∃ l, keyOf Tryz.prog 145 (boV x) = some l := by
  obtain ⟨n, hn⟩ := typesSz
  have hf : (boV x).formed Tryz.prog 145 = true := by simp [boV, Value.formed, Tryz.underlying145, cellsBo]
  have hl : (Tryz.prog.keyLits (Tryz.prog.types.size + 1) 145 (boV x).cells.toList) = some [.string x.1.data.toList, .string x.2.data.toList] := by
    rw [hn]
    simp [boV, Value.cells, Program.keyLits, Tryz.underlying145, Tryz.underlying9, cellsBo, cells_str, h1, h2]
  exact ⟨.string (keyBytes [.string x.1.data.toList, .string x.2.data.toList]), by unfold keyOf; rw [Tryz.underlying145]; simp only [deepBo, hf, hl, Bool.and_self, if_true, Option.map_some]⟩
/-- Who belongs to whom. -/
noncomputable def bondK : MapK Tryz.prog 145 (ByteArray × ByteArray) where
  enc := boV
  ok x := x.1.size ≤ maxLen ∧ x.2.size ≤ maxLen
  keyed := Go.Maps.Keyed.of_law lawBo
  key x hx := boKey x hx.1 hx.2
  inj x y h := by
    unfold boV at h
    simp at h
    exact Prod.ext h.1 h.2
/-- Names. -/
noncomputable def strK : MapK Tryz.prog 9 ByteArray where
  enc x := .string x
  ok x := x.size ≤ maxLen
  keyed := Go.Maps.string_keyed Tryz.underlying9
  key x hx := ⟨_, by rw [keyOf_string Tryz.underlying9]; simp [mapKey]; exact ⟨hx, rfl⟩⟩
  inj x y h := by simpa using h

/-- An account's cells. -/
def accC (x : Acc × Value) : List Value := [.string x.1.name, .string x.1.leader, x.2, .string x.1.key]
def accs (L : List (Acc × Value)) : List Acc := L.map (·.1)
def plF (T : List Acc) (n : ByteArray) : Option Value := (placeOf T 0 n).map (fun i : Nat => Value.int .i64 (i : Int))
def unitV : Value := .agg #[]
def blF (f : ByteArray × ByteArray → Bool) (x : ByteArray × ByteArray) : Option Value := if f x = true then some unitV else none
/-- A table at p. -/
structure TbX (w : World) (B p : Nat) (sl : Value) (m1 m2 n2 : Nat) (f : ByteArray × ByteArray → Bool) (L : List (Acc × Value)) : Prop where
  box : w.heap[p]? = some (.cells #[sl, .map (some m1), .map (some m2)] 143 (0, 0))
  pl : Mp strK w m1 L.length (plF (accs L))
  bl : Mp bondK w m2 n2 (blF f)
  row : w.ownsRow B 79 4 sl L.length (L.flatMap accC)
  mem : ∀ x ∈ L, Mem w x.2 x.1.members
  far : B ≤ p ∧ B ≤ m1 ∧ B ≤ m2
  ne : m1 ≠ m2
def Tb (w : World) (B p : Nat) (T : List Acc) : Prop := ∃ sl m1 m2 n2 L, TbX w B p sl m1 m2 n2 (bel T) L ∧ accs L = T
theorem own_type {w : World} {base : Nat} {e : TypeId} {size : Nat} {v : Value} {n : Nat} {xs : List Value} (h : w.ownsRow base e size v n xs) : ∀ b, v.ownBlock = some b → ∃ cs, w.heap[b]? = some (.cells cs e (0, 0)) := by
  intro b hb
  rcases h.2 with ⟨rfl, _⟩ | ⟨g, cap, cur, rfl, _, hg, _⟩
  · cases hb
  · simp [Value.ownBlock] at hb
    subst hb
    exact ⟨cur, hg⟩
theorem ne_type {w : World} {b c : Nat} {cs ds : Array Value} {t u : TypeId} {z y : Nat × Nat} (h1 : w.heap[b]? = some (.cells cs t z)) (h2 : w.heap[c]? = some (.cells ds u y)) (ht : t ≠ u) : b ≠ c := by
  rintro rfl
  rw [h1] at h2
  cases h2
  exact ht rfl
theorem TbX.kept {w w' : World} {B p : Nat} {sl : Value} {m1 m2 n2 : Nat} {f : ByteArray × ByteArray → Bool} {L : List (Acc × Value)} (h : TbX w B p sl m1 m2 n2 f L) (k : Kept [] w w') : TbX w' B p sl m1 m2 n2 f L :=
  ⟨(k.block _ (block_lt h.box) (by simp)).trans h.box, h.pl.kept k (by simp), h.bl.kept k (by simp), own_kept h.row k (fun _ _ hm => by cases hm), fun x hx => (h.mem x hx).kept0 k, h.far, h.ne⟩
theorem Tb.kept {w w' : World} {B p : Nat} {T : List Acc} (h : Tb w B p T) (k : Kept [] w w') : Tb w' B p T := by
  obtain ⟨sl, m1, m2, n2, L, h, e⟩ := h
  exact ⟨sl, m1, m2, n2, L, h.kept k, e⟩
end Us
end Go.Proofs.YtahjmpfjidijaaaGreatDoor
end
section
namespace Go.Proofs.YtahjmpfjidijaaaGreatDoor
set_option linter.unusedVariables false
open Go.RowKit Go.Shelf
attribute [local go_sem] Oper.semAt_some
namespace Us
open Go.Proofs.YtahjmpfjidijaaaGreatDoor.Utf Go.Proofs.YtahjmpfjidijaaaGreatDoor.Txt Go.PlainAid Go.Proofs.YtahjmpfjidijaaaGreatDoor.Mpf

theorem zero_int (w : World) : (zeroValue 3).run Tryz.prog w = .ok (.int .i64 0) w := by kernel_rfl
theorem zero_unit (w : World) : (zeroValue 138).run Tryz.prog w = .ok unitV w := by kernel_rfl
section
variable {w : World} {B p : Nat} {sl : Value} {m1 m2 n2 : Nat} {f : ByteArray × ByteArray → Bool} {L : List (Acc × Value)}
theorem plF_isSome (T : List Acc) (n : ByteArray) : (plF T n).isSome = known T n := by
  unfold plF
  rw [← placeOf_known n T 0]
  cases placeOf T 0 n <;> rfl
theorem known_x (h : TbX w B p sl m1 m2 n2 f L) (n : ByteArray) (hn : n.size ≤ maxLen) :
    Calls Tryz.prog 39 #[.pointer (some ⟨p, 0, none⟩), .string n] w fun e w' => e = .returned (.bool (known (accs L) n)) ∧ w' = w := by
  have c1 : w.cell? ⟨p, 1, none⟩ = some (.map (some m1)) := by rw [cell_of_row w p 1 _ _ (0, 0) h.box]; rfl
  have LK := h.pl.look Tryz.underlying140 (zero_int w) (x := n) hn true
  rw [if_pos rfl, plF_isSome] at LK
  obtain ⟨k, hk⟩ : ∃ k, k = known (accs L) n := ⟨_, rfl⟩
  obtain ⟨v, hv⟩ : ∃ v, v = (plF (accs L) n).getD (.int .i64 0) := ⟨_, rfl⟩
  rw [← hk, ← hv] at LK
  rw [← hk]
  have LK2 : (Instr.lookup 140 (.map (some m1)) (.string n) true).run Tryz.prog w = .ok (.tuple #[v, .bool k]) w := LK
  clear LK hk hv
  go_enter Tryz.func39, Tryz.ntmps39
  go_wp2_with fail
  go_ret
  exact ⟨rfl, rfl⟩
theorem beq_str (x y : ByteArray) : (x.toList == y.toList) = decide (x = y) := by
  rw [Bool.eq_iff_iff, beq_iff_eq, decide_eq_true_iff]
  constructor
  · intro h
    rw [ByteArray.toList_eq, ByteArray.toList_eq] at h
    exact ByteArray.ext (Array.toList_inj.1 h)
  · rintro rfl; rfl
set_option maxRecDepth 100000 in
theorem member_x (h : TbX w B p sl m1 m2 n2 f L) (u g : ByteArray) (hu : u.size ≤ maxLen) (hg : g.size ≤ maxLen) :
    Calls Tryz.prog 36 #[.pointer (some ⟨p, 0, none⟩), .string u, .string g] w fun e w' => e = .returned (.bool (f (u, g) || (decide (u = g) && known (accs L) u))) ∧ Kept [] w w' := by
  have c2 : w.cell? ⟨p, 2, none⟩ = some (.map (some m2)) := by rw [cell_of_row w p 2 _ _ (0, 0) h.box]; rfl
  have LK := h.bl.look Tryz.underlying141 (zero_unit w) (x := (u, g)) ⟨hu, hg⟩ true
  have hs : (blF f (u, g)).isSome = f (u, g) := by unfold blF; cases f (u, g) <;> rfl
  have hv : (blF f (u, g)).getD unitV = unitV := by unfold blF; cases f (u, g) <;> rfl
  rw [if_pos rfl, hs, hv] at LK
  have KN := Lib.hid (fun (w' : World) (k : Kept [] w w') => known_x (h.kept k) u hu)
  obtain ⟨q, hq⟩ : ∃ q, q = known (accs L) u := ⟨_, rfl⟩
  obtain ⟨b, hb⟩ : ∃ b, b = f (u, g) := ⟨_, rfl⟩
  rw [← hb] at LK
  rw [← hq] at KN
  rw [← hb, ← hq]
  have LK2 : (Instr.lookup 141 (.map (some m2)) (.agg #[.string u, .string g]) true).run Tryz.prog w = .ok (.tuple #[.agg #[], .bool b]) w := LK
  have BQ := beq_str u g
  have K1 : Hid (Kept [] w (w.alloc (.cells #[] 138))) := (Kept.refl _ _).alloc _
  clear LK hs hv hb hq h
  cases b with
  | true =>
    go_enter Tryz.func36, Tryz.ntmps36
    go_wp2_with fail
    go_ret
    exact ⟨rfl, K1.out⟩
  | false =>
    by_cases e : u = g
    · rw [decide_eq_true e] at BQ ⊢
      clear e
      go_enter Tryz.func36, Tryz.ntmps36
      go_wp2_with (go_at_call 39; refine (KN.out _ K1.out).mono ?_; rintro e w2 ⟨rfl, rfl⟩)
      go_ret
      exact ⟨rfl, K1.out⟩
    · rw [decide_eq_false e] at BQ ⊢
      clear e
      go_enter Tryz.func36, Tryz.ntmps36
      go_wp2_with fail
      go_ret
      exact ⟨rfl, K1.out⟩

/-- The account of a name, or noughts. -/
def zeroA : Acc × Value := (⟨⟨#[]⟩, ⟨#[]⟩, [], ⟨#[]⟩⟩, .slice none 0 0)
def accAt (L : List (Acc × Value)) (n : ByteArray) : Acc × Value := match placeOf (accs L) 0 n with | some k => L.getD k zeroA | none => zeroA
theorem accs_length : (accs L).length = L.length := by simp [accs]
theorem flat_at : ∀ (L : List (Acc × Value)) (k : Nat) (hk : k < L.length), (L.flatMap accC)[k * 4]? = some (.string L[k].1.name) ∧ (L.flatMap accC)[k * 4 + 1]? = some (.string L[k].1.leader) ∧ (L.flatMap accC)[k * 4 + 2]? = some L[k].2 ∧ (L.flatMap accC)[k * 4 + 3]? = some (.string L[k].1.key)
  | x :: L, 0, _ => by simp [accC]
  | x :: L, k + 1, h => by
    have := flat_at L k (by simpa using h)
    have e : (x :: L).flatMap accC = .string x.1.name :: .string x.1.leader :: x.2 :: .string x.1.key :: L.flatMap accC := rfl
    rw [e, show (k + 1) * 4 = k * 4 + 4 by omega, show k * 4 + 4 + 1 = k * 4 + 1 + 4 by omega, show k * 4 + 4 + 2 = k * 4 + 2 + 4 by omega, show k * 4 + 4 + 3 = k * 4 + 3 + 4 by omega]
    exact this
set_option maxRecDepth 100000 in
theorem account_x (h : TbX w B p sl m1 m2 n2 f L) (n : ByteArray) (hn : n.size ≤ maxLen) (hL : L.length ≤ 1048576) :
    Calls Tryz.prog 86 #[.pointer (some ⟨p, 0, none⟩), .string n] w fun e w' => e = .returned (.tuple #[accV (accAt L n).1.name (accAt L n).1.leader (accAt L n).1.key (accAt L n).2, .bool (known (accs L) n)]) ∧ Kept [] w w' := by
  have hk := placeOf_known n (accs L) 0
  obtain ⟨w1, hw1⟩ : ∃ w1, w1 = w.alloc (.cells #[.string ⟨#[]⟩, .string ⟨#[]⟩, .slice none 0 0, .string ⟨#[]⟩] 79) := ⟨_, rfl⟩
  have K1 : Hid (Kept [] w w1) := by rw [hw1]; exact (Kept.refl _ _).alloc _
  have HW1 := Lib.hid hw1
  clear hw1
  have h1 := h.kept K1.out
  have d1 : w1.cell? ⟨p, 1, none⟩ = some (.map (some m1)) := by rw [cell_of_row w1 p 1 _ _ (0, 0) h1.box]; rfl
  have d0 : w1.cell? ⟨p, 0, none⟩ = some sl := by rw [cell_of_row w1 p 0 _ _ (0, 0) h1.box]; rfl
  have LK1 := h1.pl.look Tryz.underlying140 (zero_int w1) (x := n) hn true
  rw [if_pos rfl, plF_isSome] at LK1
  cases hpl : placeOf (accs L) 0 n with
  | none =>
    have hkn : known (accs L) n = false := by rw [← hk, hpl]; rfl
    have hat : accAt L n = zeroA := by unfold accAt; rw [hpl]
    rw [hat, hkn]
    have hv : (plF (accs L) n).getD (.int .i64 0) = .int .i64 0 := by unfold plF; rw [hpl]; rfl
    rw [hkn, hv] at LK1
    have LK2 : (Instr.lookup 140 (.map (some m1)) (.string n) true).run Tryz.prog w1 = .ok (.tuple #[.int .i64 0, .bool false]) w1 := LK1
    unfold accV zeroA
    clear LK1 hv hat hkn hpl hk h h1
    obtain rfl := HW1.out
    go_enter Tryz.func86, Tryz.ntmps86
    go_wp2_with fail
    refine bodyPost_ret (v := .tuple #[.agg #[.string ⟨#[]⟩, .string ⟨#[]⟩, .slice none 0 0, .string ⟨#[]⟩], .bool false]) (by simp [results, Tryz.results86, go_sem]) rfl ⟨rfl, (Kept.refl _ _).alloc _⟩
  | some k =>
    obtain ⟨hkl, -, hkn2⟩ := placeOf_some n (accs L) 0 k hpl
    rw [accs_length, Nat.sub_zero] at hkl
    have hkn : known (accs L) n = true := by rw [← hk, hpl]; rfl
    have hat : accAt L n = L[k] := by unfold accAt; rw [hpl]; simp [List.getD, hkl]
    rw [hat, hkn]
    have hv : (plF (accs L) n).getD (.int .i64 0) = .int .i64 k := by unfold plF; rw [hpl]; rfl
    rw [hkn, hv] at LK1
    have LK2 : (Instr.lookup 140 (.map (some m1)) (.string n) true).run Tryz.prog w1 = .ok (.tuple #[.int .i64 k, .bool true]) w1 := LK1
    have hrow := h1.row
    rcases hrow.2 with ⟨_, h0⟩ | ⟨g, cap, cur, e, -⟩
    · omega
    subst e
    obtain ⟨f0, f1, f2, f3⟩ := flat_at L k hkl
    have x0 := (World.ownsRow.cellAt hrow (k * 4) (by omega)).trans f0
    have x1 := (World.ownsRow.cellAt hrow (k * 4 + 1) (by omega)).trans f1
    have x2 := (World.ownsRow.cellAt hrow (k * 4 + 2) (by omega)).trans f2
    have x3 := (World.ownsRow.cellAt hrow (k * 4 + 3) (by omega)).trans f3
    have hme := h1.mem L[k] (List.getElem_mem hkl)
    obtain ⟨va, vc, hms⟩ := hme.slice
    obtain ⟨⟨⟨an, al, am, ak⟩, av⟩, hx⟩ : ∃ x, x = L[k] := ⟨_, rfl⟩
    rw [← hx] at x0 x1 x2 x3 hms ⊢
    simp only at x0 x1 x2 x3 hms ⊢
    subst hms
    unfold accV
    obtain ⟨N, hN⟩ : ∃ N, N = L.length := ⟨_, rfl⟩
    rw [← hN] at d0 hkl hL
    have j1 : (k : Int) < (N : Int) := by omega
    have j0 : (0 : Int) ≤ (k : Int) := by omega
    clear LK1 hv hat hkn hkn2 hpl hk h h1 hrow f0 f1 f2 f3 hme hx hN
    obtain rfl := HW1.out
    go_enter Tryz.func86, Tryz.ntmps86
    go_wp2_with fail
    refine bodyPost_ret (v := .tuple #[.agg #[.string an, .string al, .slice va am.length vc, .string ak], .bool true]) (by simp [results, Tryz.results86, go_sem]) rfl ⟨rfl, (Kept.refl _ _).alloc _⟩
/-- A user's leader. -/
def leaderOf (L : List (Acc × Value)) (g : ByteArray) : ByteArray := (accAt L g).1.leader
def memX (f : ByteArray × ByteArray → Bool) (T : List Acc) (u g : ByteArray) : Bool := f (u, g) || (decide (u = g) && known T u)
def leadsX (f : ByteArray × ByteArray → Bool) (L : List (Acc × Value)) (u g : ByteArray) : Bool := if (leaderOf L g).size = 0 then memX f (accs L) u g else decide (u = leaderOf L g)
theorem accAt_mem (h : TbX w B p sl m1 m2 n2 f L) (g : ByteArray) : Mem w (accAt L g).2 (accAt L g).1.members := by
  unfold accAt
  cases hpl : placeOf (accs L) 0 g with
  | none => exact World.ownsRow_nil _ _ _ _
  | some k =>
    obtain ⟨hkl, -, -⟩ := placeOf_some g (accs L) 0 k hpl
    rw [accs_length, Nat.sub_zero] at hkl
    simp only [List.getD, List.getElem?_eq_getElem hkl, Option.getD_some]
    exact h.mem _ (List.getElem_mem hkl)
set_option maxHeartbeats 1000000 in
set_option maxRecDepth 100000 in
theorem leads_x (h : TbX w B p sl m1 m2 n2 f L) (u g : ByteArray) (hu : u.size ≤ maxLen) (hg : g.size ≤ maxLen) (hL : L.length ≤ 1048576) :
    Calls Tryz.prog 37 #[.pointer (some ⟨p, 0, none⟩), .string u, .string g] w fun e w' => e = .returned (.bool (leadsX f L u g)) ∧ Kept [] w w' := by
  have AC := Lib.hid (account_x h g hg hL)
  have ME := Lib.hid (fun (w' : World) (k : Kept [] w w') => member_x (h.kept k) u g hu hg)
  obtain ⟨va, vc, hms⟩ := (accAt_mem h g).slice
  obtain ⟨kn, hkn⟩ : ∃ k, k = known (accs L) g := ⟨_, rfl⟩
  obtain ⟨z, hz⟩ : ∃ z, z = leadsX f L u g := ⟨_, rfl⟩
  have HZ := Lib.hid hz
  rw [← hz]
  unfold leadsX leaderOf memX at HZ
  obtain ⟨q, hq⟩ : ∃ q, q = (f (u, g) || (decide (u = g) && known (accs L) u)) := ⟨_, rfl⟩
  rw [← hq] at HZ ME
  rw [← hkn] at AC
  obtain ⟨⟨⟨an, al, am, ak⟩, av⟩, hx⟩ : ∃ x, x = accAt L g := ⟨_, rfl⟩
  rw [← hx] at AC HZ hms
  simp only at AC HZ hms
  subst hms
  unfold accV at AC
  have BQ := beq_str u al
  clear h hkn hz hq hx
  by_cases h0 : al.size = 0
  · have hv : z = q := by rw [HZ.out, if_pos h0]
    have h1 := lead_eq h0
    rw [hv]
    clear h0 HZ BQ hv
    go_enter Tryz.func37, Tryz.ntmps37
    go_wp2_with (first | (go_at_call 86; refine AC.out.mono ?_; rintro e w1 ⟨rfl, k1⟩; have k2 := k1.alloc (.cells #[.string an, .string al, .slice va am.length vc, .string ak] 79)) | (go_at_call 36; refine (ME.out _ k2).mono ?_; rintro e w3 ⟨rfl, k3⟩))
    go_ret
    exact ⟨rfl, k2.trans k3 (fun i hi => by simp at hi)⟩
  · have hv : z = decide (u = al) := by rw [HZ.out, if_neg h0]
    rw [hv]
    have h1 := lead_ne h0
    have b1 : al.toList.isEmpty = false := by rw [List.isEmpty_eq_false_iff]; exact h1
    have b0 : (al.toList == []) = false := by rw [beq_eq_false_iff_ne]; exact h1
    obtain ⟨y, hy⟩ : ∃ y, y = decide (u = al) := ⟨_, rfl⟩
    rw [← hy] at BQ ⊢
    clear h0 h1 HZ hv hy
    go_enter Tryz.func37, Tryz.ntmps37
    go_wp2_with (first | (go_at_call 86; refine AC.out.mono ?_; rintro e w1 ⟨rfl, k1⟩; have k2 := k1.alloc (.cells #[.string an, .string al, .slice va am.length vc, .string ak] 79)))
    go_ret
    exact ⟨rfl, k2⟩
end
end Us
end Go.Proofs.YtahjmpfjidijaaaGreatDoor
end
section
namespace Go.Proofs.YtahjmpfjidijaaaGreatDoor
set_option linter.unusedVariables false
open Go.RowKit Go.Shelf
attribute [local go_sem] Oper.semAt_some
namespace Us
open Go.Proofs.YtahjmpfjidijaaaGreatDoor.Utf Go.Proofs.YtahjmpfjidijaaaGreatDoor.Txt Go.PlainAid

theorem clone_any (w : World) (v : Value) (ms : List ByteArray) (hm : Mem w v ms) (hl : ms.length ≤ 1048576) :
    Calls Tryz.prog 141 #[v] w fun e w' => ∃ v', e = .returned v' ∧ Mem w' v' ms ∧ Kept [] w w' ∧ ∀ b, v'.ownBlock = some b → w.heap.size ≤ b := by
  rcases hm.2 with ⟨rfl, h0⟩ | ⟨g, cap, cur, rfl, h⟩
  · have : ms = [] := List.eq_nil_of_length_eq_zero h0
    subst this
    refine (Tryz.slices_Clone_string_nil 0 0 w).mono ?_
    rintro e w' ⟨rfl, rfl⟩
    exact ⟨_, rfl, World.ownsRow_nil _ _ _ _, Kept.refl _ _, fun b h => by cases h⟩
  · refine (Tryz.slices_Clone_string g 0 ms.length cap ms w (Nat.le_refl _) (by omega) (fun j hj => ?_)).mono ?_
    · have := World.ownsRow.cellAt hm j (by omega)
      rw [Nat.zero_add, this]
      simp [sv, hj]
    · rintro e w' ⟨v', rfl, ho, hne, hB⟩
      rw [List.take_length] at ho
      refine ⟨v', rfl, ⟨ho.1, ?_⟩, Kept.of_below hB _, fun b hb => (ho.lt b hb).1⟩
      rcases ho.2 with q | ⟨g', cap', cur', e, q1, q⟩
      · exact Or.inl q
      · exact Or.inr ⟨g', cap', cur', e, Nat.zero_le _, q⟩
set_option maxHeartbeats 2000000 in
set_option maxRecDepth 100000 in
theorem copied_any (w : World) (a : Acc) (v : Value) (hm : Mem w v a.members) (hl : a.members.length ≤ 1048576) :
    Calls Tryz.prog 98 #[accV a.name a.leader a.key v] w fun e w' => ∃ v', e = .returned (accV a.name a.leader a.key v') ∧ Mem w' v' a.members ∧ Kept [] w w' ∧ ∀ b, v'.ownBlock = some b → w.heap.size ≤ b := by
  obtain ⟨name, leader, ms, key⟩ := a
  simp only at hm hl ⊢
  obtain ⟨va, vc, rfl⟩ := hm.slice
  unfold accV
  have CL := Lib.hid (fun (w' : World) (k : Kept [] w w') => clone_any w' _ ms (hm.kept0 k) hl)
  have kA : Kept [] w ((w.alloc (.cells #[.string name, .string leader, .slice va ms.length vc, .string key] 79)).alloc (.cells #[.string ⟨#[]⟩, .string ⟨#[]⟩, .slice none 0 0, .string ⟨#[]⟩] 79)) := ((Kept.refl _ _).alloc _).alloc _
  have b1 : ((w.alloc (.cells #[.string name, .string leader, .slice va ms.length vc, .string key] 79)).alloc (.cells #[.string ⟨#[]⟩, .string ⟨#[]⟩, .slice none 0 0, .string ⟨#[]⟩] 79)).heap[w.heap.size]? = some (.cells #[.string name, .string leader, .slice va ms.length vc, .string key] 79 (0, 0)) := (Below.heap_alloc _ _ _ (by simp)).trans (MapKept.heap_alloc w _).1
  have b2 : ((w.alloc (.cells #[.string name, .string leader, .slice va ms.length vc, .string key] 79)).alloc (.cells #[.string ⟨#[]⟩, .string ⟨#[]⟩, .slice none 0 0, .string ⟨#[]⟩] 79)).heap[w.heap.size + 1]? = some (.cells #[.string ⟨#[]⟩, .string ⟨#[]⟩, .slice none 0 0, .string ⟨#[]⟩] 79 (0, 0)) := by
    have := (MapKept.heap_alloc (w.alloc (.cells #[.string name, .string leader, .slice va ms.length vc, .string key] 79)) (.cells #[.string ⟨#[]⟩, .string ⟨#[]⟩, .slice none 0 0, .string ⟨#[]⟩] 79)).1
    rwa [World.size_alloc] at this
  have KA := Lib.hid kA
  have B1 := Lib.hid b1
  have B2 := Lib.hid b2
  clear kA b1 b2 hm
  go_enter Tryz.func98, Tryz.ntmps98
  go_wp2_with (go_at_call 141; refine (CL.out _ KA.out).mono ?_; rintro e w2 ⟨v', rfl, m2, k2, f2⟩; obtain ⟨q0, q1, q2, q3, qf⟩ := four ((k2.block _ (block_lt B1.out) (by simp)).trans B1.out); obtain ⟨r0, r1, r2, r3, rf⟩ := four ((k2.block _ (block_lt B2.out) (by simp)).trans B2.out); obtain ⟨vb, vd, rfl⟩ := m2.slice)
  obtain ⟨R1, hR1⟩ : ∃ R, R = w.heap.size := ⟨_, rfl⟩
  have bR1 := (k2.block _ (block_lt B1.out) (by simp)).trans B1.out
  have bR2 := (k2.block _ (block_lt B2.out) (by simp)).trans B2.out
  rw [← hR1] at bR1 bR2 q0 q1 q2 q3 r0 r1 r2 r3 ⊢
  obtain ⟨wf, hwf⟩ : ∃ wf, wf = (((((w2.setCell ⟨R1, 2, none⟩ (.slice vb ms.length vd)).setCell ⟨R1 + 1, 0, none⟩ (.string name)).setCell ⟨R1 + 1, 1, none⟩ (.string leader)).setCell ⟨R1 + 1, 2, none⟩ (.slice vb ms.length vd)).setCell ⟨R1 + 1, 3, none⟩ (.string key)) := ⟨_, rfl⟩
  have bF : wf.heap[R1 + 1]? = some (.cells #[.string name, .string leader, .slice vb ms.length vd, .string key] 79 (0, 0)) := by
    have x0 : (w2.setCell ⟨R1, 2, none⟩ (.slice vb ms.length vd)).heap[R1 + 1]? = some (.cells #[.string ⟨#[]⟩, .string ⟨#[]⟩, .slice none 0 0, .string ⟨#[]⟩] 79 (0, 0)) := (Below.heap_setCell _ _ _ _ (by simp)).trans bR2
    rw [hwf, heap_set (i := 3) (Value.string key) (heap_set (i := 2) (Value.slice vb ms.length vd) (heap_set (i := 1) (Value.string leader) (heap_set (i := 0) (Value.string name) x0)))]
    simp
  have kF : Kept [R1, R1 + 1] w2 wf := by
    rw [hwf]
    exact (((((Kept.refl _ w2).setCell (p := ⟨R1, 2, none⟩) (Or.inl (by simp)) _).setCell (p := ⟨R1 + 1, 0, none⟩) (Or.inl (by simp)) _).setCell (p := ⟨R1 + 1, 1, none⟩) (Or.inl (by simp)) _).setCell (p := ⟨R1 + 1, 2, none⟩) (Or.inl (by simp)) _).setCell (p := ⟨R1 + 1, 3, none⟩) (Or.inl (by simp)) _
  have kW : Kept [] w wf := (KA.out.trans k2 (fun i hi => by simp at hi)).trans kF (fun i hi => by simp at hi; omega)
  have nR : ∀ b, (Value.slice vb ms.length vd).ownBlock = some b → b ∉ [R1, R1 + 1] := fun b hb hm => by
    obtain ⟨cs, hc⟩ := own_type m2 b hb
    simp at hm
    rcases hm with rfl | rfl
    · rw [bR1] at hc; cases hc
    · rw [bR2] at hc; cases hc
  have hz := KA.out.size
  have ff : ∀ b, (Value.slice vb ms.length vd).ownBlock = some b → w.heap.size ≤ b := fun b hb => Nat.le_trans hz (f2 b hb)
  obtain ⟨g0, g1, g2, g3, -⟩ := four bF
  rw [← hwf]
  clear hwf q0 q1 q2 q3 qf r0 r1 r2 r3 rf
  refine bodyPost_ret (v := .agg #[.string name, .string leader, .slice vb ms.length vd, .string key]) (by simp [results, Tryz.results98, go_sem, g0, g1, g2, g3]) rfl ⟨_, rfl, m2.kept kF nR, kW, (fun b hb => by rw [hR1]; exact ff b hb)⟩
end Us
end Go.Proofs.YtahjmpfjidijaaaGreatDoor
end
