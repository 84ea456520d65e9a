/- What Size, weight and the reference's Encode of a record give. -/
import Derived.Test.YteebiemfhicgbaaNum2
import Derived.Test.YteebiemfhicgbaaRtk
namespace Go.Proofs.Yteebiemfhicgbaa
set_option linter.unusedVariables false
open Go.RowKit

def Rec.tx (s : Rec) : Nat → ByteArray
  | 0 => s.name
  | 1 => s.uid
  | 2 => s.gid
  | _ => s.muid
def Rec.pre (s : Rec) : Nat → List UInt8
  | 0 => le 2 (s.size - 2) ++ s.nums
  | i + 1 => s.pre i ++ tbs (s.tx i)
theorem Rec.pre_enc (s : Rec) : s.pre 4 = s.enc := by
  unfold Rec.enc Rec.body
  simp [Rec.pre, Rec.tx]
theorem Rec.err_at (s : Rec) (i : Nat) (hi : i < 4) (h : ∀ j, j < i → terr (s.tx j) = 0) (hn : terr (s.tx i) ≠ 0) : s.err = terr (s.tx i) := by
  unfold Rec.err
  obtain rfl | rfl | rfl | rfl : i = 0 ∨ i = 1 ∨ i = 2 ∨ i = 3 := by omega
  · exact if_pos hn
  · have h0 := h 0 (by decide)
    simp only [Rec.tx] at h0 hn ⊢
    rw [if_neg (by omega), if_pos hn]
  · have h0 := h 0 (by decide)
    have h1 := h 1 (by decide)
    simp only [Rec.tx] at h0 h1 hn ⊢
    rw [if_neg (by omega), if_neg (by omega), if_pos hn]
  · have h0 := h 0 (by decide)
    have h1 := h 1 (by decide)
    have h2 := h 2 (by decide)
    simp only [Rec.tx] at h0 h1 h2 hn ⊢
    rw [if_neg (by omega), if_neg (by omega), if_neg (by omega), if_pos hn]
theorem Rec.err_all (s : Rec) (h : ∀ j, j < 4 → terr (s.tx j) = 0) : s.err = if 65535 < s.size - 2 then 13 else 0 := by
  have h0 := h 0 (by decide)
  have h1 := h 1 (by decide)
  have h2 := h 2 (by decide)
  have h3 := h 3 (by decide)
  simp only [Rec.tx] at h0 h1 h2 h3
  unfold Rec.err
  rw [if_neg (by omega), if_neg (by omega), if_neg (by omega), if_neg (by omega)]
theorem Rec.pre_length (s : Rec) (h : ∀ j, j < 4 → terr (s.tx j) = 0) (i : Nat) (hi : i ≤ 4) : (s.pre i).length ≤ 41 + 65537 * i := by
  induction i with
  | zero => simp [Rec.pre, le_length, s.nums_length]
  | succ i ih =>
    have h1 := (terr_zero (h i (by omega))).1
    have h2 := ih (by omega)
    simp only [Rec.pre, List.length_append, tbs_length]
    omega

/-- The reference's Encode while it writes. -/
structure Wri (w : World) (s : Rec) (wc : World) (v : Value) (bs : List UInt8) : Prop where
  own : Wrt.Own wc w.heap.size v bs
  kept : Kept [] w wc
  box : wc.heap[w.heap.size]? = some (.cells s.cells 30 (0, 0))
  lst : wc.heap[w.heap.size + 1]? = some (.cells #[.string s.name, .string s.uid, .string s.gid, .string s.muid] 9 (0, 0))
theorem Wri.next {w : World} {s : Rec} {wc w' : World} {v v' : Value} {bs bs' : List UInt8} (h : Wri w s wc v bs) (ho : Wrt.Own w' w.heap.size v' bs') (hk : Kept v.ownBlock.toList wc w') : Wri w s w' v' bs' := by
  have h0 : wc.ownsRow 0 5 1 v bs.length (bs.map bv) := World.ownsRow.mono h.own (Nat.zero_le _)
  refine ⟨ho, h.kept.trans hk (fun i hi => Or.inr (h.own.lt i (by simpa using hi)).1), (hk.block _ (block_lt h.box) (fun hm => ?_)).trans h.box, (hk.block _ (block_lt h.lst) (fun hm => ?_)).trans h.lst⟩
  · exact own_ne h0 h.box (by decide) _ (by simpa using hm) rfl
  · exact own_ne h0 h.lst (by decide) _ (by simpa using hm) rfl
theorem own_keptB {w w' : World} {T : List Nat} {base : Nat} {e : TypeId} {v : Value} {n : Nat} {xs : List Value} (h : w.ownsRow base e 1 v n xs) (hk : Kept T w w') (hd : ∀ k, v.ownBlock = some k → k ∉ T) : w'.ownsRow base e 1 v n xs := by
  refine ⟨h.1, ?_⟩
  rcases h.2 with hn | ⟨g, cap, cur, rfl, hb, hgg, rest⟩
  · exact .inl hn
  · exact .inr ⟨g, cap, cur, rfl, hb, by rw [hk.block g (block_lt hgg) (hd g rfl)]; exact hgg, rest⟩
theorem Wri.pure {w : World} {s : Rec} {wc w' : World} {v : Value} {bs : List UInt8} (h : Wri w s wc v bs) (hk : Kept [] wc w') : Wri w s w' v bs :=
  ⟨own_keptB h.own hk (fun _ _ hm => by simp at hm), h.kept.trans hk (fun i hi => by simp at hi), (hk.block _ (block_lt h.box) (by simp)).trans h.box, (hk.block _ (block_lt h.lst) (by simp)).trans h.lst⟩
theorem four' {w : World} {p : Nat} {a b c d : Value} {t : TypeId} (h : w.heap[p]? = some (.cells #[a, b, c, d] t (0, 0))) :
    w.cell? ⟨p, 0, none⟩ = some a ∧ w.cell? ⟨p, 1, none⟩ = some b ∧ w.cell? ⟨p, 2, none⟩ = some c ∧ w.cell? ⟨p, 3, none⟩ = some d := by
  have g := fun i => cell_of_row w p i #[a, b, c, d] t (0, 0) h
  exact ⟨g 0, g 1, g 2, g 3⟩

namespace Stt
open Go.Proofs.Yteebiemfhicgbaa.Txt

set_option maxHeartbeats 1000000 in
theorem size_any (w : World) (s : Rec) (so : s.Ok) : Calls Try.prog 47 #[s.val] w fun e w' => e = .returned (.int .i64 (s.size : Nat)) ∧ Kept [] w w' := by
  obtain ⟨-, -, -, -, -, -, -, -, -, z1, z2, z3, z4⟩ := so
  have e : ((s.size : Nat) : Int) = 49 + (s.name.size : Int) + (s.uid.size : Int) + (s.gid.size : Int) + (s.muid.size : Int) := by unfold Rec.size; omega
  rw [e]
  clear e
  obtain ⟨ty, dev, kind, vers, path, mode, atime, mtime, len, name, uid, gid, muid⟩ := s
  simp only at z1 z2 z3 z4
  unfold Rec.val Rec.cells
  simp only []
  go_enter Try.func47, Try.ntmps47
  go_wp2_with fail
  go_ret
  exact ⟨rfl, (Kept.refl _ _).alloc _⟩

set_option maxHeartbeats 1000000 in
theorem rsize_any (w : World) (s : Rec) (so : s.Ok) : Calls Try.prog 14 #[s.val] w fun e w' => e = .returned (.int .i64 (s.size : Nat)) ∧ Kept [] w w' := by
  obtain ⟨-, -, -, -, -, -, -, -, -, z1, z2, z3, z4⟩ := so
  have e : ((s.size : Nat) : Int) = 49 + (s.name.size : Int) + (s.uid.size : Int) + (s.gid.size : Int) + (s.muid.size : Int) := by unfold Rec.size; omega
  rw [e]
  clear e
  obtain ⟨ty, dev, kind, vers, path, mode, atime, mtime, len, name, uid, gid, muid⟩ := s
  simp only at z1 z2 z3 z4
  unfold Rec.val Rec.cells
  simp only []
  go_enter Try.func14, Try.ntmps14
  go_wp2_with fail
  go_ret
  exact ⟨rfl, (Kept.refl _ _).alloc _⟩

set_option maxHeartbeats 1000000 in
theorem weight_any (w : World) (s : Rec) (so : s.Ok) : Calls Try.prog 48 #[s.val] w fun e w' => e = .returned (.int .i64 (s.size : Nat)) ∧ Kept [] w w' := by
  obtain ⟨-, -, -, -, -, -, -, -, -, z1, z2, z3, z4⟩ := so
  have e : ((s.size : Nat) : Int) = 49 + (s.name.size : Int) + (s.uid.size : Int) + (s.gid.size : Int) + (s.muid.size : Int) := by unfold Rec.size; omega
  rw [e]
  clear e
  obtain ⟨ty, dev, kind, vers, path, mode, atime, mtime, len, name, uid, gid, muid⟩ := s
  simp only at z1 z2 z3 z4
  unfold Rec.val Rec.cells
  simp only []
  go_enter Try.func48, Try.ntmps48
  go_wp2_with fail
  go_ret
  exact ⟨rfl, (Kept.refl _ _).alloc _⟩

set_option maxHeartbeats 4000000 in
set_option maxRecDepth 100000 in
theorem rencode_any (w : World) (s : Rec) (so : s.Ok) : Calls Try.prog 49 #[s.val] w (DoneOut w s.bytes s.err) := by
  obtain ⟨i0, hi, hz0, hz1, hz2⟩ := info_parts Wrt.info5
  have SZ := fun w => rsize_any w s so
  obtain ⟨o1, o2, o3, o4, o5, o6, o7, o8, o9, z1, z2, z3, z4⟩ := so
  have hsz : s.size ≤ 600000000000000 := by unfold Rec.size; omega
  have hs49 : 49 ≤ s.size := by unfold Rec.size; omega
  obtain ⟨sz, hszq⟩ : ∃ n, n = s.size := ⟨_, rfl⟩
  have EA := fun (i : Nat) (h1 : i < 4) (h2 : ∀ j, j < i → terr (s.tx j) = 0) (h3 : terr (s.tx i) ≠ 0) => s.err_at i h1 h2 h3
  have EL := fun (h : ∀ j, j < 4 → terr (s.tx j) = 0) => s.err_all h
  have PL := fun (h : ∀ j, j < 4 → terr (s.tx j) = 0) (i : Nat) (hi : i ≤ 4) => s.pre_length h i hi
  have PE := s.pre_enc
  have HP0 : s.pre 0 = le 2 (sz - 2) ++ s.nums := by rw [hszq]; rfl
  have HPS : ∀ i, s.pre (i + 1) = s.pre i ++ tbs (s.tx i) := fun i => rfl
  rw [← hszq] at SZ EL hsz hs49
  have HB : s.err = 0 → s.bytes = s.enc := fun h => by unfold Rec.bytes; rw [if_pos h]
  have HN : s.err ≠ 0 → s.bytes = [] := fun h => by unfold Rec.bytes; rw [if_neg h]
  obtain ⟨RB, hRB⟩ : ∃ b, b = s.bytes := ⟨_, rfl⟩
  obtain ⟨RE, hRE⟩ : ∃ b, b = s.err := ⟨_, rfl⟩
  rw [← hRB, ← hRE] at HB HN ⊢
  rw [← hRE] at EA EL
  have SZ' := Lib.hid SZ
  have EA' := Lib.hid EA
  have EL' := Lib.hid EL
  have PL' := Lib.hid PL
  have PE' := Lib.hid PE
  have HP0' := Lib.hid HP0
  have HPS' := Lib.hid HPS
  have HB' := Lib.hid HB
  have HN' := Lib.hid HN
  have WF : Hid (∀ wc v bs, Wri w s wc v bs → wc.cell? ⟨w.heap.size + 1, 0, none⟩ = some (.string s.name) ∧ wc.cell? ⟨w.heap.size + 1, 1, none⟩ = some (.string s.uid) ∧ wc.cell? ⟨w.heap.size + 1, 2, none⟩ = some (.string s.gid) ∧ wc.cell? ⟨w.heap.size + 1, 3, none⟩ = some (.string s.muid)) := fun wc v bs h => four' h.lst
  have WB : Hid (∀ wc v bs, Wri w s wc v bs → Lies wc w.heap.size s) := fun wc v bs h => h.box
  have W0 : Hid (Wri w s ((w.alloc (.cells s.cells 30 (0, 0))).alloc (.cells #[.string s.name, .string s.uid, .string s.gid, .string s.muid] 9 (0, 0))) (.slice none 0 0) []) := ⟨World.ownsRow_nil _ _ _ _, ((Kept.refl [] _).alloc _).alloc _, two_old w _ _, two_new w _ _⟩
  clear SZ EA EL PL PE HP0 HPS HB HN hszq hRB hRE
  obtain ⟨ty, dev, kind, vers, path, mode, atime, mtime, len, name, uid, gid, muid⟩ := s
  simp only at o1 o2 o3 o4 o5 o6 o7 o8 o9 z1 z2 z3 z4
  have O5 := Lib.hid o5
  have O9 := Lib.hid o9
  clear o5 o9
  unfold Rec.val
  unfold Rec.cells at W0 ⊢
  simp only [] at W0 WF ⊢
  go_enter Try.func49, Try.ntmps49
  go_wp2_with fail
  go_loopw [5] (fun iv' wr => ∃ i : Nat, i ≤ 4 ∧ iv' = .int .i64 i ∧ Hid (∀ j, j < i → terr ((Rec.tx ⟨ty, dev, kind, vers, path, mode, atime, mtime, len, name, uid, gid, muid⟩) j) = 0) ∧ Hid (Wri w ⟨ty, dev, kind, vers, path, mode, atime, mtime, len, name, uid, gid, muid⟩ wr (.slice none 0 0) [])) (fun iv' _ => 4 - (intOf iv').toNat)
  case atStart => exact ⟨0, by omega, rfl, fun j hj => absurd hj (by omega), W0⟩
  case round =>
    clear W0
    obtain ⟨i, hi4, rfl, hprev, hW⟩ := hrel
    have hwf := WF.out _ _ _ hW.out
    obtain rfl | rfl | rfl | rfl | rfl : i = 0 ∨ i = 1 ∨ i = 2 ∨ i = 3 ∨ i = 4 := by omega
    · have c : wr.cell? ⟨w.heap.size + 1, 0, none⟩ = some (.string name) := hwf.1
      clear hwf
      by_cases hl : 65535 < name.size
      · have ht : terr name = 13 := by unfold terr; rw [if_pos hl]
        have hRE : RE = 13 := (EA'.out 0 (by decide) hprev.out (by show terr name ≠ 0; rw [ht]; decide)).trans ht
        have hRB : RB = [] := HN'.out (by rw [hRE]; decide)
        have hl' : (65535 : Int) < (name.size : Int) := by omega
        subst hRE hRB
        clear ht hl EA' EL' PL' PE' HP0' HPS' HB' HN'
        go_wp2_with fail
        refine (rgood_any name _ z1).mono ?_
        rintro e w' ⟨rfl, rfl⟩
        go_wp2_with fail
        go_ret2
        exact ⟨_, rfl, World.ownsRow_nil _ _ _ _, hW.out.kept⟩
      · have hl' : ¬ (65535 : Int) < (name.size : Int) := by omega
        by_cases hg : Utf.good name = false
        · have ht : terr name = 12 := by unfold terr; rw [if_neg hl, if_pos hg]
          have hRE : RE = 12 := (EA'.out 0 (by decide) hprev.out (by show terr name ≠ 0; rw [ht]; decide)).trans ht
          have hRB : RB = [] := HN'.out (by rw [hRE]; decide)
          subst hRE hRB
          have HG := Lib.hid hg
          clear ht hl hg EA' EL' PL' PE' HP0' HPS' HB' HN'
          go_wp2_with fail
          refine (rgood_any name _ z1).mono ?_
          rintro e w' ⟨rfl, rfl⟩
          rw [HG.out]
          go_wp2_with fail
          go_ret2
          exact ⟨_, rfl, World.ownsRow_nil _ _ _ _, hW.out.kept⟩
        · have HG : Hid (Utf.good name = true) := Lib.hid (by simpa using hg)
          have ht : terr name = 0 := by unfold terr; rw [if_neg hl, if_neg hg]
          have hnext : Hid (∀ j, j < 1 → terr ((Rec.tx ⟨ty, dev, kind, vers, path, mode, atime, mtime, len, name, uid, gid, muid⟩) j) = 0) := fun j hj => by
            rcases Nat.lt_succ_iff_lt_or_eq.1 hj with q | q
            · exact hprev.out j q
            · subst q; exact ht
          clear hg hl ht
          go_wp2_with fail
          refine (rgood_any name _ z1).mono ?_
          rintro e w' ⟨rfl, rfl⟩
          rw [HG.out]
          go_wp2_with fail
          go_roundw
          case rel => exact ⟨1, by omega, rfl, hnext, hW⟩
          case measure => decide
    · have c : wr.cell? ⟨w.heap.size + 1, 1, none⟩ = some (.string uid) := hwf.2.1
      clear hwf
      by_cases hl : 65535 < uid.size
      · have ht : terr uid = 13 := by unfold terr; rw [if_pos hl]
        have hRE : RE = 13 := (EA'.out 1 (by decide) hprev.out (by show terr uid ≠ 0; rw [ht]; decide)).trans ht
        have hRB : RB = [] := HN'.out (by rw [hRE]; decide)
        have hl' : (65535 : Int) < (uid.size : Int) := by omega
        subst hRE hRB
        clear ht hl EA' EL' PL' PE' HP0' HPS' HB' HN'
        go_wp2_with fail
        refine (rgood_any uid _ z2).mono ?_
        rintro e w' ⟨rfl, rfl⟩
        go_wp2_with fail
        go_ret2
        exact ⟨_, rfl, World.ownsRow_nil _ _ _ _, hW.out.kept⟩
      · have hl' : ¬ (65535 : Int) < (uid.size : Int) := by omega
        by_cases hg : Utf.good uid = false
        · have ht : terr uid = 12 := by unfold terr; rw [if_neg hl, if_pos hg]
          have hRE : RE = 12 := (EA'.out 1 (by decide) hprev.out (by show terr uid ≠ 0; rw [ht]; decide)).trans ht
          have hRB : RB = [] := HN'.out (by rw [hRE]; decide)
          subst hRE hRB
          have HG := Lib.hid hg
          clear ht hl hg EA' EL' PL' PE' HP0' HPS' HB' HN'
          go_wp2_with fail
          refine (rgood_any uid _ z2).mono ?_
          rintro e w' ⟨rfl, rfl⟩
          rw [HG.out]
          go_wp2_with fail
          go_ret2
          exact ⟨_, rfl, World.ownsRow_nil _ _ _ _, hW.out.kept⟩
        · have HG : Hid (Utf.good uid = true) := Lib.hid (by simpa using hg)
          have ht : terr uid = 0 := by unfold terr; rw [if_neg hl, if_neg hg]
          have hnext : Hid (∀ j, j < 2 → terr ((Rec.tx ⟨ty, dev, kind, vers, path, mode, atime, mtime, len, name, uid, gid, muid⟩) j) = 0) := fun j hj => by
            rcases Nat.lt_succ_iff_lt_or_eq.1 hj with q | q
            · exact hprev.out j q
            · subst q; exact ht
          clear hg hl ht
          go_wp2_with fail
          refine (rgood_any uid _ z2).mono ?_
          rintro e w' ⟨rfl, rfl⟩
          rw [HG.out]
          go_wp2_with fail
          go_roundw
          case rel => exact ⟨2, by omega, rfl, hnext, hW⟩
          case measure => decide
    · have c : wr.cell? ⟨w.heap.size + 1, 2, none⟩ = some (.string gid) := hwf.2.2.1
      clear hwf
      by_cases hl : 65535 < gid.size
      · have ht : terr gid = 13 := by unfold terr; rw [if_pos hl]
        have hRE : RE = 13 := (EA'.out 2 (by decide) hprev.out (by show terr gid ≠ 0; rw [ht]; decide)).trans ht
        have hRB : RB = [] := HN'.out (by rw [hRE]; decide)
        have hl' : (65535 : Int) < (gid.size : Int) := by omega
        subst hRE hRB
        clear ht hl EA' EL' PL' PE' HP0' HPS' HB' HN'
        go_wp2_with fail
        refine (rgood_any gid _ z3).mono ?_
        rintro e w' ⟨rfl, rfl⟩
        go_wp2_with fail
        go_ret2
        exact ⟨_, rfl, World.ownsRow_nil _ _ _ _, hW.out.kept⟩
      · have hl' : ¬ (65535 : Int) < (gid.size : Int) := by omega
        by_cases hg : Utf.good gid = false
        · have ht : terr gid = 12 := by unfold terr; rw [if_neg hl, if_pos hg]
          have hRE : RE = 12 := (EA'.out 2 (by decide) hprev.out (by show terr gid ≠ 0; rw [ht]; decide)).trans ht
          have hRB : RB = [] := HN'.out (by rw [hRE]; decide)
          subst hRE hRB
          have HG := Lib.hid hg
          clear ht hl hg EA' EL' PL' PE' HP0' HPS' HB' HN'
          go_wp2_with fail
          refine (rgood_any gid _ z3).mono ?_
          rintro e w' ⟨rfl, rfl⟩
          rw [HG.out]
          go_wp2_with fail
          go_ret2
          exact ⟨_, rfl, World.ownsRow_nil _ _ _ _, hW.out.kept⟩
        · have HG : Hid (Utf.good gid = true) := Lib.hid (by simpa using hg)
          have ht : terr gid = 0 := by unfold terr; rw [if_neg hl, if_neg hg]
          have hnext : Hid (∀ j, j < 3 → terr ((Rec.tx ⟨ty, dev, kind, vers, path, mode, atime, mtime, len, name, uid, gid, muid⟩) j) = 0) := fun j hj => by
            rcases Nat.lt_succ_iff_lt_or_eq.1 hj with q | q
            · exact hprev.out j q
            · subst q; exact ht
          clear hg hl ht
          go_wp2_with fail
          refine (rgood_any gid _ z3).mono ?_
          rintro e w' ⟨rfl, rfl⟩
          rw [HG.out]
          go_wp2_with fail
          go_roundw
          case rel => exact ⟨3, by omega, rfl, hnext, hW⟩
          case measure => decide
    · have c : wr.cell? ⟨w.heap.size + 1, 3, none⟩ = some (.string muid) := hwf.2.2.2
      clear hwf
      by_cases hl : 65535 < muid.size
      · have ht : terr muid = 13 := by unfold terr; rw [if_pos hl]
        have hRE : RE = 13 := (EA'.out 3 (by decide) hprev.out (by show terr muid ≠ 0; rw [ht]; decide)).trans ht
        have hRB : RB = [] := HN'.out (by rw [hRE]; decide)
        have hl' : (65535 : Int) < (muid.size : Int) := by omega
        subst hRE hRB
        clear ht hl EA' EL' PL' PE' HP0' HPS' HB' HN'
        go_wp2_with fail
        refine (rgood_any muid _ z4).mono ?_
        rintro e w' ⟨rfl, rfl⟩
        go_wp2_with fail
        go_ret2
        exact ⟨_, rfl, World.ownsRow_nil _ _ _ _, hW.out.kept⟩
      · have hl' : ¬ (65535 : Int) < (muid.size : Int) := by omega
        by_cases hg : Utf.good muid = false
        · have ht : terr muid = 12 := by unfold terr; rw [if_neg hl, if_pos hg]
          have hRE : RE = 12 := (EA'.out 3 (by decide) hprev.out (by show terr muid ≠ 0; rw [ht]; decide)).trans ht
          have hRB : RB = [] := HN'.out (by rw [hRE]; decide)
          subst hRE hRB
          have HG := Lib.hid hg
          clear ht hl hg EA' EL' PL' PE' HP0' HPS' HB' HN'
          go_wp2_with fail
          refine (rgood_any muid _ z4).mono ?_
          rintro e w' ⟨rfl, rfl⟩
          rw [HG.out]
          go_wp2_with fail
          go_ret2
          exact ⟨_, rfl, World.ownsRow_nil _ _ _ _, hW.out.kept⟩
        · have HG : Hid (Utf.good muid = true) := Lib.hid (by simpa using hg)
          have ht : terr muid = 0 := by unfold terr; rw [if_neg hl, if_neg hg]
          have hnext : Hid (∀ j, j < 4 → terr ((Rec.tx ⟨ty, dev, kind, vers, path, mode, atime, mtime, len, name, uid, gid, muid⟩) j) = 0) := fun j hj => by
            rcases Nat.lt_succ_iff_lt_or_eq.1 hj with q | q
            · exact hprev.out j q
            · subst q; exact ht
          clear hg hl ht
          go_wp2_with fail
          refine (rgood_any muid _ z4).mono ?_
          rintro e w' ⟨rfl, rfl⟩
          rw [HG.out]
          go_wp2_with fail
          go_roundw
          case rel => exact ⟨4, by omega, rfl, hnext, hW⟩
          case measure => decide
    · clear hwf
      have hRE := Lib.hid (EL'.out hprev.out)
      have PLL := Lib.hid (PL'.out hprev.out)
      have hZ1 : name.size ≤ 65535 := (terr_zero (hprev.out 0 (by decide))).1
      have hZ2 : uid.size ≤ 65535 := (terr_zero (hprev.out 1 (by decide))).1
      have hZ3 : gid.size ≤ 65535 := (terr_zero (hprev.out 2 (by decide))).1
      have hZ4 : muid.size ≤ 65535 := (terr_zero (hprev.out 3 (by decide))).1
      obtain ⟨c0, c1, c2, c3, c4, c5, c6, c7, c8, c9, c10, c11, c12⟩ := (WB.out _ _ _ hW.out).cells
      simp only [] at c0 c1 c2 c3 c4 c5 c6 c7 c8 c9 c10 c11 c12
      clear EA' EL' PL' hprev
      go_wp2_with fail
      refine (SZ'.out _).mono ?_
      rintro e w1 ⟨rfl, k1⟩
      have W1 := Lib.hid (hW.out.pure k1)
      clear k1 hW c0 c1 c2 c3 c4 c5 c6 c7 c8 c9 c10 c11 c12 SZ'
      by_cases hbig : 65535 < sz - 2
      · have hE : RE = 13 := by rw [hRE.out, if_pos hbig]
        have hRB : RB = [] := HN'.out (by rw [hE]; decide)
        have hl' : (65535 : Int) < (sz : Int) - 2 := by omega
        subst hE hRB
        clear hRE PLL PE' HP0' HPS' HB' HN' hbig
        go_wp2_with fail
        go_ret2
        exact ⟨_, rfl, World.ownsRow_nil _ _ _ _, W1.out.kept⟩
      have hE : RE = 0 := by rw [hRE.out, if_neg hbig]
      have hRB := HB'.out hE
      have hl' : ¬ (65535 : Int) < (sz : Int) - 2 := by omega
      have h65 : sz - 2 ≤ 65535 := by omega
      have HRB := Lib.hid hRB
      have HRE := Lib.hid hE
      clear hRE HB' HN' hbig hE hRB
      have hx0 : (sz : Int) - 2 = ((sz - 2 : Nat) : Int) := by omega
      have HX0 := Lib.hid hx0
      clear hx0
      go_wp2_with fail
      refine (num_any _ _ w.heap.size [] _ (sz - 2) 2 HX0.out (by show _ ≤ _; omega) (by decide) (by simp) (by have := W1.out.kept.size; omega) W1.out.own).mono ?_
      rintro e w2 ⟨v2, rfl, ho, hk, -⟩
      have W2 := Lib.hid (W1.out.next ho.out hk)
      have L2 : ([] ++ le 2 (sz - 2)).length ≤ 1000 := by simp [le_length]
      obtain ⟨l2, hl2⟩ : ∃ l, l = [] ++ le 2 (sz - 2) := ⟨_, rfl⟩
      rw [← hl2] at W2 L2
      have E2 := Lib.hid hl2
      clear ho hk W1 hl2
      have c : w2.cell? ⟨w.heap.size, 0, none⟩ = some (.int .u16 ty) := by have g := (WB.out _ _ _ W2.out).cells; exact g.1
      go_wp2_with fail
      refine (num_any _ v2 w.heap.size l2 _ ty 2 rfl (by show _ ≤ _; omega) (by decide) (by omega) (by have := W2.out.kept.size; omega) W2.out.own).mono ?_
      rintro e w3 ⟨v3, rfl, ho, hk, -⟩
      have W3 := Lib.hid (W2.out.next ho.out hk)
      have L3 : (l2 ++ le 2 ty).length ≤ 1008 := by rw [List.length_append, le_length]; omega
      obtain ⟨l3, hl3⟩ : ∃ l, l = l2 ++ le 2 ty := ⟨_, rfl⟩
      rw [← hl3] at W3 L3
      have E3 := Lib.hid hl3
      clear ho hk W2 c hl3 L2
      have c : w3.cell? ⟨w.heap.size, 1, none⟩ = some (.int .u32 dev) := by have g := (WB.out _ _ _ W3.out).cells; exact g.2.1
      go_wp2_with fail
      refine (num_any _ v3 w.heap.size l3 _ dev 4 rfl (by show _ ≤ _; omega) (by decide) (by omega) (by have := W3.out.kept.size; omega) W3.out.own).mono ?_
      rintro e w4 ⟨v4, rfl, ho, hk, -⟩
      have W4 := Lib.hid (W3.out.next ho.out hk)
      have L4 : (l3 ++ le 4 dev).length ≤ 1016 := by rw [List.length_append, le_length]; omega
      obtain ⟨l4, hl4⟩ : ∃ l, l = l3 ++ le 4 dev := ⟨_, rfl⟩
      rw [← hl4] at W4 L4
      have E4 := Lib.hid hl4
      clear ho hk W3 c hl4 L3
      have c : w4.cell? ⟨w.heap.size, 2, none⟩ = some (.int .u8 kind) := by have g := (WB.out _ _ _ W4.out).cells; exact g.2.2.1
      go_wp2_with fail
      refine (num_any _ v4 w.heap.size l4 _ kind 1 rfl (by show _ ≤ _; omega) (by decide) (by omega) (by have := W4.out.kept.size; omega) W4.out.own).mono ?_
      rintro e w5 ⟨v5, rfl, ho, hk, -⟩
      have W5 := Lib.hid (W4.out.next ho.out hk)
      have L5 : (l4 ++ le 1 kind).length ≤ 1024 := by rw [List.length_append, le_length]; omega
      obtain ⟨l5, hl5⟩ : ∃ l, l = l4 ++ le 1 kind := ⟨_, rfl⟩
      rw [← hl5] at W5 L5
      have E5 := Lib.hid hl5
      clear ho hk W4 c hl5 L4
      have c : w5.cell? ⟨w.heap.size, 3, none⟩ = some (.int .u32 vers) := by have g := (WB.out _ _ _ W5.out).cells; exact g.2.2.2.1
      go_wp2_with fail
      refine (num_any _ v5 w.heap.size l5 _ vers 4 rfl (by show _ ≤ _; omega) (by decide) (by omega) (by have := W5.out.kept.size; omega) W5.out.own).mono ?_
      rintro e w6 ⟨v6, rfl, ho, hk, -⟩
      have W6 := Lib.hid (W5.out.next ho.out hk)
      have L6 : (l5 ++ le 4 vers).length ≤ 1032 := by rw [List.length_append, le_length]; omega
      obtain ⟨l6, hl6⟩ : ∃ l, l = l5 ++ le 4 vers := ⟨_, rfl⟩
      rw [← hl6] at W6 L6
      have E6 := Lib.hid hl6
      clear ho hk W5 c hl6 L5
      have c : w6.cell? ⟨w.heap.size, 4, none⟩ = some (.int .u64 path) := by have g := (WB.out _ _ _ W6.out).cells; exact g.2.2.2.2.1
      go_wp2_with fail
      refine (num_any _ v6 w.heap.size l6 _ path 8 rfl (O5) (by decide) (by omega) (by have := W6.out.kept.size; omega) W6.out.own).mono ?_
      rintro e w7 ⟨v7, rfl, ho, hk, -⟩
      have W7 := Lib.hid (W6.out.next ho.out hk)
      have L7 : (l6 ++ le 8 path).length ≤ 1040 := by rw [List.length_append, le_length]; omega
      obtain ⟨l7, hl7⟩ : ∃ l, l = l6 ++ le 8 path := ⟨_, rfl⟩
      rw [← hl7] at W7 L7
      have E7 := Lib.hid hl7
      clear ho hk W6 c hl7 L6
      have c : w7.cell? ⟨w.heap.size, 5, none⟩ = some (.int .u32 mode) := by have g := (WB.out _ _ _ W7.out).cells; exact g.2.2.2.2.2.1
      go_wp2_with fail
      refine (num_any _ v7 w.heap.size l7 _ mode 4 rfl (by show _ ≤ _; omega) (by decide) (by omega) (by have := W7.out.kept.size; omega) W7.out.own).mono ?_
      rintro e w8 ⟨v8, rfl, ho, hk, -⟩
      have W8 := Lib.hid (W7.out.next ho.out hk)
      have L8 : (l7 ++ le 4 mode).length ≤ 1048 := by rw [List.length_append, le_length]; omega
      obtain ⟨l8, hl8⟩ : ∃ l, l = l7 ++ le 4 mode := ⟨_, rfl⟩
      rw [← hl8] at W8 L8
      have E8 := Lib.hid hl8
      clear ho hk W7 c hl8 L7
      have c : w8.cell? ⟨w.heap.size, 6, none⟩ = some (.int .u32 atime) := by have g := (WB.out _ _ _ W8.out).cells; exact g.2.2.2.2.2.2.1
      go_wp2_with fail
      refine (num_any _ v8 w.heap.size l8 _ atime 4 rfl (by show _ ≤ _; omega) (by decide) (by omega) (by have := W8.out.kept.size; omega) W8.out.own).mono ?_
      rintro e w9 ⟨v9, rfl, ho, hk, -⟩
      have W9 := Lib.hid (W8.out.next ho.out hk)
      have L9 : (l8 ++ le 4 atime).length ≤ 1056 := by rw [List.length_append, le_length]; omega
      obtain ⟨l9, hl9⟩ : ∃ l, l = l8 ++ le 4 atime := ⟨_, rfl⟩
      rw [← hl9] at W9 L9
      have E9 := Lib.hid hl9
      clear ho hk W8 c hl9 L8
      have c : w9.cell? ⟨w.heap.size, 7, none⟩ = some (.int .u32 mtime) := by have g := (WB.out _ _ _ W9.out).cells; exact g.2.2.2.2.2.2.2.1
      go_wp2_with fail
      refine (num_any _ v9 w.heap.size l9 _ mtime 4 rfl (by show _ ≤ _; omega) (by decide) (by omega) (by have := W9.out.kept.size; omega) W9.out.own).mono ?_
      rintro e w10 ⟨v10, rfl, ho, hk, -⟩
      have W10 := Lib.hid (W9.out.next ho.out hk)
      have L10 : (l9 ++ le 4 mtime).length ≤ 1064 := by rw [List.length_append, le_length]; omega
      obtain ⟨l10, hl10⟩ : ∃ l, l = l9 ++ le 4 mtime := ⟨_, rfl⟩
      rw [← hl10] at W10 L10
      have E10 := Lib.hid hl10
      clear ho hk W9 c hl10 L9
      have c : w10.cell? ⟨w.heap.size, 8, none⟩ = some (.int .u64 len) := by have g := (WB.out _ _ _ W10.out).cells; exact g.2.2.2.2.2.2.2.2.1
      go_wp2_with fail
      refine (num_any _ v10 w.heap.size l10 _ len 8 rfl (O9) (by decide) (by omega) (by have := W10.out.kept.size; omega) W10.out.own).mono ?_
      rintro e w11 ⟨v11, rfl, ho, hk, -⟩
      have W11 := Lib.hid (W10.out.next ho.out hk)
      have L11 : (l10 ++ le 8 len).length ≤ 1072 := by rw [List.length_append, le_length]; omega
      obtain ⟨l11, hl11⟩ : ∃ l, l = l10 ++ le 8 len := ⟨_, rfl⟩
      rw [← hl11] at W11 L11
      have E11 := Lib.hid hl11
      clear ho hk W10 c hl11 L10
      have HP : Hid (l11 = Rec.pre ⟨ty, dev, kind, vers, path, mode, atime, mtime, len, name, uid, gid, muid⟩ 0) := by
        show _ = _
        rw [HP0'.out, E11.out, E10.out, E9.out, E8.out, E7.out, E6.out, E5.out, E4.out, E3.out, E2.out]
        simp [Rec.nums]
      clear E2 E3 E4 E5 E6 E7 E8 E9 E10 E11 L11 HP0'
      go_wp2_with fail
      go_loopw [8, 9] (fun b0 iv' wr => ∃ (i : Nat) (b : Value) (l : List UInt8), i ≤ 4 ∧ iv' = .int .i64 i ∧ b = b0 ∧ Hid (l = Rec.pre ⟨ty, dev, kind, vers, path, mode, atime, mtime, len, name, uid, gid, muid⟩ i) ∧ Hid (Wri w ⟨ty, dev, kind, vers, path, mode, atime, mtime, len, name, uid, gid, muid⟩ wr b l)) (fun _ iv' _ => 4 - (intOf iv').toNat)
      case atStart => exact ⟨0, v11, l11, by omega, rfl, rfl, HP, W11⟩
      case round =>
        clear W11 HP
        obtain ⟨i, b, l, hi4, rfl, rfl, hl, hW⟩ := hrel
        have hwf := WF.out _ _ _ hW.out
        have hll := PLL.out i hi4
        rw [← hl.out] at hll
        have hll2 : l.length ≤ 400000 := by omega
        clear hll
        obtain rfl | rfl | rfl | rfl | rfl : i = 0 ∨ i = 1 ∨ i = 2 ∨ i = 3 ∨ i = 4 := by omega
        · have c : wr.cell? ⟨w.heap.size + 1, 0, none⟩ = some (.string name) := hwf.1
          clear hwf
          go_wp2_with fail
          refine (num_any _ b w.heap.size l _ name.size 2 rfl (by show _ ≤ _; omega) (by decide) (by omega) (by have := hW.out.kept.size; omega) hW.out.own).mono ?_
          rintro e w2 ⟨v2, rfl, ho, hk, -⟩
          have W2 := Lib.hid (hW.out.next ho.out hk)
          have L2 : (l ++ le 2 name.size).length ≤ 400002 := by rw [List.length_append, le_length]; omega
          obtain ⟨l2, hl2⟩ : ∃ x, x = l ++ le 2 name.size := ⟨_, rfl⟩
          rw [← hl2] at W2 L2
          have E2 := Lib.hid hl2
          have hwf := WF.out _ _ _ W2.out
          have c2 : w2.cell? ⟨w.heap.size + 1, 0, none⟩ = some (.string name) := hwf.1
          clear ho hk c hl2 hwf
          go_wp2_with (at_builtin; refine App.wpList_string_at _ rfl (.tmp 108) (.tmp 112) 22 9 rfl w.heap.size 5 i0 Try.underlying22 Try.underlying9 hi hz0 hz1 hz2 v2 _ _ rfl W2.out.own name rfl (by unfold maxLen; omega) (by omega) (by have := W2.out.kept.size; omega) ?_; intro v' w3 hown hgrow hat; have R1 : Hid (Wrt.Own w3 w.heap.size v' (l2 ++ name.data.toList)) := (by have e : (l2 ++ name.data.toList).length = l2.length + name.size := (by rw [List.length_append, Array.length_toList]; rfl); show w3.ownsRow w.heap.size 5 1 v' _ _; rw [e, List.map_append]; exact hown); have R2 : Hid (Kept v2.ownBlock.toList w2 w3) := (Kept.refl _ _).grown hgrow (fun k hk => Or.inl (by simp [hk])); clear hown hgrow hat)
          have W3 := Lib.hid (W2.out.next R1.out R2.out)
          have hnext : Hid (l2 ++ name.data.toList = Rec.pre ⟨ty, dev, kind, vers, path, mode, atime, mtime, len, name, uid, gid, muid⟩ 1) := by
            show _ = _
            rw [HPS'.out 0, ← hl.out, E2.out]
            simp [tbs, Rec.tx]
          go_roundw
          case rel => exact ⟨1, _, _, by omega, rfl, rfl, hnext, W3⟩
          case measure => decide
        · have c : wr.cell? ⟨w.heap.size + 1, 1, none⟩ = some (.string uid) := hwf.2.1
          clear hwf
          go_wp2_with fail
          refine (num_any _ b w.heap.size l _ uid.size 2 rfl (by show _ ≤ _; omega) (by decide) (by omega) (by have := hW.out.kept.size; omega) hW.out.own).mono ?_
          rintro e w2 ⟨v2, rfl, ho, hk, -⟩
          have W2 := Lib.hid (hW.out.next ho.out hk)
          have L2 : (l ++ le 2 uid.size).length ≤ 400002 := by rw [List.length_append, le_length]; omega
          obtain ⟨l2, hl2⟩ : ∃ x, x = l ++ le 2 uid.size := ⟨_, rfl⟩
          rw [← hl2] at W2 L2
          have E2 := Lib.hid hl2
          have hwf := WF.out _ _ _ W2.out
          have c2 : w2.cell? ⟨w.heap.size + 1, 1, none⟩ = some (.string uid) := hwf.2.1
          clear ho hk c hl2 hwf
          go_wp2_with (at_builtin; refine App.wpList_string_at _ rfl (.tmp 108) (.tmp 112) 22 9 rfl w.heap.size 5 i0 Try.underlying22 Try.underlying9 hi hz0 hz1 hz2 v2 _ _ rfl W2.out.own uid rfl (by unfold maxLen; omega) (by omega) (by have := W2.out.kept.size; omega) ?_; intro v' w3 hown hgrow hat; have R1 : Hid (Wrt.Own w3 w.heap.size v' (l2 ++ uid.data.toList)) := (by have e : (l2 ++ uid.data.toList).length = l2.length + uid.size := (by rw [List.length_append, Array.length_toList]; rfl); show w3.ownsRow w.heap.size 5 1 v' _ _; rw [e, List.map_append]; exact hown); have R2 : Hid (Kept v2.ownBlock.toList w2 w3) := (Kept.refl _ _).grown hgrow (fun k hk => Or.inl (by simp [hk])); clear hown hgrow hat)
          have W3 := Lib.hid (W2.out.next R1.out R2.out)
          have hnext : Hid (l2 ++ uid.data.toList = Rec.pre ⟨ty, dev, kind, vers, path, mode, atime, mtime, len, name, uid, gid, muid⟩ 2) := by
            show _ = _
            rw [HPS'.out 1, ← hl.out, E2.out]
            simp [tbs, Rec.tx]
          go_roundw
          case rel => exact ⟨2, _, _, by omega, rfl, rfl, hnext, W3⟩
          case measure => decide
        · have c : wr.cell? ⟨w.heap.size + 1, 2, none⟩ = some (.string gid) := hwf.2.2.1
          clear hwf
          go_wp2_with fail
          refine (num_any _ b w.heap.size l _ gid.size 2 rfl (by show _ ≤ _; omega) (by decide) (by omega) (by have := hW.out.kept.size; omega) hW.out.own).mono ?_
          rintro e w2 ⟨v2, rfl, ho, hk, -⟩
          have W2 := Lib.hid (hW.out.next ho.out hk)
          have L2 : (l ++ le 2 gid.size).length ≤ 400002 := by rw [List.length_append, le_length]; omega
          obtain ⟨l2, hl2⟩ : ∃ x, x = l ++ le 2 gid.size := ⟨_, rfl⟩
          rw [← hl2] at W2 L2
          have E2 := Lib.hid hl2
          have hwf := WF.out _ _ _ W2.out
          have c2 : w2.cell? ⟨w.heap.size + 1, 2, none⟩ = some (.string gid) := hwf.2.2.1
          clear ho hk c hl2 hwf
          go_wp2_with (at_builtin; refine App.wpList_string_at _ rfl (.tmp 108) (.tmp 112) 22 9 rfl w.heap.size 5 i0 Try.underlying22 Try.underlying9 hi hz0 hz1 hz2 v2 _ _ rfl W2.out.own gid rfl (by unfold maxLen; omega) (by omega) (by have := W2.out.kept.size; omega) ?_; intro v' w3 hown hgrow hat; have R1 : Hid (Wrt.Own w3 w.heap.size v' (l2 ++ gid.data.toList)) := (by have e : (l2 ++ gid.data.toList).length = l2.length + gid.size := (by rw [List.length_append, Array.length_toList]; rfl); show w3.ownsRow w.heap.size 5 1 v' _ _; rw [e, List.map_append]; exact hown); have R2 : Hid (Kept v2.ownBlock.toList w2 w3) := (Kept.refl _ _).grown hgrow (fun k hk => Or.inl (by simp [hk])); clear hown hgrow hat)
          have W3 := Lib.hid (W2.out.next R1.out R2.out)
          have hnext : Hid (l2 ++ gid.data.toList = Rec.pre ⟨ty, dev, kind, vers, path, mode, atime, mtime, len, name, uid, gid, muid⟩ 3) := by
            show _ = _
            rw [HPS'.out 2, ← hl.out, E2.out]
            simp [tbs, Rec.tx]
          go_roundw
          case rel => exact ⟨3, _, _, by omega, rfl, rfl, hnext, W3⟩
          case measure => decide
        · have c : wr.cell? ⟨w.heap.size + 1, 3, none⟩ = some (.string muid) := hwf.2.2.2
          clear hwf
          go_wp2_with fail
          refine (num_any _ b w.heap.size l _ muid.size 2 rfl (by show _ ≤ _; omega) (by decide) (by omega) (by have := hW.out.kept.size; omega) hW.out.own).mono ?_
          rintro e w2 ⟨v2, rfl, ho, hk, -⟩
          have W2 := Lib.hid (hW.out.next ho.out hk)
          have L2 : (l ++ le 2 muid.size).length ≤ 400002 := by rw [List.length_append, le_length]; omega
          obtain ⟨l2, hl2⟩ : ∃ x, x = l ++ le 2 muid.size := ⟨_, rfl⟩
          rw [← hl2] at W2 L2
          have E2 := Lib.hid hl2
          have hwf := WF.out _ _ _ W2.out
          have c2 : w2.cell? ⟨w.heap.size + 1, 3, none⟩ = some (.string muid) := hwf.2.2.2
          clear ho hk c hl2 hwf
          go_wp2_with (at_builtin; refine App.wpList_string_at _ rfl (.tmp 108) (.tmp 112) 22 9 rfl w.heap.size 5 i0 Try.underlying22 Try.underlying9 hi hz0 hz1 hz2 v2 _ _ rfl W2.out.own muid rfl (by unfold maxLen; omega) (by omega) (by have := W2.out.kept.size; omega) ?_; intro v' w3 hown hgrow hat; have R1 : Hid (Wrt.Own w3 w.heap.size v' (l2 ++ muid.data.toList)) := (by have e : (l2 ++ muid.data.toList).length = l2.length + muid.size := (by rw [List.length_append, Array.length_toList]; rfl); show w3.ownsRow w.heap.size 5 1 v' _ _; rw [e, List.map_append]; exact hown); have R2 : Hid (Kept v2.ownBlock.toList w2 w3) := (Kept.refl _ _).grown hgrow (fun k hk => Or.inl (by simp [hk])); clear hown hgrow hat)
          have W3 := Lib.hid (W2.out.next R1.out R2.out)
          have hnext : Hid (l2 ++ muid.data.toList = Rec.pre ⟨ty, dev, kind, vers, path, mode, atime, mtime, len, name, uid, gid, muid⟩ 4) := by
            show _ = _
            rw [HPS'.out 3, ← hl.out, E2.out]
            simp [tbs, Rec.tx]
          go_roundw
          case rel => exact ⟨4, _, _, by omega, rfl, rfl, hnext, W3⟩
          case measure => decide
        · clear hwf
          have hEnd : RB = l := by rw [HRB.out, hl.out]; exact PE'.out.symm
          subst hEnd
          go_wp2_with fail
          go_ret2
          exact ⟨b, by rw [HRE.out]; rfl, hW.out.own, hW.out.kept⟩
end Stt
end Go.Proofs.Yteebiemfhicgbaa
