/- NamesLead: tree walked. -/
import Derived.Test.YtjdhgeikbkjnoaaDoorLdc
import Derived.Test.YtjdhgeikbkjnoaaDoorLaw
import Derived.Test.YtjdhgeikbkjnoaaDoorRpo
import Derived.Deep.Cut
import Derived.Deep.CutBlock
import Derived.Deep.CutRange
import Derived.IntWalk
namespace Go.Proofs.YtjdhgeikbkjnoaaDoor
set_option linter.unusedVariables false
open Go.RowKit Go.Shelf
attribute [local go_sem] Oper.semAt_some
namespace Nm
open Go.Proofs.YtjdhgeikbkjnoaaDoor.Utf Go.Proofs.YtjdhgeikbkjnoaaDoor.Txt Go.PlainAid

theorem info_int : (Tryd.prog.info? 3).map (fun i => (i.zero, i.size, i.bytes)) = some (some (.int .i64 0), 1, 8) := by kernel_rfl
def nv (x : Nat) : Value := .int .i64 x
/-- Whole numbers that can be read. -/
def LsZ (w : World) (v : Value) (xs : List Int) : Prop :=
  ∃ a c, v = .slice a xs.length c ∧ xs.length ≤ c ∧ (xs = [] ∨ ∃ b o, a = some ⟨b, o, none⟩ ∧ b < w.heap.size ∧ ∀ j (x : Int), xs[j]? = some x → w.cell? ⟨b, o + j, none⟩ = some (.int .i64 x))
theorem LsZ.kept {w w' : World} {v : Value} {xs : List Int} {S : List Nat} (h : LsZ w v xs) (k : Kept S w w') (hd : ∀ a n c, v = .slice (some a) n c → a.block ∉ S) : LsZ w' v xs := by
  obtain ⟨a, c, rfl, hc, h⟩ := h
  refine ⟨a, c, rfl, hc, ?_⟩
  rcases h with h | ⟨b, o, rfl, hb, h⟩
  · exact Or.inl h
  · refine Or.inr ⟨b, o, rfl, by have := k.size; omega, fun j x hx => ?_⟩
    have := h j x hx
    have e := k.block b hb (hd _ _ _ rfl)
    unfold World.cell? at this ⊢
    rw [e]
    exact this
/-- The tree as it grows. -/
structure TrI (w : World) (v4 v5 : Value) (us : List Nat) (ns : List ByteArray) (W : World) : Prop where
  r4 : W.ownsRow w.heap.size 3 1 v4 us.length (us.map nv)
  r5 : Row W w.heap.size v5 ns
  kept : Kept [] w W
  tr : Tr us ns
theorem lsI_own {w : World} {B : Nat} {v : Value} {us : List Nat} (h : w.ownsRow B 3 1 v us.length (us.map nv)) : LsI w v us := by
  rcases h.2 with ⟨h1, h2⟩ | ⟨g, cap, cur, rfl, h1, h2, h3, h4, h5, h6⟩
  · exact ⟨none, 0, by rw [h1, h2], by omega, Or.inl (List.eq_nil_of_length_eq_zero h2)⟩
  · refine ⟨_, cap, rfl, h3, Or.inr ⟨g, 0, rfl, block_lt h2, fun j x hx => ?_⟩⟩
    have := World.ownsRow.cellAt h j (by have := (List.getElem?_eq_some_iff.1 hx).1; omega)
    rw [Nat.zero_add, this, List.getElem?_map, hx]
    rfl
section
variable {w W W1 : World} {v4 v5 v' : Value} {us : List Nat} {ns : List ByteArray} {x : ByteArray} {p : Nat}
theorem TrI.mem (h : TrI w v4 v5 us ns W) : TrM W v4 v5 us ns := ⟨lsI_own h.r4, h.r5.lst, h.tr⟩
theorem TrI.call (h : TrI w v4 v5 us ns W) (k : Kept [] W W1) : TrI w v4 v5 us ns W1 :=
  ⟨own_kept h.r4 k (fun _ _ hm => by simp at hm), h.r5.kept k (fun _ _ hm => by simp at hm), h.kept.trans k (fun i hi => by simp at hi), h.tr⟩
theorem Tr.push (h : Tr us ns) (hp : p < us.length) (hl : us.length < 60) : Tr (us ++ [p]) (ns ++ [x]) := by
  have h1 := h.pos
  refine ⟨by simp [h.len], by simp, by simp; omega, ?_, fun i => ?_⟩
  · have e : (us ++ [p]).getD 0 0 = us.getD 0 0 := by unfold List.getD; rw [List.getElem?_append_left (show 0 < us.length by omega)]
    rw [e]; exact h.root
  · rw [List.length_append]
    by_cases hi : i < us.length
    · have e : (us ++ [p]).getD i 0 = us.getD i 0 := by unfold List.getD; rw [List.getElem?_append_left hi]
      rw [e]; have := h.all i; show _ < us.length + 1; omega
    · by_cases hi2 : i = us.length
      · subst hi2; simp [List.getD]; omega
      · have e : (us ++ [p]).getD i 0 = 0 := by
          have : (us ++ [p])[i]? = none := List.getElem?_eq_none (by simp; omega)
          simp [List.getD, this]
        rw [e]; simp
/-- Both are pushed, one behind the other. -/
theorem TrI.push4 (h : TrI w v4 v5 us ns W) (hown : W1.ownsRow w.heap.size 3 1 v' (us.length + 1) (us.map nv ++ [nv p])) (hg : (W.alloc (.cells #[nv p] 3)).grownBy W1 v4.ownBlock) :
    W1.ownsRow w.heap.size 3 1 v' (us ++ [p]).length ((us ++ [p]).map nv) ∧ Row W1 w.heap.size v5 ns ∧ Kept [] w W1 := by
  have ka : Kept [] W (W.alloc (.cells #[nv p] 3)) := (Kept.refl _ _).alloc _
  have kg : Kept v4.ownBlock.toList (W.alloc (.cells #[nv p] 3)) W1 := (Kept.refl _ _).grown hg (fun k e => Or.inl (by rw [e]; simp))
  have k1 : Kept v4.ownBlock.toList W W1 := (ka.mono (fun i hi => by simp at hi)).trans kg (fun i hi => Or.inl hi)
  refine ⟨by rw [List.length_append, List.map_append]; exact hown, h.r5.kept k1 (fun b hb hm => ?_), h.kept.trans k1 (fun i hi => Or.inr (World.ownsRow.lt h.r4 i (by simpa using hi)).1)⟩
  obtain ⟨c, hc⟩ := own_block h.r4 b (by simpa using hm)
  exact own_ne h.r5 hc (by decide) b hb rfl
theorem TrI.push5 (h : TrI w v4 v5 us ns W) {vz : Value} {Wm : World} (hp : p < us.length) (hl : us.length < 60) (h4 : Wm.ownsRow w.heap.size 3 1 vz (us ++ [p]).length ((us ++ [p]).map nv)) (h5 : Row Wm w.heap.size v5 ns) (hk : Kept [] w Wm)
    (hown : W1.ownsRow w.heap.size 9 1 v' (ns.length + 1) (ns.map sv ++ [sv x])) (hg : (Wm.alloc (.cells #[sv x] 9)).grownBy W1 v5.ownBlock) : TrI w vz v' (us ++ [p]) (ns ++ [x]) W1 := by
  have ka : Kept [] Wm (Wm.alloc (.cells #[sv x] 9)) := (Kept.refl _ _).alloc _
  have kg : Kept v5.ownBlock.toList (Wm.alloc (.cells #[sv x] 9)) W1 := (Kept.refl _ _).grown hg (fun k e => Or.inl (by rw [e]; simp))
  have k1 : Kept v5.ownBlock.toList Wm W1 := (ka.mono (fun i hi => by simp at hi)).trans kg (fun i hi => Or.inl hi)
  refine ⟨own_kept h4 k1 (fun b hb hm => ?_), by unfold Row; rw [List.length_append, List.map_append]; exact hown, hk.trans k1 (fun i hi => Or.inr (World.ownsRow.lt h5 i (by simpa using hi)).1), h.tr.push hp hl⟩
  obtain ⟨c, hc⟩ := own_block h5 b (by simpa using hm)
  exact own_ne h4 hc (by decide) b hb rfl
end
def TreeOut (w : World) (e : Ending) (w' : World) : Prop := ∃ v4 v5 us ns, e = .returned (.tuple #[v4, v5]) ∧ Hid (TrI w v4 v5 us ns w')

set_option maxHeartbeats 16000000 in
set_option maxRecDepth 100000 in
theorem tree_any (w : World) (ra : Option Addr) (rc : Nat) (zs : List Int) (hz : LsZ w (.slice ra zs.length rc) zs) (hb : ∀ x ∈ zs, -9223372036854775808 ≤ x ∧ x ≤ 9223372036854775807) (hl : zs.length ≤ 140737488355328) :
    Calls Tryd.prog 15 #[.slice ra zs.length rc] w (TreeOut w) := by
  obtain ⟨i0, hi0, hz00, hz01, hz02⟩ := info_parts info_s
  obtain ⟨n0, hn0, hn00, hn01, hn02⟩ := info_parts info_int
  have LZ := Lib.hid hz
  have HB := Lib.hid hb
  clear hz hb
  go_enter Tryd.func15, Tryd.ntmps15
  go_wp2_with fail
  obtain ⟨wa, hwa⟩ : ∃ wa, wa = w.alloc (.cells #[.int .i64 0] 3) := ⟨_, rfl⟩
  obtain ⟨wb, hwb⟩ : ∃ wb, wb = wa.alloc (.cells #[.string ⟨#[]⟩] 9) := ⟨_, rfl⟩
  have za : wa.heap.size = w.heap.size + 1 := by rw [hwa]; simp
  have ka : Kept [] w wa := by rw [hwa]; exact (Kept.refl _ _).alloc _
  have kb : Kept [] wa wb := by rw [hwb]; exact (Kept.refl _ _).alloc _
  have o4 : wa.ownsRow w.heap.size 3 1 (.slice (some ⟨w.heap.size, 0, none⟩) 1 1) 1 [nv 0] := by
    rw [hwa]; exact World.ownsRow_lit w #[.int .i64 0] 1 (Nat.le_refl _) (by unfold maxLen; omega) rfl
  have o5 : wb.ownsRow w.heap.size 9 1 (.slice (some ⟨wa.heap.size, 0, none⟩) 1 1) 1 [sv ⟨#[]⟩] := by
    rw [hwb]; exact World.ownsRow_lit wa #[.string ⟨#[]⟩] 1 (by omega) (by unfold maxLen; omega) rfl
  have T0 : Hid (TrI w (.slice (some ⟨w.heap.size, 0, none⟩) 1 1) (.slice (some ⟨wa.heap.size, 0, none⟩) 1 1) [0] [⟨#[]⟩] wb) :=
    ⟨own_kept o4 kb (fun _ _ hm => by simp at hm), o5, ka.trans kb (fun i hi => by simp at hi), ⟨rfl, by simp, by simp, rfl, fun i => by cases i <;> simp [List.getD]⟩⟩
  rw [za] at T0
  rw [← hwa, ← hwb]
  clear hwa hwb za ka kb o4 o5
  go_loopw [4, 5, 6] (fun v4 v5 iv wr => ∃ (k : Nat) (us : List Nat) (ns : List ByteArray) (a4 a5 : Value), a4 = v4 ∧ a5 = v5 ∧ iv = .int .i64 k ∧ k ≤ zs.length ∧ Hid (TrI w a4 a5 us ns wr)) (fun _ _ iv _ => zs.length - (intOf iv).toNat)
  case atStart => exact ⟨0, [0], [⟨#[]⟩], _, _, rfl, rfl, rfl, by omega, T0.out⟩
  case round =>
    obtain ⟨k, us, ns, a4, a5, e4, e5, rfl, hk, hT⟩ := hrel
    obtain ⟨p4, c4, rfl⟩ := own_slice hT.out.r4
    obtain ⟨p5, c5, rfl⟩ := own_slice hT.out.r5
    subst e4 e5
    obtain ⟨L, hL⟩ : ∃ L, L = us.length := ⟨_, rfl⟩
    have hpos := hT.out.tr.pos
    have hlow := hT.out.tr.low
    rw [← hL] at hpos hlow
    rw [← hL]
    have HL := Lib.hid hL
    obtain ⟨L5, hL5⟩ : ∃ L, L = ns.length := ⟨_, rfl⟩
    have HL5 := Lib.hid hL5
    rw [← hL5]
    have hl5 : L5 ≤ 60 := by have := hT.out.tr.len; omega
    clear hL hL5
    by_cases hlt : k < zs.length
    · have j1 : (k : Int) < (zs.length : Int) := by omega
      by_cases h60 : L < 60
      · have j2 : (L : Int) < 60 := by omega
        obtain ⟨za, zc, ez, -, hh⟩ := LsZ.kept LZ.out hT.out.kept (fun _ _ _ _ hm => by simp at hm)
        cases ez
        rcases hh with e | ⟨bz, oz, rfl, -, gz⟩
        · rw [e] at hlt; simp at hlt
        have cz := gz k _ (List.getElem?_eq_getElem hlt)
        have hbz := HB.out _ (List.getElem_mem hlt)
        obtain ⟨x, hx⟩ : ∃ x, x = zs[k] := ⟨_, rfl⟩
        rw [← hx] at cz hbz
        obtain ⟨b1, b2⟩ := hbz
        clear gz hx
        go_upto_if 30 with fail
        go_cut [7] from 30 to 33 (fun s7 wx => ∃ m : Nat, s7 = .int .i64 m ∧ m ≤ 9223372036854775807 ∧ wr = wx)
        case first =>
          by_cases hneg : x < 0
          · go_wp2_with fail
            go_meet
            exact ⟨(-(x + 1)).toNat, by congr 1; omega, by omega, rfl⟩
          · go_wp2_with fail
            go_meet
            exact ⟨x.toNat, by congr 1; omega, by omega, rfl⟩
        case rest =>
          obtain ⟨m, rfl, hm, rfl⟩ := hcut
          have e1 : (m : Int).tmod (L : Int) = ((m % L : Nat) : Int) := (Int.ofNat_tmod m L).symm
          have e2 : (m : Int).tdiv (L : Int) = ((m / L : Nat) : Int) := (Int.ofNat_tdiv m L).symm
          obtain ⟨q, hq⟩ : ∃ q, q = m / L := ⟨_, rfl⟩
          obtain ⟨par, hpar⟩ : ∃ q, q = m % L := ⟨_, rfl⟩
          have hpl : par < L := by rw [hpar]; exact Nat.mod_lt _ (by omega)
          have hql : q ≤ m := by rw [hq]; exact Nat.div_le_self _ _
          rw [← hq] at e2
          rw [← hpar] at e1
          have e3 : (q : Int).tmod 5 = ((q % 5 : Nat) : Int) := by
            have := Int.ofNat_tmod q 5
            exact this.symm
          obtain ⟨j, hj⟩ : ∃ j, j = q % 5 := ⟨_, rfl⟩
          have hj5 : j < 5 := by omega
          rw [← hj] at e3
          clear hq hpar hj
          obtain ⟨W1, hW1⟩ : ∃ W1, W1 = wr.alloc (.cells #[.string ⟨#[97]⟩, .string ⟨#[98]⟩, .string ⟨#[99]⟩, .string ⟨#[97, 98]⟩, .string ⟨#[46, 46, 46]⟩] 9) := ⟨_, rfl⟩
          have HT1 : Hid (TrI w (.slice p4 us.length c4) (.slice p5 ns.length c5) us ns W1) := by rw [hW1]; exact hT.out.call ((Kept.refl [] wr).alloc _)
          have HW1 := Lib.hid hW1
          clear hW1
          go_wp2_with fail
          obtain ⟨wd, hwd⟩ : ∃ wd : ByteArray, ([Value.string ⟨#[97]⟩, .string ⟨#[98]⟩, .string ⟨#[99]⟩, .string ⟨#[97, 98]⟩, .string ⟨#[46, 46, 46]⟩] : List Value)[j]'(by simpa using hj5) = .string wd := by
            obtain rfl | rfl | rfl | rfl | rfl : j = 0 ∨ j = 1 ∨ j = 2 ∨ j = 3 ∨ j = 4 := by omega
            all_goals exact ⟨_, rfl⟩
          rw [hwd, ← HW1.out]
          have CH := Lib.hid (child_any W1 _ _ us ns par wd HT1.out.mem)
          rw [← HL.out, ← HL5.out] at CH
          obtain ⟨D, hD⟩ : ∃ D, D = cd us ns par wd := ⟨_, rfl⟩
          rw [← hD] at CH
          clear hD hwd
          refine CH.out.mono ?_
          rintro e W2 ⟨rfl, rfl⟩
          have HT2 := HT1
          have R4 : Hid (W2.ownsRow w.heap.size 3 1 (.slice p4 L c4) L (us.map nv)) := by rw [HL.out]; exact HT2.out.r4
          have hzW := HT2.out.kept.size
          clear CH HW1 e1 e2 e3 hm hql cz b1 b2
          cases D with
          | some j' =>
            go_wp2_with fail
            go_roundw
            case rel => exact ⟨k + 1, us, ns, _, _, by rw [HL.out], by rw [HL5.out], by go_num, by omega, HT2.out⟩
            case measure => simp [intOf]; omega
          | none =>
            go_wp2_with (first | (at_builtin; refine wpList_append_src (W2.alloc (.cells #[.int .i64 par] 3)) rfl (.tmp 56) (.tmp 58) 35 rfl w.heap.size 3 n0 (.int .i64 0) 1 8 Tryd.underlying35 hn0 hn00 hn01 hn02 rfl (by decide) (.slice p4 L c4) L (us.map nv) rfl (R4.out.alloc _) (.slice (some ⟨W2.heap.size, 0, none⟩) 1 1) 1 [.int .i64 par] rfl (Or.inr ⟨_, _, rfl, World.news_of_block (cs := #[.int .i64 par]) (by exact heap_alloc_new W2 _)⟩) rfl (by intro u hu; simp at hu; subst hu; rfl) (by unfold maxLen; omega) (by omega) (by simp; omega) ?_; intro v z2 hown hgrow hat; have hgr2 := hgrow; rw [HL.out] at hgr2; have P4 := Lib.hid (HT2.out.push4 (p := par) (by rw [← HL.out]; exact hown) hgr2); obtain ⟨s4, d4, rfl⟩ := own_slice hown; have hz2 := P4.out.2.2.size; clear hown hgrow hat hgr2) | (at_builtin; refine wpList_append_src (z2.alloc (.cells #[.string wd] 9)) rfl (.tmp 60) (.tmp 62) 26 rfl w.heap.size 9 i0 (.string ⟨#[]⟩) 1 16 Tryd.underlying26 hi0 hz00 hz01 hz02 rfl (by decide) (.slice p5 L5 c5) L5 (ns.map sv) rfl (World.ownsRow.alloc (by rw [HL5.out]; exact P4.out.2.1) _) (.slice (some ⟨z2.heap.size, 0, none⟩) 1 1) 1 [.string wd] rfl (Or.inr ⟨_, _, rfl, World.news_of_block (cs := #[.string wd]) (by exact heap_alloc_new z2 _)⟩) rfl (by intro u hu; simp at hu; subst hu; rfl) (by unfold maxLen; omega) (by omega) (by simp; omega) ?_; intro v z3 hown hgrow hat; rw [HL5.out] at hown hgrow; have P5 := Lib.hid (HT2.out.push5 (x := wd) (p := par) (by rw [← HL.out]; exact hpl) (by rw [← HL.out]; exact h60) P4.out.1 P4.out.2.1 P4.out.2.2 hown hgrow); obtain ⟨s5, d5, rfl⟩ := own_slice hown; clear hown hgrow hat))
            go_roundw
            case rel => exact ⟨k + 1, us ++ [par], ns ++ [wd], _, _, rfl, rfl, by go_num, by omega, P5.out⟩
            case measure => simp [intOf]; omega
      · have j2 : ¬ (L : Int) < 60 := by omega
        go_wp2_with fail
        go_ret2
        exact ⟨_, _, us, ns, rfl, by rw [HL.out, HL5.out]; exact hT.out⟩
    · have j1 : ¬ (k : Int) < (zs.length : Int) := by omega
      go_wp2_with fail
      go_ret2
      exact ⟨_, _, us, ns, rfl, by rw [HL.out, HL5.out]; exact hT.out⟩
end Nm
end Go.Proofs.YtjdhgeikbkjnoaaDoor
