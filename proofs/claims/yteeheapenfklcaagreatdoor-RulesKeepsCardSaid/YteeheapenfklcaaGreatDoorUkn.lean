/- users: what a table tells: Known, Member, account, Leads; a new one. -/
import Derived.Test.YteeheapenfklcaaGreatDoorUtb
namespace Go.Proofs.YteeheapenfklcaaGreatDoor
set_option linter.unusedVariables false
open Go.RowKit Go.Shelf
attribute [local go_sem] Oper.semAt_some
namespace Us
open Go.Proofs.YteeheapenfklcaaGreatDoor.Utf Go.Proofs.YteeheapenfklcaaGreatDoor.Txt Go.PlainAid Go.Proofs.YteeheapenfklcaaGreatDoor.Mpf

theorem zero_int (w : World) : (zeroValue 3).run Tryz.prog w = .ok (.int .i64 0) w := by kernel_rfl
theorem zero_unit (w : World) : (zeroValue 117).run Tryz.prog w = .ok unitV w := by kernel_rfl
section
variable {w : World} {B p : Nat} {sl : Value} {m1 m2 n2 : Nat} {f : ByteArray × ByteArray → Bool} {L : List (Acc × Value)}
theorem plF_isSome (T : List Acc) (n : ByteArray) : (plF T n).isSome = known T n := by
  unfold plF
  rw [← placeOf_known n T 0]
  cases placeOf T 0 n <;> rfl
theorem known_x (h : TbX w B p sl m1 m2 n2 f L) (n : ByteArray) (hn : n.size ≤ maxLen) :
    Calls Tryz.prog 13 #[.pointer (some ⟨p, 0, none⟩), .string n] w fun e w' => e = .returned (.bool (known (accs L) n)) ∧ w' = w := by
  have c1 : w.cell? ⟨p, 1, none⟩ = some (.map (some m1)) := by rw [cell_of_row w p 1 _ _ (0, 0) h.box]; rfl
  have LK := h.pl.look Tryz.underlying87 (zero_int w) (x := n) hn true
  rw [if_pos rfl, plF_isSome] at LK
  obtain ⟨k, hk⟩ : ∃ k, k = known (accs L) n := ⟨_, rfl⟩
  obtain ⟨v, hv⟩ : ∃ v, v = (plF (accs L) n).getD (.int .i64 0) := ⟨_, rfl⟩
  rw [← hk, ← hv] at LK
  rw [← hk]
  have LK2 : (Instr.lookup 87 (.map (some m1)) (.string n) true).run Tryz.prog w = .ok (.tuple #[v, .bool k]) w := LK
  clear LK hk hv
  go_enter Tryz.func13, Tryz.ntmps13
  go_wp2_with fail
  go_ret
  exact ⟨rfl, rfl⟩
theorem beq_str (x y : ByteArray) : (x.toList == y.toList) = decide (x = y) := by
  rw [Bool.eq_iff_iff, beq_iff_eq, decide_eq_true_iff]
  constructor
  · intro h
    rw [ByteArray.toList_eq, ByteArray.toList_eq] at h
    exact ByteArray.ext (Array.toList_inj.1 h)
  · rintro rfl; rfl
set_option maxRecDepth 100000 in
theorem member_x (h : TbX w B p sl m1 m2 n2 f L) (u g : ByteArray) (hu : u.size ≤ maxLen) (hg : g.size ≤ maxLen) :
    Calls Tryz.prog 23 #[.pointer (some ⟨p, 0, none⟩), .string u, .string g] w fun e w' => e = .returned (.bool (f (u, g) || (decide (u = g) && known (accs L) u))) ∧ Kept [] w w' := by
  have c2 : w.cell? ⟨p, 2, none⟩ = some (.map (some m2)) := by rw [cell_of_row w p 2 _ _ (0, 0) h.box]; rfl
  have LK := h.bl.look Tryz.underlying88 (zero_unit w) (x := (u, g)) ⟨hu, hg⟩ true
  have hs : (blF f (u, g)).isSome = f (u, g) := by unfold blF; cases f (u, g) <;> rfl
  have hv : (blF f (u, g)).getD unitV = unitV := by unfold blF; cases f (u, g) <;> rfl
  rw [if_pos rfl, hs, hv] at LK
  have KN := Lib.hid (fun (w' : World) (k : Kept [] w w') => known_x (h.kept k) u hu)
  obtain ⟨q, hq⟩ : ∃ q, q = known (accs L) u := ⟨_, rfl⟩
  obtain ⟨b, hb⟩ : ∃ b, b = f (u, g) := ⟨_, rfl⟩
  rw [← hb] at LK
  rw [← hq] at KN
  rw [← hb, ← hq]
  have LK2 : (Instr.lookup 88 (.map (some m2)) (.agg #[.string u, .string g]) true).run Tryz.prog w = .ok (.tuple #[.agg #[], .bool b]) w := LK
  have BQ := beq_str u g
  have K1 : Hid (Kept [] w (w.alloc (.cells #[] 117))) := (Kept.refl _ _).alloc _
  clear LK hs hv hb hq h
  cases b with
  | true =>
    go_enter Tryz.func23, Tryz.ntmps23
    go_wp2_with fail
    go_ret
    exact ⟨rfl, K1.out⟩
  | false =>
    by_cases e : u = g
    · rw [decide_eq_true e] at BQ ⊢
      clear e
      go_enter Tryz.func23, Tryz.ntmps23
      go_wp2_with (go_at_call 13; refine (KN.out _ K1.out).mono ?_; rintro e w2 ⟨rfl, rfl⟩)
      go_ret
      exact ⟨rfl, K1.out⟩
    · rw [decide_eq_false e] at BQ ⊢
      clear e
      go_enter Tryz.func23, Tryz.ntmps23
      go_wp2_with fail
      go_ret
      exact ⟨rfl, K1.out⟩

/-- The account of a name, or noughts. -/
def zeroA : Acc × Value := (⟨⟨#[]⟩, ⟨#[]⟩, [], ⟨#[]⟩⟩, .slice none 0 0)
def accAt (L : List (Acc × Value)) (n : ByteArray) : Acc × Value := match placeOf (accs L) 0 n with | some k => L.getD k zeroA | none => zeroA
theorem accs_length : (accs L).length = L.length := by simp [accs]
theorem flat_at : ∀ (L : List (Acc × Value)) (k : Nat) (hk : k < L.length), (L.flatMap accC)[k * 4]? = some (.string L[k].1.name) ∧ (L.flatMap accC)[k * 4 + 1]? = some (.string L[k].1.leader) ∧ (L.flatMap accC)[k * 4 + 2]? = some L[k].2 ∧ (L.flatMap accC)[k * 4 + 3]? = some (.string L[k].1.key)
  | x :: L, 0, _ => by simp [accC]
  | x :: L, k + 1, h => by
    have := flat_at L k (by simpa using h)
    have e : (x :: L).flatMap accC = .string x.1.name :: .string x.1.leader :: x.2 :: .string x.1.key :: L.flatMap accC := rfl
    rw [e, show (k + 1) * 4 = k * 4 + 4 by omega, show k * 4 + 4 + 1 = k * 4 + 1 + 4 by omega, show k * 4 + 4 + 2 = k * 4 + 2 + 4 by omega, show k * 4 + 4 + 3 = k * 4 + 3 + 4 by omega]
    exact this
set_option maxRecDepth 100000 in
theorem account_x (h : TbX w B p sl m1 m2 n2 f L) (n : ByteArray) (hn : n.size ≤ maxLen) (hL : L.length ≤ 1048576) :
    Calls Tryz.prog 52 #[.pointer (some ⟨p, 0, none⟩), .string n] w fun e w' => e = .returned (.tuple #[accV (accAt L n).1.name (accAt L n).1.leader (accAt L n).1.key (accAt L n).2, .bool (known (accs L) n)]) ∧ Kept [] w w' := by
  have hk := placeOf_known n (accs L) 0
  obtain ⟨w1, hw1⟩ : ∃ w1, w1 = w.alloc (.cells #[.string ⟨#[]⟩, .string ⟨#[]⟩, .slice none 0 0, .string ⟨#[]⟩] 35) := ⟨_, rfl⟩
  have K1 : Hid (Kept [] w w1) := by rw [hw1]; exact (Kept.refl _ _).alloc _
  have HW1 := Lib.hid hw1
  clear hw1
  have h1 := h.kept K1.out
  have d1 : w1.cell? ⟨p, 1, none⟩ = some (.map (some m1)) := by rw [cell_of_row w1 p 1 _ _ (0, 0) h1.box]; rfl
  have d0 : w1.cell? ⟨p, 0, none⟩ = some sl := by rw [cell_of_row w1 p 0 _ _ (0, 0) h1.box]; rfl
  have LK1 := h1.pl.look Tryz.underlying87 (zero_int w1) (x := n) hn true
  rw [if_pos rfl, plF_isSome] at LK1
  cases hpl : placeOf (accs L) 0 n with
  | none =>
    have hkn : known (accs L) n = false := by rw [← hk, hpl]; rfl
    have hat : accAt L n = zeroA := by unfold accAt; rw [hpl]
    rw [hat, hkn]
    have hv : (plF (accs L) n).getD (.int .i64 0) = .int .i64 0 := by unfold plF; rw [hpl]; rfl
    rw [hkn, hv] at LK1
    have LK2 : (Instr.lookup 87 (.map (some m1)) (.string n) true).run Tryz.prog w1 = .ok (.tuple #[.int .i64 0, .bool false]) w1 := LK1
    unfold accV zeroA
    clear LK1 hv hat hkn hpl hk h h1
    obtain rfl := HW1.out
    go_enter Tryz.func52, Tryz.ntmps52
    go_wp2_with fail
    refine bodyPost_ret (v := .tuple #[.agg #[.string ⟨#[]⟩, .string ⟨#[]⟩, .slice none 0 0, .string ⟨#[]⟩], .bool false]) (by simp [results, Tryz.results52, go_sem]) rfl ⟨rfl, (Kept.refl _ _).alloc _⟩
  | some k =>
    obtain ⟨hkl, -, hkn2⟩ := placeOf_some n (accs L) 0 k hpl
    rw [accs_length, Nat.sub_zero] at hkl
    have hkn : known (accs L) n = true := by rw [← hk, hpl]; rfl
    have hat : accAt L n = L[k] := by unfold accAt; rw [hpl]; simp [List.getD, hkl]
    rw [hat, hkn]
    have hv : (plF (accs L) n).getD (.int .i64 0) = .int .i64 k := by unfold plF; rw [hpl]; rfl
    rw [hkn, hv] at LK1
    have LK2 : (Instr.lookup 87 (.map (some m1)) (.string n) true).run Tryz.prog w1 = .ok (.tuple #[.int .i64 k, .bool true]) w1 := LK1
    have hrow := h1.row
    rcases hrow.2 with ⟨_, h0⟩ | ⟨g, cap, cur, e, -⟩
    · omega
    subst e
    obtain ⟨f0, f1, f2, f3⟩ := flat_at L k hkl
    have x0 := (World.ownsRow.cellAt hrow (k * 4) (by omega)).trans f0
    have x1 := (World.ownsRow.cellAt hrow (k * 4 + 1) (by omega)).trans f1
    have x2 := (World.ownsRow.cellAt hrow (k * 4 + 2) (by omega)).trans f2
    have x3 := (World.ownsRow.cellAt hrow (k * 4 + 3) (by omega)).trans f3
    have hme := h1.mem L[k] (List.getElem_mem hkl)
    obtain ⟨va, vc, hms⟩ := hme.slice
    obtain ⟨⟨⟨an, al, am, ak⟩, av⟩, hx⟩ : ∃ x, x = L[k] := ⟨_, rfl⟩
    rw [← hx] at x0 x1 x2 x3 hms ⊢
    simp only at x0 x1 x2 x3 hms ⊢
    subst hms
    unfold accV
    obtain ⟨N, hN⟩ : ∃ N, N = L.length := ⟨_, rfl⟩
    rw [← hN] at d0 hkl hL
    have j1 : (k : Int) < (N : Int) := by omega
    have j0 : (0 : Int) ≤ (k : Int) := by omega
    clear LK1 hv hat hkn hkn2 hpl hk h h1 hrow f0 f1 f2 f3 hme hx hN
    obtain rfl := HW1.out
    go_enter Tryz.func52, Tryz.ntmps52
    go_wp2_with fail
    refine bodyPost_ret (v := .tuple #[.agg #[.string an, .string al, .slice va am.length vc, .string ak], .bool true]) (by simp [results, Tryz.results52, go_sem]) rfl ⟨rfl, (Kept.refl _ _).alloc _⟩
/-- A user's leader. -/
def leaderOf (L : List (Acc × Value)) (g : ByteArray) : ByteArray := (accAt L g).1.leader
def memX (f : ByteArray × ByteArray → Bool) (T : List Acc) (u g : ByteArray) : Bool := f (u, g) || (decide (u = g) && known T u)
def leadsX (f : ByteArray × ByteArray → Bool) (L : List (Acc × Value)) (u g : ByteArray) : Bool := if (leaderOf L g).size = 0 then memX f (accs L) u g else decide (u = leaderOf L g)
theorem accAt_mem (h : TbX w B p sl m1 m2 n2 f L) (g : ByteArray) : Mem w (accAt L g).2 (accAt L g).1.members := by
  unfold accAt
  cases hpl : placeOf (accs L) 0 g with
  | none => exact World.ownsRow_nil _ _ _ _
  | some k =>
    obtain ⟨hkl, -, -⟩ := placeOf_some g (accs L) 0 k hpl
    rw [accs_length, Nat.sub_zero] at hkl
    simp only [List.getD, List.getElem?_eq_getElem hkl, Option.getD_some]
    exact h.mem _ (List.getElem_mem hkl)
set_option maxHeartbeats 1000000 in
set_option maxRecDepth 100000 in
theorem leads_x (h : TbX w B p sl m1 m2 n2 f L) (u g : ByteArray) (hu : u.size ≤ maxLen) (hg : g.size ≤ maxLen) (hL : L.length ≤ 1048576) :
    Calls Tryz.prog 24 #[.pointer (some ⟨p, 0, none⟩), .string u, .string g] w fun e w' => e = .returned (.bool (leadsX f L u g)) ∧ Kept [] w w' := by
  have AC := Lib.hid (account_x h g hg hL)
  have ME := Lib.hid (fun (w' : World) (k : Kept [] w w') => member_x (h.kept k) u g hu hg)
  obtain ⟨va, vc, hms⟩ := (accAt_mem h g).slice
  obtain ⟨kn, hkn⟩ : ∃ k, k = known (accs L) g := ⟨_, rfl⟩
  obtain ⟨z, hz⟩ : ∃ z, z = leadsX f L u g := ⟨_, rfl⟩
  have HZ := Lib.hid hz
  rw [← hz]
  unfold leadsX leaderOf memX at HZ
  obtain ⟨q, hq⟩ : ∃ q, q = (f (u, g) || (decide (u = g) && known (accs L) u)) := ⟨_, rfl⟩
  rw [← hq] at HZ ME
  rw [← hkn] at AC
  obtain ⟨⟨⟨an, al, am, ak⟩, av⟩, hx⟩ : ∃ x, x = accAt L g := ⟨_, rfl⟩
  rw [← hx] at AC HZ hms
  simp only at AC HZ hms
  subst hms
  unfold accV at AC
  have BQ := beq_str u al
  clear h hkn hz hq hx
  by_cases h0 : al.size = 0
  · have hv : z = q := by rw [HZ.out, if_pos h0]
    have h1 := lead_eq h0
    rw [hv]
    clear h0 HZ BQ hv
    go_enter Tryz.func24, Tryz.ntmps24
    go_wp2_with (first | (go_at_call 52; refine AC.out.mono ?_; rintro e w1 ⟨rfl, k1⟩; have k2 := k1.alloc (.cells #[.string an, .string al, .slice va am.length vc, .string ak] 35)) | (go_at_call 23; refine (ME.out _ k2).mono ?_; rintro e w3 ⟨rfl, k3⟩))
    go_ret
    exact ⟨rfl, k2.trans k3 (fun i hi => by simp at hi)⟩
  · have hv : z = decide (u = al) := by rw [HZ.out, if_neg h0]
    rw [hv]
    have h1 := lead_ne h0
    have b1 : al.toList.isEmpty = false := by rw [List.isEmpty_eq_false_iff]; exact h1
    have b0 : (al.toList == []) = false := by rw [beq_eq_false_iff_ne]; exact h1
    obtain ⟨y, hy⟩ : ∃ y, y = decide (u = al) := ⟨_, rfl⟩
    rw [← hy] at BQ ⊢
    clear h0 h1 HZ hv hy
    go_enter Tryz.func24, Tryz.ntmps24
    go_wp2_with (first | (go_at_call 52; refine AC.out.mono ?_; rintro e w1 ⟨rfl, k1⟩; have k2 := k1.alloc (.cells #[.string an, .string al, .slice va am.length vc, .string ak] 35)))
    go_ret
    exact ⟨rfl, k2⟩
end
end Us
end Go.Proofs.YteeheapenfklcaaGreatDoor
