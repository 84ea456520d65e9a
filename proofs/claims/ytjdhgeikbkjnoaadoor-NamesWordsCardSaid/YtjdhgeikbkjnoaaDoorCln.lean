/- names' Clean walked. -/
import Derived.Test.YtjdhgeikbkjnoaaDoorJon
namespace Go.Proofs.YtjdhgeikbkjnoaaDoor
set_option linter.unusedVariables false
open Go.RowKit Go.Shelf
attribute [local go_sem] Oper.semAt_some
namespace Nm
open Go.Proofs.YtjdhgeikbkjnoaaDoor.Utf Go.Proofs.YtjdhgeikbkjnoaaDoor.Txt Go.PlainAid

/-- How long parts are with what lies between. -/
def wt : List (List UInt8) → Nat
  | [] => 0
  | p :: ps => p.length + 1 + wt ps
theorem wt_append (a b : List (List UInt8)) : wt (a ++ b) = wt a + wt b := by
  induction a with
  | nil => simp [wt]
  | cons p a ih => simp [wt, ih]; omega
theorem wt_cut : ∀ (l : List UInt8), wt (cut l) = l.length + 1
  | [] => by simp [cut, wt]
  | c :: l => by
    have ih := wt_cut l
    unfold cut
    split
    · simp [wt, ih]; omega
    · split
      · rename_i h; exact absurd h (cut_ne l)
      · rename_i p ps h
        rw [h] at ih
        simp [wt] at ih ⊢
        omega
theorem wt_filter (f : List UInt8 → Bool) (l : List (List UInt8)) : wt (l.filter f) ≤ wt l := by
  induction l with
  | nil => simp
  | cons p l ih =>
    rw [List.filter_cons]
    split
    · simp [wt]; omega
    · simp [wt]; omega
theorem wt_dropLast (l : List (List UInt8)) : wt l.dropLast ≤ wt l := by
  induction l with
  | nil => simp
  | cons p l ih =>
    cases l with
    | nil => simp [wt]
    | cons q l => simp [wt] at ih ⊢; omega
theorem wt_stp (r : Bool) (l : List ByteArray) (x : ByteArray) : wt ((stp r l x).map dl) ≤ wt (l.map dl) + ((dl x).length + 1) := by
  have h1 : wt ((l ++ [x]).map dl) = wt (l.map dl) + ((dl x).length + 1) := by rw [List.map_append, wt_append]; simp [wt]
  have h2 : wt (l.dropLast.map dl) ≤ wt (l.map dl) := by
    rw [List.map_dropLast]
    exact wt_dropLast _
  unfold stp
  split
  · split
    · split
      · split <;> omega
      · omega
    · split <;> omega
  · omega
theorem wt_foldl (r : Bool) (ps : List ByteArray) : ∀ l, wt ((ps.foldl (stp r) l).map dl) ≤ wt (l.map dl) + wt (ps.map dl) := by
  induction ps with
  | nil => intro l; simp [wt]
  | cons x ps ih =>
    intro l
    have := ih (stp r l x)
    have := wt_stp r l x
    simp [wt] at *
    omega
theorem wt_sho (r : Bool) (ps : List ByteArray) : wt ((sho r ps).map dl) ≤ wt (ps.map dl) := by
  have := wt_foldl r ps []
  unfold sho
  simpa [wt] using this
theorem jin_size (ps : List ByteArray) : (jin ps).size ≤ wt (ps.map dl) := by
  have e : (jin ps).size = (Lib.join (ps.map dl) [47]).length := rfl
  rw [e]
  unfold Lib.join
  generalize ps.map dl = l
  induction l with
  | nil => simp [wt]
  | cons p l ih =>
    cases l with
    | nil => simp [wt, List.intercalate]
    | cons q l =>
      simp [List.intercalate, wt] at ih ⊢
      omega
theorem wt_parts (l : List UInt8) : wt (parts l) ≤ l.length + 1 := by
  have := wt_filter keep (cut l)
  have := wt_cut l
  unfold parts
  omega
theorem parts_length (l : List UInt8) : (parts l).length ≤ l.length + 1 := by
  have := List.length_filter_le keep (cut l)
  have := cut_length l
  unfold parts
  omega
theorem sho_length (r : Bool) (ps : List ByteArray) : (sho r ps).length ≤ ps.length := by
  have := sho_len r ps ps.length (Nat.le_refl _)
  rwa [List.take_length] at this

/-- What Clean makes of parts. -/
def cln (s : ByteArray) (ps : List ByteArray) : ByteArray := joi (rooted (dl s)) (sho (rooted (dl s)) ps)
def ClnOut (w : World) (s : ByteArray) (e : Ending) (w' : World) : Prop :=
  (okl (dl s) = true ∧ ∃ ps : List ByteArray, ps.map dl = parts (dl s) ∧ e = .returned (.tuple #[.string (cln s ps), .int .i64 0]) ∧ Kept [] w w') ∨
  (okl (dl s) = false ∧ e = .returned (.tuple #[.string ⟨#[]⟩, .int .i64 51]) ∧ Kept [] w w')

set_option maxHeartbeats 8000000 in
set_option maxRecDepth 100000 in
theorem clean_any (w : World) (s : ByteArray) (hs : s.size ≤ 1073741824) :
    Calls Tryd.prog 11 #[.string s] w (ClnOut w s) := by
  have SPL := Lib.hid (fun w => split_any w s hs)
  go_enter Tryd.func11, Tryd.ntmps11
  go_wp2_with fail
  refine (SPL.out w).mono ?_
  rintro e w2 (⟨ho, pv, ps, rfl, hR, hE, hK⟩ | ⟨ho, rfl, hK⟩)
  · obtain ⟨pa, pc, rfl⟩ := own_slice hR.out
    have HO := Lib.hid ho
    have hlen : ps.length ≤ s.size + 1 := by
      have := parts_length (dl s)
      rw [← hE.out, List.length_map, dl_length] at this
      exact this
    have hwt : wt (ps.map dl) ≤ s.size + 1 := by
      have := wt_parts (dl s)
      rw [hE.out, ← dl_length s]
      exact this
    have HW := Lib.hid hwt
    obtain ⟨r, hr⟩ : ∃ r, r = rooted (dl s) := ⟨_, rfl⟩
    have HRr := Lib.hid hr
    rw [← hr]
    clear ho hr hwt
    go_wp2_with fail
    obtain ⟨w3, hw3⟩ : ∃ w3, w3 = w2.alloc (.cells #[.bool r, .slice pa ps.length pc] 28) := ⟨_, rfl⟩
    have k3 : Kept [] w2 w3 := by rw [hw3]; exact (Kept.refl _ _).alloc _
    rw [← hw3]
    have LP : Lst w3 (.slice pa ps.length pc) ps := Lst.kept hR.out.lst k3 (fun _ _ _ _ hm => by simp at hm)
    refine (shortened_any w3 r _ ps LP (by omega)).mono ?_
    rintro e w4 ⟨v, rfl, hR4, hK4⟩
    obtain ⟨va, vc, rfl⟩ := own_slice hR4.out
    have hl4 := sho_length r ps
    have hj4 : (jin (sho r ps)).size ≤ 4294967296 := by
      have := jin_size (sho r ps)
      have := wt_sho r ps
      have := HW.out
      omega
    have JN := Lib.hid (join_any w4 r _ (sho r ps) hR4.out.lst (by omega) hj4)
    have K4 : Hid (Kept [] w w4) := (hK.out.trans k3 (fun i hi => by simp at hi)).trans hK4.out (fun i hi => by simp at hi)
    clear hw3 k3 LP hl4 hj4
    go_wp2_with fail
    refine JN.out.mono ?_
    rintro e w5 ⟨rfl, k5⟩
    go_wp2_with fail
    refine ⟨rfl, .tuple #[.string (joi r (sho r ps)), .int .i64 0], ?_, Or.inl ⟨HO.out, ps, hE.out, ?_, K4.out.trans k5 (fun i hi => by simp at hi)⟩⟩
    · simp [results, Tryd.f11, go_sem]
    · unfold cln
      rw [← HRr.out]
  · have HO := Lib.hid ho
    clear ho
    go_wp2_with fail
    refine ⟨rfl, .tuple #[.string ⟨#[]⟩, .int .i64 51], ?_, Or.inr ⟨HO.out, rfl, hK.out.trans ((Kept.refl [] w2).alloc _) (fun i hi => by simp at hi)⟩⟩
    simp [results, Tryd.f11, go_sem]
end Nm
end Go.Proofs.YtjdhgeikbkjnoaaDoor
