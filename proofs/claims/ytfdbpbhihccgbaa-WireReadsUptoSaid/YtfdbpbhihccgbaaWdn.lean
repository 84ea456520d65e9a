/- What NewWriter, slices.Clone and Done of a writer do. -/
import Derived.Test.YtfdbpbhihccgbaaWop
import Derived.Lib.SliceRun
namespace Go.Proofs.Ytfdbpbhihccgbaa
set_option linter.unusedVariables false
open Go.RowKit
namespace Wrt
open Go.Proofs.Ytfdbpbhihccgbaa.Txt

/-- A new writer. -/
theorem new_good (w : World) (x : Int) (n : Nat) (hx : x = n) (hn : n ≤ 16777216) :
    Calls Try.prog 7 #[.int .i64 x] w fun e w' => e = .returned (.tuple #[.pointer (some ⟨w.heap.size, 0, none⟩), .int .i64 0]) ∧ Hid (Wr 77 w' w.heap.size [w.heap.size] ⟨n, [], [], 0⟩) ∧ Kept [] w w' := by
  subst hx
  go_enter Try.func7, Try.ntmps7
  go_wp2_with fail
  go_ret2
  refine ⟨rfl, ?_, (Kept.refl _ _).alloc _⟩
  exact ⟨.slice none 0 0, .slice none 0 0, heap_alloc_new w _, World.ownsRow_nil _ _ _ _, World.ownsRow_nil _ _ _ _, rfl⟩
theorem new_bad (w : World) (x : Int) (hx : x < 0 ∨ 16777216 < x) (h1 : -9223372036854775808 ≤ x) (h2 : x ≤ 9223372036854775807) :
    Calls Try.prog 7 #[.int .i64 x] w fun e w' => e = .returned (.tuple #[.pointer none, .int .i64 1]) ∧ w = w' := by
  rcases hx with hx | hx
  · go_enter Try.func7, Try.ntmps7
    go_wp2_with fail
    go_ret2
    exact ⟨rfl, rfl⟩
  · have h0 : ¬ x < 0 := by omega
    go_enter Try.func7, Try.ntmps7
    go_wp2_with fail
    go_ret2
    exact ⟨rfl, rfl⟩

/-- A list of the call's own. -/
def Own (w : World) (B : Nat) (v : Value) (bs : List UInt8) : Prop := w.ownsRow B 5 1 v bs.length (bs.map bv)

/-- A new list came out. -/
def Fresh (w : World) (bs : List UInt8) (e : Ending) (w' : World) : Prop := ∃ v', e = .returned v' ∧ Hid (Own w' w.heap.size v' bs) ∧ Kept [] w w'

set_option maxRecDepth 100000 in
/-- slices.Clone at []byte. -/
theorem clone_any (w : World) (v : Value) (bs : List UInt8) (T : List Nat) (hsz : bs.length ≤ 1152921504606) (hb : Hid (Src w v bs T)) :
    Calls Try.prog 45 #[v] w (Fresh w bs) := by
  obtain ⟨i0, hi, hz0, hz1, hz2⟩ := info_parts info5
  obtain ⟨a, c, rfl, hno, hcl⟩ := hb.out
  cases a with
  | none =>
    obtain ⟨rfl, rfl⟩ := hno rfl
    clear hno hcl hb hsz
    have hq := fun w => Lib.run_eql_slice_nil (P := Try.prog) w 37 5 none 0 0 0 0 Try.underlying37
    go_enter Try.func45, Try.ntmps45
    go_wp2_with fail
    go_ret
    exact ⟨_, rfl, World.ownsRow_nil _ _ _ _, Kept.refl _ _⟩
  | some ad =>
    have Hcl := Lib.hid (hcl ad rfl).2
    clear hno hcl
    have hq := fun w => Lib.run_eql_slice_nil (P := Try.prog) w 37 5 (some ad) bs.length c 0 0 Try.underlying37
    have how : (w.alloc (.cells #[] 5)).ownsRow w.heap.size 5 1 (.slice (some ⟨w.heap.size, 0, none⟩) 0 0) 0 [] := World.ownsRow_made w #[] 0 (Nat.le_refl _) (by decide) rfl
    have Hcl2 : Hid (∀ j u, (bs.map bv)[j]? = some u → (w.alloc (.cells #[] 5)).cell? (ad.add j) = some u) := fun j u hu => by
      have := Hcl.out j u hu
      rw [← this]
      exact World.cell?_of_block (Below.heap_alloc _ _ _ (World.block_lt_of_cell? w _ this))
    have How := Lib.hid how
    clear how
    go_enter Try.func45, Try.ntmps45
    go_wp2_with (at_builtin; refine wpList_append_own_at _ rfl (.tmp 5) (.tmp 6) 37 rfl w.heap.size 5 i0 (.int .u8 0) 1 1 Try.underlying37 hi hz0 hz1 hz2 rfl (by decide) _ _ _ rfl How.out ad _ _ (bs.map bv) rfl (by simp) Hcl2.out (by intro u hu; obtain ⟨x, _, rfl⟩ := List.mem_map.1 hu; rfl) (by unfold maxLen; omega) (by omega) (by simp) ?_; intro v' w2 hown hgrow _ hat; have R1 : Hid (Own w2 w.heap.size v' bs) := (by simpa [Own, Hid] using hown); have R2 : Hid (Kept [] w w2) := ((Kept.refl [] w).alloc _).grown hgrow (by intro k hk; cases hk; exact Or.inr (Nat.le_refl _)); clear hown hgrow hat)
    go_ret
    exact ⟨_, rfl, R1, R2⟩

set_option maxHeartbeats 400000 in
/-- Done: what is wrong. -/
theorem done_wrong (w : World) (p : Nat) (S : List Nat) (st : WS) (he : st.err ≠ 0) (h : Hid (Wr 77 w p S st)) :
    Calls Try.prog 28 #[.pointer (some ⟨p, 0, none⟩)] w fun e w' => e = .returned (.tuple #[.slice none 0 0, .int .i64 st.err]) ∧ Kept [] w w' := by
  have hE : ((st.err : Int) == 0) = false := by simp; omega
  obtain ⟨v, u, c0, c1, c2, c3, fz, -⟩ := h.out.parts
  go_enter Try.func28, Try.ntmps28
  go_wp2_with fail
  refine (right_any _ p S st h).mono ?_
  rintro e w1 ⟨rfl, rfl⟩
  go_wp2_with fail
  go_quiet (fail)
  go_wp2_with fail
  go_ret2
  exact ⟨rfl, (Kept.refl _ _).drewN _⟩

/-- Done: a part is open. -/
theorem done_open (w : World) (p : Nat) (S : List Nat) (st : WS) (he : st.err = 0) (ho : 0 < st.os.length) (h : Hid (Wr 77 w p S st)) :
    Calls Try.prog 28 #[.pointer (some ⟨p, 0, none⟩)] w fun e w' => e = .returned (.tuple #[.slice none 0 0, .int .i64 1]) ∧ Kept [] w w' := by
  have hE : ((st.err : Int) == 0) = true := by rw [he]; rfl
  obtain ⟨v, u, c0, c1, c2, c3, fz, hv, hu, -⟩ := h.out.parts
  obtain ⟨a, c, rfl⟩ := own_slice hu.out
  have ho' : (0 : Int) < (st.os.length : Int) := by omega
  clear he ho
  go_enter Try.func28, Try.ntmps28
  go_wp2_with fail
  refine (right_any _ p S st h).mono ?_
  rintro e w1 ⟨rfl, rfl⟩
  go_wp2_with fail
  go_ret2
  exact ⟨rfl, Kept.refl _ _⟩

/-- Its answer, where all is well. -/
def FreshOk (w : World) (bs : List UInt8) (e : Ending) (w' : World) : Prop := ∃ v', e = .returned (.tuple #[v', .int .i64 0]) ∧ Hid (Own w' w.heap.size v' bs) ∧ Kept [] w w'

set_option maxRecDepth 100000 in
/-- Done. -/
theorem done_good (w : World) (p : Nat) (S : List Nat) (st : WS) (he : st.err = 0) (ho : st.os = []) (hl : st.bs.length ≤ 16777216) (h : Hid (Wr 77 w p S st)) :
    Calls Try.prog 28 #[.pointer (some ⟨p, 0, none⟩)] w (FreshOk w st.bs) := by
  have hE : ((st.err : Int) == 0) = true := by rw [he]; rfl
  obtain ⟨v, u, c0, c1, c2, c3, fz, hv, hu, -⟩ := h.out.parts
  obtain ⟨a, c, hsl⟩ := own_slice hu.out
  rw [ho] at hsl
  have hsl' : u = .slice a 0 c := hsl
  subst hsl'
  have hsrc := Lib.hid (Src.of_own hv.out)
  clear he ho hsl hu
  go_enter Try.func28, Try.ntmps28
  go_wp2_with fail
  refine (right_any _ p S st h).mono ?_
  rintro e w1 ⟨rfl, rfl⟩
  go_wp2_with fail
  refine (clone_any _ v st.bs _ (by omega) hsrc).mono ?_
  rintro e w2 ⟨v', rfl, h1, h2⟩
  go_wp2_with fail
  go_ret2
  exact ⟨_, rfl, h1, h2⟩
end Wrt
end Go.Proofs.Ytfdbpbhihccgbaa
