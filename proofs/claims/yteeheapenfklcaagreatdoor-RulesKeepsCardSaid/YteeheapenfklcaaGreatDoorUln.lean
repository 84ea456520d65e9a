/- users: an account as a line (strings.Join, lineOf). -/
import Derived.Test.YteeheapenfklcaaGreatDoorUkn
namespace Go.Proofs.YteeheapenfklcaaGreatDoor
set_option linter.unusedVariables false
open Go.RowKit Go.Shelf
attribute [local go_sem] Oper.semAt_some
namespace Us
open Go.Proofs.YteeheapenfklcaaGreatDoor.Utf Go.Proofs.YteeheapenfklcaaGreatDoor.Txt Go.PlainAid

/-- Joined by one sign. -/
def jl (xs : List ByteArray) (c : UInt8) : List UInt8 := Lib.join (xs.map dl) [c]
def bA (l : List UInt8) : ByteArray := ⟨l.toArray⟩
theorem dl_bA (l : List UInt8) : dl (bA l) = l := by simp [dl, bA]
theorem jl_length (xs : List ByteArray) (c : UInt8) (M : Nat) (h : ∀ x ∈ xs, x.size ≤ M) : (jl xs c).length ≤ xs.length * (M + 1) := by
  cases xs with
  | nil => simp [jl, Lib.join_nil]
  | cons x xs =>
    have hl : ∀ (l : List ByteArray), (∀ x ∈ l, x.size ≤ M) → Lib.lens (l.map dl) ≤ l.length * M := by
      intro l
      induction l with
      | nil => intro _; simp [Lib.lens]
      | cons y l ih =>
        intro h
        have h1 := h y (by simp)
        have h2 := ih (fun z hz => h z (by simp [hz]))
        simp only [Lib.lens, List.map_cons, List.map_map, List.sum_cons, List.length_cons, Function.comp_def, dl_length] at h2 ⊢
        rw [Nat.add_mul, Nat.one_mul]
        omega
    have h1 := hl (x :: xs) h
    unfold jl
    rw [List.map_cons, Lib.join_length]
    rw [List.map_cons] at h1
    simp only [List.length_cons, List.length_nil, List.length_map] at h1 ⊢
    have : (xs.length + 1) * (M + 1) = (xs.length + 1) * M + (xs.length + 1) := by rw [Nat.mul_add, Nat.mul_one]
    omega
theorem join_any (w : World) (v : Value) (ms : List ByteArray) (c : UInt8) (hm : Mem w v ms) (hz : ∀ m ∈ ms, m.size ≤ 4194304) (hl : ms.length ≤ 1048576) :
    Calls Tryz.prog 57 #[v, .string ⟨#[c]⟩] w fun e w' => e = .returned (.string (bA (jl ms c))) ∧ Kept [] w w' := by
  have hj := jl_length ms c 4194304 hz
  have hb : ms.length * (4194304 + 1) ≤ 1048576 * (4194304 + 1) := Nat.mul_le_mul_right _ hl
  rcases hm.2 with ⟨rfl, h0⟩ | ⟨g, cap, cur, rfl, _, hg, hcap, _⟩
  · have : ms = [] := List.eq_nil_of_length_eq_zero h0
    subst this
    refine (Tryz.strings_Join_none none 0 ⟨#[c]⟩ w).mono ?_
    rintro e w' ⟨rfl, rfl⟩
    exact ⟨rfl, Kept.refl _ _⟩
  · refine (Tryz.strings_Join g 0 cap ms ⟨#[c]⟩ w (fun j x hx => ?_) (block_lt hg) (by omega) hcap (by show (jl ms c).length ≤ _; omega)).mono ?_
    · have hj : j < ms.length := (List.getElem?_eq_some_iff.1 hx).1
      have := World.ownsRow.cellAt hm j (by omega)
      rw [Nat.zero_add, this]
      simp [sv, hx]
    · rintro e w' ⟨rfl, hB⟩
      exact ⟨rfl, Kept.of_below hB _⟩
theorem four_row (w : World) (a b c d : ByteArray) : Mem (w.alloc (.cells #[.string a, .string b, .string c, .string d] 9)) (.slice (some ⟨w.heap.size, 0, none⟩) 4 4) [a, b, c, d] :=
  ⟨rfl, Or.inr ⟨_, _, _, rfl, Nat.zero_le _, (MapKept.heap_alloc w _).1, Nat.le_refl _, by decide, rfl, rfl⟩⟩
set_option maxHeartbeats 4000000 in
set_option maxRecDepth 100000 in
theorem lineOf_any (w : World) (a : Acc) (v : Value) (hm : Mem w v a.members) (hn : a.name.size ≤ 32) (hl : a.leader.size ≤ 32) (hk : a.key.size ≤ 32) (hz : ∀ m ∈ a.members, m.size ≤ 32) (hlen : a.members.length ≤ 65537) :
    Calls Tryz.prog 30 #[accV a.name a.leader a.key v] w fun e w' => e = .returned (.string (bA (lineL a))) ∧ Kept [] w w' := by
  obtain ⟨name, leader, ms, key⟩ := a
  simp only at hm hn hl hk hz hlen ⊢
  obtain ⟨va, vc, rfl⟩ := hm.slice
  unfold accV
  have hjm := jl_length ms 44 32 hz
  have hjs : (bA (jl ms 44)).size ≤ 4194304 := by rw [← dl_length, dl_bA]; have : ms.length * (32 + 1) ≤ 65537 * 33 := Nat.mul_le_mul_right _ hlen; omega
  have J1 : Hid (∀ w', Kept [] w w' → Calls Tryz.prog 57 #[.slice va ms.length vc, .string ⟨#[44]⟩] w' fun e w'' => e = .returned (.string (bA (jl ms 44))) ∧ Kept [] w' w'') := fun w' k => join_any w' _ ms 44 (hm.kept0 k) (fun x hx => by have := hz x hx; omega) (by omega)
  have HLN : Hid (lineL ⟨name, leader, ms, key⟩ = jl [name, leader, bA (jl ms 44), key] 58) := by
    show _ = _
    unfold lineL jl
    simp only [List.map_cons, List.map_nil, dl_bA]
  obtain ⟨y, hy⟩ : ∃ y, y = bA (jl ms 44) := ⟨_, rfl⟩
  rw [← hy] at J1 HLN hjs
  have J2 : Hid (∀ w', Calls Tryz.prog 57 #[.slice (some ⟨w'.heap.size, 0, none⟩) 4 4, .string ⟨#[58]⟩] (w'.alloc (.cells #[.string name, .string leader, .string y, .string key] 9)) fun e w'' => e = .returned (.string (bA (jl [name, leader, y, key] 58))) ∧ Kept [] w' w'') := fun w' => by
    refine (join_any _ _ [name, leader, y, key] 58 (four_row w' name leader y key) (fun x hx => by simp at hx; rcases hx with rfl | rfl | rfl | rfl <;> omega) (show (4 : Nat) ≤ 1048576 by decide)).mono ?_
    rintro e w2 ⟨rfl, k2⟩
    exact ⟨rfl, ((Kept.refl [] w').alloc _).trans k2 (fun i hi => by cases hi)⟩
  obtain ⟨z, hz2⟩ : ∃ z, z = bA (lineL ⟨name, leader, ms, key⟩) := ⟨_, rfl⟩
  have HZ : Hid (bA (jl [name, leader, y, key] 58) = z) := by rw [hz2, HLN.out]; rfl
  rw [← hz2]
  rw [HZ.out] at J2
  obtain ⟨w1, hw1⟩ : ∃ w1, w1 = w.alloc (.cells #[.string name, .string leader, .slice va ms.length vc, .string key] 35) := ⟨_, rfl⟩
  obtain ⟨R1, hR1⟩ : ∃ R, R = w.heap.size := ⟨_, rfl⟩
  have K1 : Hid (Kept [] w w1) := by rw [hw1]; exact (Kept.refl _ _).alloc _
  have B1 : Hid (w1.heap[R1]? = some (.cells #[.string name, .string leader, .slice va ms.length vc, .string key] 35 (0, 0))) := by rw [hw1, hR1]; exact (MapKept.heap_alloc w _).1
  have HW1 := Lib.hid hw1
  have HR1 := Lib.hid hR1
  have CELLS : Hid (∀ wr, Kept [] w1 wr → wr.cell? ⟨R1, 0, none⟩ = some (.string name) ∧ wr.cell? ⟨R1, 1, none⟩ = some (.string leader) ∧ wr.cell? ⟨R1, 2, none⟩ = some (.slice va ms.length vc) ∧ wr.cell? ⟨R1, 3, none⟩ = some (.string key)) := fun wr k => by
    obtain ⟨a, b, c, d, -⟩ := four ((k.block _ (block_lt B1.out) (by simp)).trans B1.out)
    exact ⟨a, b, c, d⟩
  have kd : Kept [] w1 w1.drew := (Kept.refl [] w1).drew
  have J1d := Lib.hid (J1.out w1.drew (K1.out.trans kd (fun i hi => by cases hi)))
  clear hw1 hR1 hm hz hz2 hy HLN J1 hjm hjs
  go_enter Tryz.func30, Tryz.ntmps30
  go_wp2_with fail
  rw [← HW1.out, ← HR1.out]
  obtain ⟨s0, s1, s2, s3⟩ := CELLS.out w1 (Kept.refl _ _)
  go_region_held3 (fun w' => w'.cell? ⟨R1, 0, none⟩ = some (Value.string name) ∧ w'.cell? ⟨R1, 1, none⟩ = some (Value.string leader) ∧ w'.cell? ⟨R1, 2, none⟩ = some (Value.slice va ms.length vc) ∧ w'.cell? ⟨R1, 3, none⟩ = some (Value.string key)) (first | exact CELLS.out _ kd | exact CELLS.out _ K4 | exact CELLS.out _ (K4.alloc _) | exact CELLS.out _ K5) (first | (go_at_call_of 57 (Value.slice va ms.length vc); refine J1d.out.mono ?_; rintro e w4 ⟨rfl, k4⟩; have K4 : Kept [] w1 w4 := kd.trans k4 (fun i hi => by cases hi)) | (go_at_call_of 57 (Value.slice (some ⟨w4.heap.size, 0, none⟩) 4 4); refine (J2.out w4).mono ?_; rintro e w5 ⟨rfl, k5⟩; have K5 : Kept [] w1 w5 := K4.trans k5 (fun i hi => by cases hi)))
  go_wp2_with fail
  go_ret
  exact ⟨rfl, K1.out.trans K5 (fun i hi => by cases hi)⟩
end Us
end Go.Proofs.YteeheapenfklcaaGreatDoor
